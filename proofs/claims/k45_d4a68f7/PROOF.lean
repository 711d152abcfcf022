import PyProof.Rows.All
import Wide.All
import OpenK.AllK
import Wide.FinOn
import HandS.ForMost
import HandS.Exc
import HandS.ExcCtx
import HandS.TryOnly
import HandS.ExcInit
import HandS.IsInst
import HandS.ExcIs
import HandS.ExcField
import HandS.SortKw
import HandS.FStr
import HandS.Wide
import KE.DataMinMax
import PyProof.StrBlock2
import PyProof.Rows.RuleB_pow
import HandS.SlotsOwn
import HandS.Property
import HandS.OwnEq
import KE.KOpsOwn
import OpenK.KOps
import HandS.WordsExc
import HandS.Defaults
import HandS.EndBits
import KE.KStateDown
import Lean
import HandS.Head0
import HandS.Head1
import HandS.Head2
import HandS.HeadEnd
import HandS.HeadHook1
import HandS.HeadHook2
import HandS.TupSets
import KE.KCallOwn
import PyProof.InstEq
import HandS.Style
import HandS.SortInts
import HandS.Zip
import HandS.SetFor
import HandS.Strs
import HandS.SortOrd
import HandS.SortRule
import KE.KDictSum
import HandS.ForExc
import HandS.Conv
import HandS.DictComp
import HandS.DictTup
import HandS.ListItems
import HandS.Small
import HandS.Walk
import HandS.Flow
import KE.SortData
import HandS.Deep
import PySem.Challenge.RW_plotpens_k45_pictures_made
set_option Elab.async false
set_option linter.all false
set_option maxRecDepth 100000
set_option maxHeartbeats 4000000
/-! a try whose clause keeps the exception: behind it the exception stands tracked -/
namespace RT
open PySem PySem.Spec PyProof.Rows L2 L2N
/-- an exception that was caught, at a: its class, its own dict -/
def ExT (a : Addr) (cls : Value) (d : Option Addr) : HO := .ext fun h => ∃ (oe : Obj) (vs : Array Value), h.get? a = some oe ∧ oe.cls = cls ∧ oe.dict = d ∧ oe.data = .fields vs
theorem exT_ok {P : Program} {w : World} {H : Hp} {h : Heap} {a : Addr} {cls : Value} {d : Option Addr} {oe : Obj} {vs : Array Value} (e : h.get? a = some oe) (z : oe.cls = cls) (z2 : oe.dict = d) (dd : oe.data = .fields vs) : ObjOk P w H h a (ExT a cls d) :=
  ⟨⟨oe, vs, e, z, z2, dd⟩, ⟨oe, e⟩, fun _ _ ⟨o, v, q, r⟩ k => ⟨o, v, k o q, r⟩⟩
section
variable {X : Cx} {pins : List (Addr × Obj)} {σ : L2.St} {H : Hp} {s : Shared}
theorem Inv.trackX {a : Addr} {o : HO} {oe : Obj} (I : Inv X pins σ H s) (he : s.heap.get? a = some oe) (hn : H a = none) (n0 : X.s_0.heap.get? a = none) (nL : a ≠ X.env.locals)
    (nC : ∀ x c, X.env.cells.lookup x = some c → c ≠ a) (nP : ∀ p ∈ X.pn ++ pins, p.1 ≠ a) (new : ObjOk X.prog X.w (upd H a o) s.heap a o) : Inv X pins σ (upd H a o) s := by
  have ne0 : ∀ b u, X.s_0.heap.get? b = some u → b ≠ a := fun b u e z => by
    rw [z, n0] at e
    cases e
  have neH : ∀ b u, H b = some u → b ≠ a := fun b u e z => by
    rw [z, hn] at e
    cases e
  refine ⟨I.ok, I.os, I.bare, ⟨I.base.keep, I.base.slot, fun b u e n hx => ?_, I.base.there, fun b xs e => ?_, fun b u xs e => ?_, fun b ps e => ?_⟩, I.loc, I.cell, ?_, fun x c e => ?_, fun p hp => ?_, fun b u e => ?_, I.len⟩
  · rw [upd_ne (ne0 b u e)]
    exact I.base.free b u e n hx
  · have q := I.base.tups b xs e
    rw [upd_ne (neH b _ q)]
    exact q
  · have q := I.base.frzs b u xs e
    rw [upd_ne (neH b _ q)]
    exact q
  · obtain ⟨m, q⟩ := I.base.tbls b ps e
    refine ⟨m, ?_⟩
    rw [upd_ne (neH b _ q)]
    exact q
  · rw [upd_ne (Ne.symm nL)]
    exact I.free
  · rw [upd_ne (nC x c e)]
    exact I.freeC x c e
  · obtain ⟨q1, q2, q3, q4, q5⟩ := I.pin p hp
    refine ⟨q1, ?_, q3, q4, q5⟩
    rw [upd_ne (nP p hp)]
    exact q2
  · by_cases hb : b = a
    · subst hb
      rw [upd_same] at e
      cases e
      exact new
    · rw [upd_ne hb] at e
      refine (I.hok b u e).stay (fun c v _ q => q) (fun c q => ?_) fun c xs q => ?_
      · rw [upd_ne (neH c _ q)]
        exact q
      · rw [upd_ne (neH c _ q)]
        exact q
end
/-- as wAs, but behind the suite the exception is tracked -/
def wAsT (K : PySem.W.Frag) (c : Value) (i : Nat) (ts : Addr → Value → Option Addr → TS) (Wout : WX) (D : Ends) : WX := fun cls d σ H =>
  ∃ b, PySem.W.exmOne K cls c = some b ∧ (b = true → ∀ a, H a = none → ts a cls d { nx := fun σ' H' => D.nx (σ'.set i none) (upd H' a (ExT a cls d)), rt := D.rt, bk := fun σ' H' => D.bk (σ'.set i none) H', ct := fun σ' H' => D.ct (σ'.set i none) H' } (σ.set i (some (.ref a))) H) ∧
    (b = false → Wout cls d σ H)
section
variable {X : Cx} {body : List Stmt} {pos pos' np : Pos} {tb : WX → TS} {Wout : WX} {i : Nat} {n x : Str} {c : Value} {b₀ : Stmt} {suite : List Stmt} {ts : Addr → Value → Option Addr → TS}
theorem ps_try_asT (hs : X.stack = X.env :: X.outer) (hf : X.env.frame = some X.env.locals) (hex : X.ex = []) (hN : X.N.Nodup) (hi : X.N[i]? = some n) (hln : X.env.kindOf n = some .local) (hc : Names X x c) (tk : L2N.Takes X Wout)
    (hb : ∀ (W : WX) (pn : List (Addr × Obj)) (xe : Value → Shared → Prop), L2N.Takes (X.tr pn xe) W → PassesOwn (model X.prog X.w) X.A X.env xe → PSs (X.tr pn xe) body (tb W))
    (hsu : ∀ (a : Addr) (oe : Obj) (cls : Value) (d : Option Addr) (pn : List (Addr × Obj)), Zn cls d oe → (∃ vs, oe.data = .fields vs) → PSs (X.suite a ((a, oe) :: pn)) (b₀ :: suite) (ts a cls d)) :
    PS X (.Try body [.ExceptHandler (some (.Name x np)) (some n) (b₀ :: suite) pos'] [] [] pos) (fun D σ H => tb (wAsT X.K c i ts Wout D) D σ H) := by
  refine ⟨fun pins s σ H D I h => ?_⟩
  have okX := I.ok
  have frEq : X.A.frames = some (X.env :: X.outer) := by rw [okX.frames, hs]
  have locN : Loc X.env.scope n := .inl hln
  refine wpAny_Try_except ?_
  refine wpAny_mono ((hb (wAsT X.K c i ts Wout D) (X.pn ++ pins) (fun e s₁ => wpAny (model X.prog X.w) X.A (noteFrame e X.env) (fun _ s₂ => wpAny (model X.prog X.w) X.A (setFlight e none) (fun _ s₃ =>
    wpAny (model X.prog X.w) X.A (handleBy e X.env [.ExceptHandler (some (.Name x np)) (some n) (b₀ :: suite) pos']) (SP X pins D) X.xe s₃) X.xe s₂) X.xe s₁) (fun u s' wish => ?_) PassesOwn.looking).run [] s σ H D (I.toTry _) h) (fun f s1 spq => ?_) (fun e s1 he => he)
  · -- the catch
    obtain ⟨a, B, sI, pins', σ', H', cls, d, rfl, J0, botB, up, airA, frA, osE, agE, b, exB, yesB, noB⟩ := wish
    have J : Inv X pins σ' H' sI := J0.ofTry okX
    have airB : Sky B (X.env :: X.outer) a (Zn cls d) X.env.locals s'.heap := by rw [← hs]; exact airA
    show wpAny (model X.prog X.w) X.A (noteFrame (.ref a) X.env) _ _ _
    refine Sky.land Zn.steady frEq hf airB fun hpA flyA growA => ?_
    have JA : Inv X pins σ' H' { s' with heap := hpA } := J.landed botB flyA.1 (up.trans growA) osE agE
    obtain ⟨oA, fvA, atA, znA, flA⟩ := flyA.there
    have noFrame : ∀ {h : Heap} {o : Obj} {vs : Array Value}, h.FunFrames B (X.env :: X.outer) → h.get? a = some o → o.data = .fields vs → a ∉ frs (X.env :: X.outer) := fun {h o vs} ff e dd hmm => by
      obtain ⟨_, o', e', hnf⟩ := ff.mem hmm
      rw [e] at e'; cases e'
      exact hnf _ dd
    have offFr := noFrame flyA.2.2.1 atA flA
    have nL : a ≠ X.env.locals := fun z => offFr (List.mem_filterMap.mpr ⟨X.env, List.mem_cons_self, by rw [hf, z]⟩)
    have nF : a ∉ X.fs := fun hmm => by
      obtain ⟨e, he, q⟩ := List.mem_filterMap.mp hmm
      exact offFr (List.mem_filterMap.mpr ⟨e, List.mem_cons_of_mem _ he, q⟩)
    have nI : ∀ o, sI.heap.get? a = some o → False := fun o e => by
      have q := botB a o e (by rw [hs]; exact offFr)
      rw [flyA.2.1] at q
      cases q
    have n0 : X.s_0.heap.get? a = none := by
      cases e : X.s_0.heap.get? a with
      | none => rfl
      | some o =>
        obtain ⟨o', e'⟩ := J.base.there a o e (by rw [hex]; exact fun z => nomatch z)
        exact (nI o' e').elim
    have nC : ∀ x c, X.env.cells.lookup x = some c → c ≠ a := fun x c e z => by
      obtain ⟨v, o, ho, _⟩ := J.cell x c e
      rw [z] at ho
      exact nI o ho
    have nP : ∀ p ∈ X.pn ++ pins, p.1 ≠ a := fun p hp z => by
      have q := (J.pin p hp).1
      rw [z] at q
      exact nI _ q
    have SA := JA.suite atA flA frA nL nF
    refine wpAny_handleBy_cons (codeAny_handlers_test ?_) (by intro q; cases q)
    have lookT : PySem.W.Looks (model X.prog X.w) hpA (typeOf (.ref a)) cls := fun A Q E s k q => wpAny_typeOf_ref (k _ _ atA) (by rw [znA.1]; exact q)
    have lookM := PySem.W.exm_one (M := model X.prog X.w) (JA.kIn) lookT exB
    have asks : ∀ {Q : Value → Shared → Prop} {E : Value → Shared → Prop}, Q c { s' with heap := hpA } → wpAny (model X.prog X.w) (X.A.mark (some (.ref a))) (eval (.Name x np) X.env) Q E { s' with heap := hpA } := fun {Q E} q => by
      obtain ⟨hg, hdbg, hmm | ⟨hmm, hv, hnn⟩⟩ := hc
      · exact ld_glob (X := X.suite a ((a, oA) :: (X.pn ++ pins))) SA hg hmm q hdbg
      · exact ld_blt (X := X.suite a ((a, oA) :: (X.pn ++ pins))) SA hg hmm hv q hnn hdbg
    refine asks (lookM.here ?_)
    cases b with
    | true =>
      refine codeAny_handlers_suite_as ?_
      refine HandSPX.lands_againZ flyA fun hpB flyB growB => ?_
      have JB : Inv X pins σ' H' { s' with heap := hpB } := J.landed botB flyB.1 ((up.trans growA).trans growB) osE agE
      obtain ⟨oB, fvB, atB, znB, flB⟩ := flyB.there
      have SB4 := JB.suite atB flB frA nL nF
      refine store_ok (X := X.suite a ((a, oB) :: (X.pn ++ pins))) (v := .ref a) SB4 hN hi locN rfl (fun sS SS => ?_) (.inr hln)
      refine wpAny_mono ((hsu a oB cls d (X.pn ++ pins) znB ⟨_, flB⟩).run [] sS _ H' _ SS (yesB rfl a frA)) (fun f sT spq => ?_) (fun _ _ z => False.elim z)
      have endO : ∀ {σT : L2.St} {HT : Hp} {Q : Shared → Prop}, Inv (X.suite a ((a, oB) :: (X.pn ++ pins))) [] σT HT sT → (∀ sU, Inv X pins (σT.set i none) HT sU → Q sU) →
          wpAny (model X.prog X.w) X.A (do bindName X.env n .none; unbindBehindTheSuite X.env n pos') (fun _ sU => Q sU) X.xe sT := fun {σT HT Q} ST hq => gone_ok (ST.unsuite okX) hN hi hln hq
      have endT : ∀ {σT : L2.St} {HT : Hp} {Q : Shared → Prop}, Inv (X.suite a ((a, oB) :: (X.pn ++ pins))) [] σT HT sT → (∀ sU, Inv X pins (σT.set i none) (upd HT a (ExT a cls d)) sU → Q sU) →
          wpAny (model X.prog X.w) X.A (do bindName X.env n .none; unbindBehindTheSuite X.env n pos') (fun _ sU => Q sU) X.xe sT := fun {σT HT Q} ST hq => by
        obtain ⟨p1, p2, _⟩ := ST.pin (a, oB) (List.mem_append_left _ List.mem_cons_self)
        refine gone_ok (Inv.trackX (ST.unsuite okX) p1 p2 n0 nL nC nP (exT_ok p1 znB.1 znB.2.1 flB)) hN hi hln hq
      cases f with
      | next =>
        obtain ⟨σT, HT, ST, qT⟩ := spq
        exact endT ST fun sU JU => ⟨_, _, JU, qT⟩
      | brk =>
        obtain ⟨σT, HT, ST, qT⟩ := spq
        exact endO ST fun sU JU => ⟨_, _, JU, qT⟩
      | cont =>
        obtain ⟨σT, HT, ST, qT⟩ := spq
        exact endO ST fun sU JU => ⟨_, _, JU, qT⟩
      | ret u =>
        obtain ⟨vT, σT, HT, ST, rT, qT⟩ := spq
        exact endO ST fun sU JU => ⟨_, _, _, JU, rT, qT⟩
    | false =>
      show wpAny _ X.A (handleBy (.ref a) X.env []) _ _ _
      refine wpAny_handleBy_nil ?_
      obtain ⟨k1, k2, k3, oe, vs, T, oT, ts', he, hz, hd, h1, hr⟩ := id flyA
      unfold PySem.passOn
      refine wpAny_bind (wpAny_field he hd h1 ?_)
      rw [if_neg (show ¬ ((Value.ref T == Value.none) = true) from by simp)]
      have outW : wpAny (model X.prog X.w) X.A (setFlight (.ref a) X.env.frame) (fun _ s4 => wpAny (model X.prog X.w) X.A (throw (.ref a) : Sem Flow) (SP X pins D) X.xe s4) X.xe { s' with heap := hpA } := by
        rw [hf]
        refine HandSPX.setFlight_upZ flyA fun hpB heldB growB => wpAny_throw (tk _ _ ?_)
        exact ⟨a, B, sI, pins, σ', H', cls, d, rfl, J, botB, (up.trans growA).trans growB, .inr (.inr (by rw [hs]; exact heldB)), frA, osE, agE, noB rfl⟩
      first
        | exact wpAny_bind (wpAny_pure (wpAny_bind outW))
        | exact wpAny_bind outW
  · cases f with
    | next =>
      obtain ⟨σ', H', J0, q⟩ := spq
      exact wpAny_execs_nil ⟨σ', H', J0.ofTry okX, q⟩
    | brk =>
      obtain ⟨σ', H', J0, q⟩ := spq
      exact ⟨σ', H', J0.ofTry okX, q⟩
    | cont =>
      obtain ⟨σ', H', J0, q⟩ := spq
      exact ⟨σ', H', J0.ofTry okX, q⟩
    | ret u =>
      obtain ⟨v, σ', H', J0, r, q⟩ := spq
      exact ⟨v, σ', H', J0.ofTry okX, r, q⟩
end
end RT

set_option Elab.async false
set_option linter.all false
set_option maxRecDepth 100000
set_option maxHeartbeats 4000000
/-! isinstance, fields of an exception that was caught and kept -/
namespace PySem.W
open PyProof.Rows
section
variable {prog : Program} {w : World} {A : Around} {E : Value → Shared → Prop} {s : Shared} {K : Frag} {x D : Addr} {ox : Obj} {od : Option Obj}
theorem kin_classX {Q : Option Value → Shared → Prop} (dGet : findIn K (.ref D) "__getattribute__" = some (some (.builtin "BaseException.__getattribute__"))) (dAlt : findIn K (.ref D) "__getattr__" = some none) (dSub : subIn K (.ref D) (.type "BaseException") = some true)
    (dDic : hasDictIn K D = true) (dCls : findIn K (.ref D) "__class__" = some (some (.builtin "object.__class__")))
    (dDes : specialIn K (.builtin "object.__class__") "__get__" = some (some (.builtin "getset_descriptor.__get__"))) (dTak : takesIn K (.builtin "object.__class__") = some true) (dMro : mroIn K D (.type "object") = some true)
    (X : K.In s.heap) (I : InstAt s.heap x ox D od) (h : Q (some (.ref D)) { s with toks := s.toks + 1 }) : wpAny (model prog w) A (getAttr? (.ref x) "__class__") Q E s := by
  have isC : (clsIn K D).isSome = true := by obtain ⟨cd, hc, _⟩ := any_some dDic; rw [hc]; rfl
  have found : findObj K D od "__class__" = some (.bind (.builtin "getset_descriptor.__get__") (.builtin "object.__class__")) := by
    cases od with
    | none => exact findObj_dataN isC dCls dDes dTak
    | some o => exact findObj_data isC dCls dDes dTak
  obtain ⟨hq0, g, d, t, os⟩ := s
  have k0 := I.type (M := model prog w)
  have k1 := looks_findIn (M := model prog w) X dGet
  have k2 := looks_findIn (M := model prog w) X dAlt
  have k3 := looks_find (M := model prog w) X I found
  have below : Looks (model prog w) hq0 (isInstance (.ref x) (.type "BaseException")) true := k0.andThen (looks_subIn X dSub)
  have z0 : (false && onTheHeap (Value.builtin "BaseException.__getattribute__")) = false := rfl
  have z2 : (Value.builtin "BaseException.__getattribute__" == Value.builtin "object.__getattribute__") = false := by decide +kernel
  have z1 : (onTheHeap (Value.ref D) && Value.builtin "BaseException.__getattribute__" == Value.builtin "object.__getattribute__") = false := by rw [z2]; rfl
  unfold getAttr? getAttrBy? getAttrBy
  refine wpAny_bind (wpAny_mkText (wpAny_bind (wpAny_attempt (wpAny_holding (wpAny_bind (k0.at (wpAny_bind (k1.at ?_))))))))
  show wpAny _ _ (if (onTheHeap (Value.ref D) && Value.builtin "BaseException.__getattribute__" == Value.builtin "object.__getattribute__") = true then _ else _) _ _ _
  rw [z1, if_neg Bool.false_ne_true]
  unfold getAttrByItsOwn hookBefore
  refine wpAny_bind ?_
  rw [if_pos (show onTheHeap (Value.ref D) = true from rfl)]
  refine k2.at ?_
  refine wpAny_bind (wpAny_attempt (wpAny_holding ?_))
  unfold callGetattribute
  rw [z0, if_neg Bool.false_ne_true]
  unfold boundAndCalled
  rw [PySem.F.excAttr_ValueError.ga.bind (.ref x)]
  refine wpAny_bind (wpAny_pure ?_)
  show wpAny _ _ (call (.builtin "BaseException.__getattribute__") [.ref x, .str "__class__" t]) _ _ _
  refine wpAny_call (codeAny_call_builtin PySem.F.excAttr_ValueError.ga.plain PySem.F.entry_bexc_ga ?_)
  refine @check_slot (model prog w) _ _ ⟨hq0, g, d, t + 1, os⟩ "BaseException.__getattribute__" "BaseException" "__getattribute__" (.ref x) [.str "__class__" t] [] _ (by decide +kernel) (by decide +kernel) below (PySem.F.args_bexc_ga (.ref x) (.str "__class__" t)) ?_
  unfold Builtin.«object.__getattribute__»
  refine wpAny_bind (wpAny_of_eq (a := ((Value.ref x : Value), [Value.str "__class__" t])) (by first | rfl | (simp only [slotArgs]; rfl)) ?_)
  refine wpAny_bind (wpAny_pure (wpAny_bind (k0.at (wpAny_bind (k3.at ?_)))))
  show wpAny _ _ (holding [Value.builtin "object.__class__"] (call (.builtin "getset_descriptor.__get__") [.builtin "object.__class__", .ref x, .ref D]) >>= ret) _ _ _
  refine wpAny_bind (wpAny_holding (wpAny_call (class_get (s := ⟨hq0, g, d, t + 1, os⟩) (ox := ox) (od := od) X I dMro ?_)))
  refine wpAny_pure ?_
  show wpAny _ _ (handedOut (.ref D)) _ _ _
  rw [handedOut_of (v := .ref D) rfl]
  first
    | exact wpAny_pure (wpAny_pure h)
    | exact wpAny_pure h
    | exact wpAny_pure (wpAny_bind (wpAny_pure (wpAny_pure h)))
theorem kitx_excX (dGet : findIn K (.ref D) "__getattribute__" = some (some (.builtin "BaseException.__getattribute__"))) (dAlt : findIn K (.ref D) "__getattr__" = some none) (dSub : subIn K (.ref D) (.type "BaseException") = some true) (dDic : hasDictIn K D = true) (dCls : findIn K (.ref D) "__class__" = some (some (.builtin "object.__class__")))
    (dDes : specialIn K (.builtin "object.__class__") "__get__" = some (some (.builtin "getset_descriptor.__get__"))) (dTak : takesIn K (.builtin "object.__class__") = some true) (dMro : mroIn K D (.type "object") = some true) :
    KitX K (.ref x) (.ref D) (fun h => InstAt h x ox D od) where
  ty := fun _ _ _ I => I.type
  it := fun _ _ X _ => by
    obtain ⟨cdx, hcx, _⟩ := any_some dDic
    unfold clsIn at hcx
    split at hcx
    · rename_i c1 d1 cd1 sl1 hob
      intro A1 Q1 E1 s1 k q
      unfold isType loadHead
      exact wpAny_bind (wpAny_loadPart (k _ _ (X _ _ hob)) (wpAny_pure q))
    · cases hcx
  ne := fun h tp dd its n sl X htup => by
    obtain ⟨cdx, hcx, _⟩ := any_some dDic
    refine Bool.eq_false_iff.mpr fun q => ?_
    have e : D = tp := Value.ref.inj (beq_iff_eq.mp q)
    subst e
    unfold clsIn at hcx
    split at hcx
    · rename_i c1 d1 cd1 sl1 hob
      have z := (X _ _ hob).symm.trans htup
      cases z
    · cases hcx
  ca := fun X I k => kin_classX dGet dAlt dSub dDic dCls dDes dTak dMro X I k
end
end PySem.W
namespace RT
open PySem PySem.Spec PyProof.Rows L2
/-- a value's type, exceptions that were kept too -/
inductive TyY (K : PySem.W.Frag) (H : Hp) : V → Value → Prop where
  | base {x : V} {t : Value} (h : TyX K H x t) : TyY K H x t
  | exc0 {a D : Addr} (e : H a = some (ExT a (.ref D) none)) (c : ExcC K D) : TyY K H (.ref a) (.ref D)
  | exc1 {a D dd : Addr} {fs : List (Str × V)} (e : H a = some (ExT a (.ref D) (some dd))) (e2 : H dd = some (.xd fs)) (c : ExcC K D) : TyY K H (.ref a) (.ref D)
theorem exT_get {P : Program} {w : World} {H : Hp} {h : Heap} {a : Addr} {cls : Value} {d : Option Addr} (I : HOk P w H h) (e : H a = some (ExT a cls d)) : ∃ (oe : Obj) (vs : Array Value), h.get? a = some oe ∧ oe.cls = cls ∧ oe.dict = d ∧ oe.data = .fields vs := (I a _ e).1
section
variable {X : Cx} {pins : List (Addr × Obj)} {σ : L2.St} {H : Hp} {s : Shared}
theorem inst_of {a D : Addr} {d : Option Addr} {od : Option Obj} (I : Inv X pins σ H s) (e : H a = some (ExT a (.ref D) d)) (h : match d, od with | none, none => True | some dd, some o => s.heap.get? dd = some o | _, _ => False) : ∃ oe vs, PySem.W.InstAt s.heap a oe D od ∧ oe.data = .fields vs := by
  obtain ⟨oe, vs, he, h1, h2, h3⟩ := exT_get I.hok e
  refine ⟨oe, vs, ⟨he, h1, by unfold PySem.W.notCls; rw [h3] <;> rfl, ?_⟩, h3⟩
  rw [h2]
  cases d with
  | none =>
    cases od with
    | none => trivial
    | some o => exact h
  | some dd =>
    cases od with
    | none => exact h
    | some o => exact h
theorem kit_ofY {x : V} {u t : Value} (I : Inv X pins σ H s) (rx : RelV x u) (ty : TyY X.K H x t) : ∃ P : Heap → Prop, PySem.W.KitX X.K u t P ∧ P s.heap ∧ u ≠ .builtin "__main__.__loader__#opaque" := by
  cases ty with
  | base h => exact kit_of I rx h
  | @exc0 a D e c =>
    cases (show u = Value.ref a from rx)
    obtain ⟨oe, vs, J, _⟩ := inst_of (od := none) I e trivial
    exact ⟨_, PySem.W.kitx_excX c.hg c.hk c.hs c.hd c.ha c.hn c.ht c.hm, J, fun z => nomatch z⟩
  | @exc1 a D dd fs e e2 c =>
    cases (show u = Value.ref a from rx)
    obtain ⟨mA, hns, hr⟩ := (show ObjOk X.prog X.w H s.heap dd (.xd fs) from I.hok dd _ e2)
    obtain ⟨od, ho, _⟩ := lookIn_ns hns
    obtain ⟨oe, vs, J, _⟩ := inst_of (od := some od) I e ho
    exact ⟨_, PySem.W.kitx_excX c.hg c.hk c.hs c.hd c.ha c.hn c.ht c.hm, J, fun z => nomatch z⟩
/-- isinstance(x, c); isinstance(x, (c1, c2, ..)) -/
def rIsiY (K : PySem.W.Frag) : List V → Hp → VK → Prop := fun xs H Q => ∃ (x c : V) (t u : Value) (b : Bool), xs = [x, c] ∧ ClsV c u ∧ TyY K H x t ∧ PySem.W.kitOne K t u = some b ∧ Q (.bl b) H
def rIsiTY (K : PySem.W.Frag) : List V → Hp → VK → Prop := fun xs H Q => ∃ (x : V) (tp : Addr) (cs : List V) (t : Value) (us : List Value) (b : Bool), xs = [x, .ref tp] ∧ H tp = some (.tup cs) ∧ Paired ClsV cs us ∧ TyY K H x t ∧ PySem.W.kitAny K t us = some b ∧ Q (.bl b) H
theorem vals2' {x y : V} {us : List Value} (r : Vals [x, y] us) : ∃ u v, us = [u, v] ∧ RelV x u ∧ RelV y v := Vals.two r
theorem call_isiY : CallR X (.builtin "isinstance") (rIsiY X.K) := by
  intro pins s σ H xs us Q I r h
  obtain ⟨x, c, t, u, b, rfl, k, ty, e, q⟩ := h
  obtain ⟨u1, u2, rfl, r1, r2⟩ := vals2' r
  have e2 := k.eq r2
  subst e2
  obtain ⟨P, Z, p, hx⟩ := kit_ofY I r1 ty
  exact PySem.W.kia_one Z I.kIn p e hx fun tk => ⟨.bl b, H, I.tok tk, rfl, q⟩
theorem call_isiTY : CallR X (.builtin "isinstance") (rIsiTY X.K) := by
  intro pins s σ H xs us Q I r h
  obtain ⟨x, tp, cs, t, ws, b, rfl, hT, k, ty, e, q⟩ := h
  obtain ⟨u1, u2, rfl, r1, r2⟩ := vals2' r
  cases (show u2 = Value.ref tp from r2)
  obtain ⟨P, Z, p, hx⟩ := kit_ofY I r1 ty
  obtain ⟨_, its, rv, o, h1, h2, n, h3⟩ := (show ObjOk X.prog X.w H s.heap tp (.tup cs) from I.hok tp _ hT)
  have e3 := ClsV.all k rv
  subst e3
  obtain ⟨oc, od, dt, sl⟩ := o
  simp only at h2 h3
  subst h2 h3
  exact PySem.W.kia_tup Z I.kIn p h1 e hx fun tk => ⟨.bl b, H, I.tok tk, rfl, q⟩
/-- e.f of a kept exception -/
def tXfT (K : PySem.W.Frag) (f : Str) (te : TE) : TE := fun σ H Q => te σ H fun x H1 => ∃ (a C dd : Addr) (fs : List (Str × V)) (v : V), x = .ref a ∧ XfC K C ∧ PySem.W.findIn K (.ref C) f = some none ∧ H1 a = some (ExT a (.ref C) (some dd)) ∧ H1 dd = some (.xd fs) ∧ fs.lookup f = some v ∧ Q v H1
theorem pe_xfT {e : Expr} {te : TE} {pos : Pos} {n : Str} (he : PE X e te) (hb : attributeBase e n X.env (eval e X.env) = eval e X.env := by rfl) : PE X (.Attribute e n pos) (tXfT X.K n te) := by
  refine ⟨fun pins s σ H Q I h => ?_⟩
  refine attr_of hb (thn (he.run pins s σ H _ I h) fun u s1 hh => ?_)
  obtain ⟨x, H1, I1, rx, a, C, dd, fs, v, ex, T, hno, ea, ed, l, q⟩ := hh
  subst ex
  obtain rfl : u = Value.ref a := rx
  obtain ⟨mA, hns, hr⟩ := (show ObjOk X.prog X.w H1 s1.heap dd (.xd fs) from I1.hok dd _ ed)
  obtain ⟨od, ho, hl⟩ := lookIn_ns hns
  obtain ⟨u, hu, ru⟩ := RelO.some_of (v := v) (o := mA n) (by rw [← l]; exact hr n)
  obtain ⟨oe, vs, J, _⟩ := inst_of (od := some od) I1 ea ho
  exact HandSPX.exc_get I1.kIn J T.ga T.gg T.exC (PySem.W.findObj_own T.hdC hno rfl (by rw [hl, hu])) (handed_of ru) ⟨v, H1, I1.tok _, ru, q⟩
end
end RT

set_option Elab.async false
set_option linter.all false
set_option maxRecDepth 100000
set_option maxHeartbeats 4000000
namespace RT
open PySem PySem.Spec PyProof.Rows L2
section
variable {X : Cx} {e : Expr} {es : List Expr} {ta : TA} {p1 p2 pos : Pos}
/-- Base.__init__(self, ..), Base an own class over ValueError without an __init__ -/
theorem pe_ceinit {pl : Sem Bool} {x : Str} {C0 : Addr} {mc : Value} (hg : Gl X x) (hm : X.mg x = some (.ref C0)) (ga : PySem.W.specialIn X.K (.ref C0) "__getattribute__" = some (some (.builtin "type.__getattribute__")))
    (ty : PySem.W.typeIn X.K (.ref C0) = some mc) (hr : PySem.W.readsIn X.K C0 mc = true) (vV : PySem.W.findCls X.K (.ref C0) mc "__init__" = some (.val (.builtin "ValueError.__init__"))) (ha : PA X (e :: es) ta)
    (hc : eval (.Call (.Attribute (.Name x p1) "__init__" p2) (e :: es) [] pos) X.env = (do
      let ov ← eval (.Name x p1) X.env
      standAt p2.atName
      let (f, first) ← holding [ov] (getMethod ov "__init__" pl)
      callWith pos f first (backTo pos (starEach (e :: es) X.env)) (backToKw pos (keywordEach [] X.env))) := by rfl)
    (he : starEach (e :: es) X.env = (false, eval e X.env) :: starEach es X.env := by rfl) (hpl : (backTo pos (starEach es X.env)).any (·.1) = false := by rfl) (hdb : (x == ("__debug__" : Str)) = false := by decide) :
    PE X (.Call (.Attribute (.Name x p1) "__init__" p2) (e :: es) [] pos) (tVeI X.K ta) := by
  refine ⟨fun pins s σ H Q I h => ?_⟩
  refine PySem.W.methodCall_KW (ld_glob I hg hm ?_ hdb) hc
  obtain ⟨m, fr⟩ := I.fr
  refine PySem.W.method_of_cls fr I.ok.mod.kin ga (PySem.W.cls_val fr I.ok.mod.kin ty hr vV (by decide +kernel) ?_)
  show wpAny _ _ (callWith pos (Value.builtin "ValueError.__init__") [] (backTo pos (starEach (e :: es) X.env)) []) _ _ _
  refine PyProof.Rows.callWith_method1 (thn (ha.run pos pins _ σ H _ (I.tok _) h) fun us s1 ⟨vs, H1, I1, r1, a, C, ws, ev, hl, T, ea, q⟩ => ?_) he hpl
  subst ev
  cases r1 with
  | @cons _ u0 _ ur ra rw' =>
    obtain rfl : u0 = Value.ref a := ra
    have hlen : ur.length ≤ sizeLine := by
      rw [← Paired.length rw', sizeLine_eq]
      omega
    exact oinit_ok T I1 ea hlen fun s' J => ⟨.non, H1, J, rfl, q⟩
end
end RT

set_option Elab.async false
set_option linter.all false
set_option maxRecDepth 100000
set_option maxHeartbeats 4000000
/-! further rules: repr of an int or None, {x} of None, max(.., default=), powers of greater ints, s * n -/
namespace RT
open PySem PySem.Spec PyProof.Rows L2
section
variable {X : Cx}
theorem vals1' {x : V} {us : List Value} (r : Vals [x] us) : ∃ u, us = [u] ∧ RelV x u := Vals.one r
/-- repr(n), repr(None) -/
def rRepr0 : List V → Hp → VK → Prop := fun xs H Q => (∃ i, xs = [.int i] ∧ i.natAbs.log2 < 1920 ∧ Q (.str (toString i)) H) ∨ (xs = [.non] ∧ Q (.str "None") H)
theorem call_repr0 : CallR X (.builtin "repr") rRepr0 := by
  intro pins s σ H xs us Q I r h
  rcases h with ⟨i, rfl, hz, q⟩ | ⟨rfl, q⟩
  · obtain ⟨u, rfl, t, rfl⟩ := vals1' r
    exact PySem.P.repr_of_int hz ⟨.str _, H, I.tok _, ⟨_, rfl⟩, q⟩
  · obtain ⟨u, rfl, e⟩ := vals1' r
    obtain rfl : u = Value.none := e
    exact PySem.P.repr_of_none ⟨.str _, H, I.tok _, ⟨_, rfl⟩, q⟩
/-- {x}: a text, an int, None -/
def tFmt0 (te : TE) : TE := fun σ H Q => te σ H fun x H1 => (∃ y : Str, x = .str y ∧ y.length ≤ sizeLine ∧ Q (.str y) H1) ∨ (∃ i : Int, x = .int i ∧ i.natAbs.log2 < 1920 ∧ Q (.str (toString i)) H1) ∨ (x = .non ∧ Q (.str "None") H1)
theorem pe_fmt0 {e : Expr} {te : TE} {pos : Pos} (he : PE X e te) : PE X (.FormattedValue e (-1) none pos) (tFmt0 te) := by
  refine ⟨fun pins s σ H Q I h => ?_⟩
  refine wpAny_FormattedValue_plain (thn (he.run pins s σ H _ I h) fun v s1 hv => ?_)
  obtain ⟨x, H1, I1, r1, q⟩ := hv
  rcases q with ⟨y, rfl, hz, q⟩ | ⟨i, rfl, hz, q⟩ | ⟨rfl, q⟩
  · obtain ⟨t, rfl⟩ := r1
    exact wpAny_formatField_str ⟨.str y, H1, I1, ⟨t, rfl⟩, q⟩ ⟨.str y, H1, I1.tok _, ⟨_, rfl⟩, q⟩ hz
  · obtain ⟨t, rfl⟩ := r1
    exact wpAny_formatField_int hz ⟨.str (toString i), H1, I1.tok _, ⟨_, rfl⟩, q⟩
  · obtain rfl : v = Value.none := r1
    exact wpAny_formatField_none ⟨.str _, H1, I1.tok _, ⟨_, rfl⟩, q⟩
/-- max(xs, default=d) of ints -/
def maxI (d : Int) : List Int → Int
  | [] => d
  | n :: ns => ns.foldl max n
def rMaxD (K : PySem.W.Frag) : List V → List V → Hp → VK → Prop := fun xs zs H Q => ∃ (a : Addr) (ns : List Int) (d : Int), xs = [.ref a] ∧ zs = [.int d] ∧ SqL K H a (ns.map V.int) ∧ Q (.int (maxI d ns)) H
theorem alike_ints (ns : List Int) : PySem.W.AlikeAll (ns.map PyData.int) := by
  refine ⟨fun x hx y hy => ?_, fun x hx => ?_⟩
  · obtain ⟨i, _, rfl⟩ := List.mem_map.mp hx
    obtain ⟨j, _, rfl⟩ := List.mem_map.mp hy
    rfl
  · obtain ⟨i, _, rfl⟩ := List.mem_map.mp hx
    exact fun z => nomatch z
theorem depth_ints : ∀ ns : List Int, PyData.depthAll (ns.map PyData.int) ≤ 1
  | [] => by simp [PyData.depthAll]
  | n :: ns => by
    have h := depth_ints ns
    simp only [List.map_cons, PyData.depthAll, PyData.depth]
    omega
theorem crk_maxD (hc : X.calm = true) (hu : X.A.units + 64 < cLine) : CallRK X (.builtin "max") ["default"] (rMaxD X.K) := by
  intro pins s σ H xs zs us ws Q I rx rz h
  obtain ⟨a, ns, d, rfl, rfl, hs, q⟩ := h
  obtain ⟨u, rfl, e⟩ := vals1' rx
  obtain rfl : u = Value.ref a := e
  obtain ⟨z, rfl, t, rfl⟩ := vals1' rz
  obtain ⟨its, rv, hl0, _⟩ := I.list hs
  have hl := hl0.isList
  have hr := PySem.W.readsAll_of_ints (h := s.heap) rv.ints
  have hd := depth_ints ns
  refine PySem.W.max_list_default (I.ok.hd hc) hl (by simpa using hr) (alike_ints ns) (by omega) (fun e0 h' tk k => ?_) fun y ys i v h' tk bs e hv hR k => ?_
  · have en : ns = [] := List.map_eq_nil_iff.mp e0
    subst en
    exact ⟨.int d, H, I.kept k, ⟨_, rfl⟩, q⟩
  · cases ns with
    | nil => cases e
    | cons n ns =>
      obtain ⟨rfl, rfl⟩ := List.cons.inj e
      rw [PySem.W.maxD_ints] at hR
      cases hR
      exact ⟨.int _, H, I.kept k, ⟨_, rfl⟩, q⟩
/-- a ** b of greater ints -/
def CPowW (i j : Int) : Prop := 0 ≤ j ∧ (Builtin.Int.intBits i : Int) * j ≤ 2 ^ 27
theorem op_powW : OpR X (binaryOp .Pow) (rI CPowW fun i j => .int (i ^ j.toNat)) := opI fun _ _ _ _ _ _ _ hc q => PyProof.Rows.pow_int hc.1 hc.2 q
/-- s * n -/
def rMulS : R2 := fun x y H Q => ∃ z n, x = .str z ∧ y = .int n ∧ PySem.MulOk z n ∧ Q (.str (PySem.Txt.mul z n)) H
theorem op_mulS : OpR X (binaryOp .Mult) rMulS := by
  intro pins s σ H x y v u Q I rx ry h
  obtain ⟨z, n, rfl, rfl, ok, q⟩ := h
  obtain ⟨t, rfl⟩ := rx
  obtain ⟨t', rfl⟩ := ry
  exact SB.mul ok fun t2 k => ⟨.str _, H, I.tok k, ⟨_, rfl⟩, q⟩
end
end RT

set_option Elab.async false
set_option linter.all false
set_option maxRecDepth 100000
set_option maxHeartbeats 4000000
/-! operators, len, in, == by an own class's methods -/
namespace PySem.W
open Lean Elab Tactic Meta PySem PySem.Calls PyProof.Rows
section
variable {prog : Program} {w : World} {A : Around} {E : Value → Shared → Prop} {s : Shared} {K : Frag} {x C L f : Addr} {h₀ : Heap} {m : Str → Option Value} {ox : Obj} {od : Option Obj} {T : String}
theorem rt_binT {op : Operator} {b : Value} {fo ro rc : Option Value} {Q : Value → Shared → Prop} (F : Fr h₀ L s.heap m) (X₀ : K.In h₀) (I : InstAt s.heap x ox C od) (bT : Looks (model prog w) s.heap (typeOf b) (.type T)) (cF : selfFirst K C = true)
    (sF : findIn K (.ref C) (PySem.dunder op.info.2) = some (some (.ref f))) (fF : isFn K (.ref f) = true) (rF : findIn K (.ref C) (dunderR op.info.2) = some rc) (pF : rc = none ∨ ∃ g : Addr, rc = some (.ref g))
    (h1 : findIn K (.type T) (PySem.dunder op.info.2) = some fo) (h2 : findIn K (.type T) (dunderR op.info.2) = some ro) (uF : subIn K (.type T) (.ref C) = some false)
    (h : wpAny (model prog w) A (call (.ref f) [.ref x, b]) (CmpBack Q) E s) : wpAny (model prog w) A (binaryOp op (.ref x) b) Q E s := by
  have X := X₀.keeps F.keep
  obtain ⟨cdx, more, cdE, mroE⟩ := ksp_first cF
  rcases inf : op.info with ⟨sym, nm1⟩
  rw [inf] at sF rF h1 h2
  dsimp only at sF rF h1 h2
  have tried := ksp_try X I sF fF h
  obtain ⟨hp0, g, d, tk0, os⟩ := s
  have k1 : Looks (model prog w) hp0 (typeOf (.ref x)) (.ref C) := I.type
  have k2 : Looks (model prog w) hp0 (typeOf b) (.type T) := bT
  have k3 : Looks (model prog w) hp0 (fillsNumberSlot (.ref C) nm1) true := fills_K X cdE mroE sF
  have k4 : Looks (model prog w) hp0 (fillsNumberSlot (.type T) nm1) ((fo.isSome && !isSeqSlot fo) || (ro.isSome && !isSeqSlot ro)) := ksp_fillsT X h1 h2
  have k5 : Looks (model prog w) hp0 (isSubtype (.type T) (.ref C)) false := looks_subIn X uF
  have k6 : Looks (model prog w) hp0 (numberSlotInPython (.ref C) nm1) true := ksp_inPy X sF rF pF
  have k7 : Looks (model prog w) hp0 (numberSlotInPython (.type T) nm1) false := Looks.of_pure rfl
  have k8 : Looks (model prog w) hp0 (typeLookup (.type T) (dunderR nm1)) ro := looks_findIn X h2
  generalize ((fo.isSome && !isSeqSlot fo) || (ro.isSome && !isSeqSlot ro)) = side at k4
  have apart : (Value.ref C == Value.type T) = false := Bool.eq_false_iff.mpr fun q => by cases beq_iff_eq.mp q
  simp only [binaryOp, inf]
  refine wpAny_holding (wpAny_bind ?_)
  unfold binaryOp1
  refine wpAny_bind (k1.at (wpAny_bind (k2.at (wpAny_bind (k3.at ?_)))))
  simp only [apart, Bool.false_eq_true, if_false]
  cases side with
  | false =>
    ksp_lk
    refine wpAny_mono tried (fun r s' hrr => ?_) fun _ _ e => e
    obtain ⟨v, rfl, hqq⟩ := hrr
    ksp_lk
    exact hqq
  | true =>
    ksp_lk
    refine wpAny_mono tried (fun r s' hrr => ?_) fun _ _ e => e
    obtain ⟨v, rfl, hqq⟩ := hrr
    ksp_lk
    exact hqq
end
end PySem.W
namespace RT
open PySem PySem.Spec PyProof.Rows L2
section
variable {X : Cx} {CX : CXT} {k : Nat} {C f : Addr} {fd : FuncData} {ps : List Str} {sp : Sp} {E : XK}
/-- what is asked of an own operator's class beside its method, for a right operand of a built-in type -/
structure RightT (K : PySem.W.Frag) (C : Addr) (op : Operator) (T : String) : Prop where
  r0 : PySem.W.findIn K (.ref C) (dunderR op.info.2) = some none
  t1 : ∃ fo, PySem.W.findIn K (.type T) (PySem.dunder op.info.2) = some fo
  t2 : ∃ ro, PySem.W.findIn K (.type T) (dunderR op.info.2) = some ro
  sb : PySem.W.subIn K (.type T) (.ref C) = some false
/-- x op y, x an instance of the class at C, y one too, or of a built-in type -/
def rBinO (K : PySem.W.Frag) (C : Addr) (op : Operator) (sp : Sp) (E : XK) : R2 := fun x y H Q => ∃ a dx fs, x = .ref a ∧ H a = some (.ins C dx fs) ∧ ((∃ b dy gs, y = .ref b ∧ H b = some (.ins C dy gs)) ∨ ∃ T, TyY K H y (.type T) ∧ RightT K C op T) ∧ sp [x, y] H Q E
theorem op_binO {op : Operator} (hc : PySem.W.selfFirst X.K C = true) (hm : Meth X.K C (PySem.dunder op.info.2) f) (F : FnOk X.prog X.w X.K X.mg X.base CX k f fd ps sp) (hr : Room k X.A) (hb : Binds X.K fd ps []) (hx : Passes CX X E) : OpR X (binaryOp op) (rBinO X.K C op sp E) := by
  intro pins s σ H x y v u Q I rx ry h
  obtain ⟨a, dx, fs, rfl, ea, ty, q⟩ := h
  cases (show v = Value.ref a from rx)
  obtain ⟨mA, O, _⟩ := ins_get I.hok ea
  obtain ⟨od, J, _⟩ := O.look
  obtain ⟨m, hF⟩ := I.fr
  have go : wpAny (model X.prog X.w) X.A (call (.ref f) [.ref a, u]) (PySem.W.CmpBack (EP X pins σ Q)) X.xe s := by
    refine wpAny_mono (run_fn (ds := []) (dvs := []) F hr hb .nil hx I (vs := [.ref a, y]) (.cons rfl (.cons ry .nil)) q) (fun w s' z => ?_) fun _ _ x => x
    obtain ⟨z', H', I', rz, qz⟩ := z
    exact SlX.cmpback rz ⟨z', H', I', rz, qz⟩
  rcases ty with ⟨b, dy, gs, rfl, eb⟩ | ⟨T, ty, R⟩
  · cases (show u = Value.ref b from ry)
    obtain ⟨mB, O', _⟩ := ins_get I.hok eb
    obtain ⟨od', J', _⟩ := O'.look
    exact PySem.W.binop_K hF I.ok.mod.kin J J'.type hc hm.at_ hm.fn go
  · obtain ⟨P, Z, p, _⟩ := kit_ofY I ry ty
    obtain ⟨fo, t1⟩ := R.t1
    obtain ⟨ro, t2⟩ := R.t2
    exact PySem.W.rt_binT hF I.ok.mod.kin J (Z.ty _ _ I.kIn p) hc hm.at_ hm.fn R.r0 (.inl rfl) t1 t2 R.sb go
/-- -x, ~x -/
def rUnO (C : Addr) (sp : Sp) (E : XK) : V → Hp → VK → Prop := fun x H Q => ∃ a dx fs, x = .ref a ∧ H a = some (.ins C dx fs) ∧ sp [x] H Q E
theorem un_negO (hm : Meth X.K C "__neg__" f) (F : FnOk X.prog X.w X.K X.mg X.base CX k f fd ps sp) (hr : Room k X.A) (hb : Binds X.K fd ps []) (hx : Passes CX X E) : UnR X (unaryOp .USub) (rUnO C sp E) := by
  intro pins s σ H x v Q I rx h
  obtain ⟨a, dx, fs, rfl, ea, q⟩ := h
  cases (show v = Value.ref a from rx)
  obtain ⟨mA, O, _⟩ := ins_get I.hok ea
  obtain ⟨od, J, _⟩ := O.look
  obtain ⟨m, hF⟩ := I.fr
  exact PySem.W.ksp_neg hF I.ok.mod.kin J hm.at_ hm.fn (run_fn (ds := []) (dvs := []) F hr hb .nil hx I (vs := [.ref a]) (.cons rfl .nil) q)
theorem un_invO (hm : Meth X.K C "__invert__" f) (F : FnOk X.prog X.w X.K X.mg X.base CX k f fd ps sp) (hr : Room k X.A) (hb : Binds X.K fd ps []) (hx : Passes CX X E) : UnR X (unaryOp .Invert) (rUnO C sp E) := by
  intro pins s σ H x v Q I rx h
  obtain ⟨a, dx, fs, rfl, ea, q⟩ := h
  cases (show v = Value.ref a from rx)
  obtain ⟨mA, O, _⟩ := ins_get I.hok ea
  obtain ⟨od, J, _⟩ := O.look
  obtain ⟨m, hF⟩ := I.fr
  exact PySem.W.ksp_inv hF I.ok.mod.kin J hm.at_ hm.fn (run_fn (ds := []) (dvs := []) F hr hb .nil hx I (vs := [.ref a]) (.cons rfl .nil) q)
/-- x == y by x's own __eq__, y of any kind that does not go first -/
def rEqO (K : PySem.W.Frag) (C : Addr) (sp : Sp) (E : XK) : R2 := fun x y H Q => ∃ a dx fs t, x = .ref a ∧ H a = some (.ins C dx fs) ∧ ((∃ b dy gs, y = .ref b ∧ H b = some (.ins C dy gs) ∧ t = .ref C) ∨ TyY K H y t) ∧ PySem.W.notFirst K C t = true ∧ sp [x, y] H Q E
theorem op_eqO {op : CmpOp} (hop : ∀ a b, compareOp op a b = richCompare op a b) (hm : Meth X.K C (cmpInfo op).2.1 f) (F : FnOk X.prog X.w X.K X.mg X.base CX k f fd ps sp) (hr : Room k X.A) (hb : Binds X.K fd ps []) (hx : Passes CX X E) :
    OpR X (compareOp op) (rEqO X.K C sp E) := by
  intro pins s σ H x y v u Q I rx ry h
  obtain ⟨a, dx, fs, t, rfl, ea, ty, hn, q⟩ := h
  cases (show v = Value.ref a from rx)
  obtain ⟨mA, O, _⟩ := ins_get I.hok ea
  obtain ⟨od, J, _⟩ := O.look
  obtain ⟨m, hF⟩ := I.fr
  have L : PySem.W.Looks (model X.prog X.w) s.heap (typeOf u) t := by
    rcases ty with ⟨b, dy, gs, rfl, eb, rfl⟩ | ty
    · cases (show u = Value.ref b from ry)
      obtain ⟨mB, O', _⟩ := ins_get I.hok eb
      obtain ⟨od', J', _⟩ := O'.look
      exact J'.type
    · obtain ⟨P, Z, p, _⟩ := kit_ofY I ry ty
      exact Z.ty _ _ I.kIn p
  rw [hop]
  refine PySem.W.cmp_K (op := op) (tb := t) hr.units0 hF I.ok.mod.kin J L hn hm.at_ hm.fn ?_
  refine wpAny_mono (run_fn (ds := []) (dvs := []) F hr hb .nil hx I (vs := [.ref a, y]) (.cons rfl (.cons ry .nil)) q) (fun w s' z => ?_) fun _ _ x => x
  obtain ⟨z', H', I', rz, qz⟩ := z
  exact SlX.cmpback rz ⟨z', H', I', rz, qz⟩
/-- y in x by x's own __contains__, which hands back a bool -/
def rInO (C : Addr) (sp : Sp) (E : XK) (neg : Bool) : R2 := fun y x H Q => ∃ a dx fs, x = .ref a ∧ H a = some (.ins C dx fs) ∧ sp [x, y] H (fun v H' => ∃ b, v = .bl b ∧ Q (.bl (if neg then !b else b)) H') E
theorem op_inO (hm : Meth X.K C "__contains__" f) (F : FnOk X.prog X.w X.K X.mg X.base CX k f fd ps sp) (hr : Room k X.A) (hb : Binds X.K fd ps []) (hx : Passes CX X E) : OpR X (compareOp .In) (rInO C sp E false) := by
  intro pins s σ H y x u v Q I ry rx h
  obtain ⟨a, dx, fs, rfl, ea, q⟩ := h
  cases (show v = Value.ref a from rx)
  obtain ⟨mA, O, _⟩ := ins_get I.hok ea
  obtain ⟨od, J, _⟩ := O.look
  obtain ⟨m, hF⟩ := I.fr
  refine PySem.W.in_K hF I.ok.mod.kin J hm.at_ hm.fn (wpAny_mono (run_fn (ds := []) (dvs := []) F hr hb .nil hx I (vs := [.ref a, y]) (.cons rfl (.cons ry .nil)) q) (fun w s' z => ?_) fun _ _ x => x)
  obtain ⟨z', H', I', rz, b, rfl, qz⟩ := z
  cases (show w = Value.bool b from rz)
  exact wpAny_truthy_bool ⟨.bl b, H', I', rfl, qz⟩
theorem op_notInO (hm : Meth X.K C "__contains__" f) (F : FnOk X.prog X.w X.K X.mg X.base CX k f fd ps sp) (hr : Room k X.A) (hb : Binds X.K fd ps []) (hx : Passes CX X E) : OpR X (compareOp .NotIn) (rInO C sp E true) := by
  intro pins s σ H y x u v Q I ry rx h
  obtain ⟨a, dx, fs, rfl, ea, q⟩ := h
  cases (show v = Value.ref a from rx)
  obtain ⟨mA, O, _⟩ := ins_get I.hok ea
  obtain ⟨od, J, _⟩ := O.look
  obtain ⟨m, hF⟩ := I.fr
  refine PySem.W.notIn_K hF I.ok.mod.kin J hm.at_ hm.fn (wpAny_mono (run_fn (ds := []) (dvs := []) F hr hb .nil hx I (vs := [.ref a, y]) (.cons rfl (.cons ry .nil)) q) (fun w s' z => ?_) fun _ _ x => x)
  obtain ⟨z', H', I', rz, b, rfl, qz⟩ := z
  cases (show w = Value.bool b from rz)
  exact wpAny_truthy_bool ⟨.bl (!b), H', I', rfl, qz⟩
/-- len(x) by x's own __len__ -/
def rLenO (C : Addr) (sp : Sp) (E : XK) : List V → Hp → VK → Prop := fun xs H Q => ∃ a dx fs, xs = [.ref a] ∧ H a = some (.ins C dx fs) ∧ sp [.ref a] H (fun v H' => ∃ n, v = .int n ∧ 0 ≤ n ∧ n < 2 ^ 63 ∧ Q (.int n) H') E
theorem call_lenO (hm : Meth X.K C "__len__" f) (F : FnOk X.prog X.w X.K X.mg X.base CX k f fd ps sp) (hr : Room (k + 1) X.A) (hb : Binds X.K fd ps []) (hx : Passes CX X E) : CallR X (.builtin "len") (rLenO C sp E) := by
  intro pins s σ H xs us Q I r h
  obtain ⟨a, dx, fs, rfl, ea, q⟩ := h
  obtain ⟨u, rfl, ru⟩ := vals1' r
  cases (show u = Value.ref a from ru)
  obtain ⟨mA, O, _⟩ := ins_get I.hok ea
  obtain ⟨od, J, _⟩ := O.look
  obtain ⟨m, hF⟩ := I.fr
  have r2 : Vals [V.ref a] [Value.ref a] := .cons rfl .nil
  have hl : ([Value.ref a] : List Value).length = ps.length := by
    rw [← r2.length]
    exact F.len _ _ _ _ q
  refine PySem.W.len_K hF I.ok.mod.kin J hm.at_ hm.fn (wpAny_call (codeAny_mono (F.run X.A.in1 X.stack s H ⟨[.ref a], []⟩ [.ref a] [.ref a] _ E hr.in1 I.env0.in1 (by simpa using hb s [.ref a] I.kIn (by simpa using hl)) r2 q) fun r s' hq => ?_))
  cases r with
  | error er => exact hx pins σ H s er s' I hq
  | ok fl =>
    cases fl with
    | ret u =>
      obtain ⟨v, H', I', rv, n, rfl, n0, n1, qz⟩ := I.after hq
      obtain ⟨t, rfl⟩ := (show ∃ t, u = Value.int n t from rv)
      exact ⟨⟨n0, n1⟩, .int n, H', I'.tok _, ⟨_, rfl⟩, qz⟩
    | next => exact False.elim hq
    | brk => exact False.elim hq
    | cont => exact False.elim hq
end
end RT

set_option Elab.async false
set_option linter.all false
set_option maxRecDepth 100000
set_option maxHeartbeats 4000000
/-! defs that are called where nothing is being shown: repr of lists and tuples -/
namespace RT
open PySem PySem.Spec PyProof.Rows L2
/-- as FnOk, where no repr runs around -/
structure FnG (P : Program) (w : World) (K : PySem.W.Frag) (mg : Str → Option Value) (base : Heap) (CX : CXT) (k : Nat) (f : Addr) (fd : FuncData) (ps : List Str) (sp : Sp) : Prop where
  len : ∀ vs H Q E, sp vs H Q E → vs.length = ps.length
  go : ∀ (A : Around) (outer : List Env) (s : Shared) (H : Hp) (args : Args) (us : List Value) (vs : List V) (Q : VK) (E : XK), A.guards = some [] → Room k A → Env0 P w K mg base A outer s H → BindsTo s fd args (ps.zip us) → Vals vs us → sp vs H Q E →
    codeAny (model P w) A (.call (.ref f) args) (CR CX outer P w H s Q E) s
theorem FnG.of {P : Program} {w : World} {K : PySem.W.Frag} {mg : Str → Option Value} {base : Heap} {CX : CXT} {k : Nat} {f : Addr} {fd : FuncData} {ps : List Str} {sp : Sp} (F : FnOk P w K mg base CX k f fd ps sp) : FnG P w K mg base CX k f fd ps sp :=
  ⟨F.len, fun A outer s H args us vs Q E _ => F.run A outer s H args us vs Q E⟩
theorem fnG_of {CX : CXT} {P : Program} {w : World} {K : PySem.W.Frag} {mg : Str → Option Value} {base : Heap} {k : Nat} {f : Addr} {name qual : Str} {params : Arguments} {body : List Stmt} {scope : Scope} {dV kV doc pm cdv ct oc : Value} {an od : Option Addr}
    {osl : Array (Option Value)} {N ps : List Str} {sp : Sp} (at_ : K.lookup f = some ⟨oc, od, .func (PySem.W.fnOf name qual params body scope dV kV doc pm an cdv ct), osl⟩) (code : PySem.W.codeIn K cdv qual = true) (S : FnScope N ps scope)
    (len : ∀ vs H Q E, sp vs H Q E → vs.length = ps.length)
    (walk : ∀ (A : Around) (outer : List Env) (s : Shared) (H : Hp) (vs : List V) (Q : VK) (E : XK), A.guards = some [] → Room k (A.deeper (envOfC qual scope s.heap.objs.size f cdv)) → sp vs H Q E →
      ∃ t, PSs (cxOf CX P w K mg base N qual scope f cdv A outer s H E) body t ∧ t { nx := fun _ H' => Q .non H', rt := Q } (start N vs) H) :
    FnG P w K mg base CX (k + 1) f (PySem.W.fnOf name qual params body scope dV kV doc pm an cdv ct) ps sp where
  len := len
  go := fun A outer s H args us vs Q E hg room env binds vals said => by
    have size := len _ _ _ _ said
    have here : K.In s.heap := env.mod.kin.keeps fun b o e => (env.bs b o e).1
    have free : s.heap.NoLimit := env.mod.nolimit.keeps fun b o e => (env.bs b o e).1
    have kinds : ∀ y ∈ ps.zip us, scope.names.lookup y.1 = some .local ∨ (scope.names.lookup y.1 = some .cell ∧ ((cellsFrom (s.heap.objs.size + 1) scope.names []).lookup y.1).isSome = true) := by
      rintro ⟨n, v⟩ hy
      exact (S.par n (List.of_mem_zip hy).1).imp id fun q => ⟨q, PySem.W.cellsFrom_some _ _ _ (.inl q)⟩
    refine codeAny_call_function room.depth (here _ _ at_) rfl S.co S.gen rfl (PySem.W.codeRec_of here code) (binds _ _ _ _ ?_)
    refine wpAny_newFunctionEnv_cells S.kind kinds fun e1 he s1 x => ?_
    subst he
    obtain ⟨t, ht, hq⟩ := walk A outer s H vs Q E hg (room.deeper _) said
    refine ⟨free.keeps x.toInCall.keep, codeAny_func ?_⟩
    refine wpAny_mono (ht.run [] s1 (start N vs) H _ (inv_start S room.hd env size vals x) hq) (fun fl s' done => ?_) fun _ _ z => z
    match fl, done with
    | .ret u, ⟨v, _, H', J, rv, q⟩ => exact ⟨v, H', J.os, J.bare, J.base, J.hok, rv, q⟩
    | .next, ⟨_, H', J, q⟩ => exact ⟨V.non, H', J.os, J.bare, J.base, J.hok, rfl, q⟩
    | .brk, ⟨_, _, _, q⟩ => exact q.elim
    | .cont, ⟨_, _, _, q⟩ => exact q.elim
section
variable {P : Program} {w : World} {K : PySem.W.Frag} {mg : Str → Option Value} {base : Heap} {CX : CXT}
/-- a def of the text keeps its promise where nothing is being shown -/
theorem okG {x qual : Str} {pa : Arguments} {bd : List Stmt} {sc : Scope} {dvs : List V} {kws : List (Str × V)} {f : Addr} {fd : FuncData} {N ps : List Str} {k : Nat} {sp : Sp} (F : FunD K x qual pa bd sc dvs kws f fd) (S : FnScope N ps sc) (len : ∀ vs H Q E, sp vs H Q E → vs.length = ps.length)
    (walk : ∀ (cdv : Value) (A : Around) (outer : List Env) (s : Shared) (H : Hp) (vs : List V) (Q : VK) (E : XK), A.guards = some [] → Room k (A.deeper (envOfC qual sc s.heap.objs.size f cdv)) → sp vs H Q E →
      ∃ t, PSs (cxOf CX P w K mg base N qual sc f cdv A outer s H E) bd t ∧ t { nx := fun _ H' => Q .non H', rt := Q } (start N vs) H) : FnG P w K mg base CX (k + 1) f fd ps sp := by
  obtain ⟨oc, od, dV, kV, doc, pm, an, cdv, ct, osl, rfl, lk, hcd, _, _⟩ := F.ex
  exact fnG_of lk hcd S len fun A outer s H vs Q E hg hr h => walk cdv A outer s H vs Q E hg hr h
end
section
variable {X : Cx} {CX : CXT} {k : Nat} {f : Addr} {fd : FuncData} {ps : List Str} {sp : Sp} {dvs : List V} {ds : List Value} {E : XK} {e : Expr} {es : List Expr} {t : TA} {x : Str} {p pos : Pos}
theorem pe_callG (F : FnG X.prog X.w X.K X.mg X.base CX k f fd ps sp) (hG : X.A.guards = some []) (hr : Room k X.A) (hg : Gl X x) (hm : X.mg x = some (.ref f)) (hk : PySem.W.keepIn X.K (.ref f) = true) (hb : Binds X.K fd ps ds) (hd : Vals dvs ds) (hx : Passes CX X E)
    (ha : PA X (e :: es) t) (hdb : (x == ("__debug__" : Str)) = false := by decide) (he : starEach (e :: es) X.env = (false, eval e X.env) :: starEach es X.env := by rfl) (hpl : (backTo pos (starEach es X.env)).any (·.1) = false := by rfl) :
    PE X (.Call (.Name x p) (e :: es) [] pos) (tCall sp dvs E t) := by
  refine ⟨fun pins s σ H Q I h => wpAny_Call_Name_kw (ld_glob I hg hm ?_ hdb)⟩
  refine PySem.W.callWith_K (h₀ := X.base) I.ok.mod.kin hk (thn (ha.run pos pins s σ H _ I h) fun us s1 ⟨vs, H1, I1, r, q⟩ => ⟨I1.kIn, ?_⟩) he hpl
  have r2 := r.append hd
  have hl : (us ++ ds).length = ps.length := r2.length.symm.trans (F.len _ _ _ _ q)
  refine wpAny_call (codeAny_mono (F.go X.A X.stack s1 H1 ⟨us, []⟩ (us ++ ds) (vs ++ dvs) Q E hG hr I1.env0 (hb s1 us I1.kIn hl) r2 q) fun r s' hq => ?_)
  match r, hq with
  | .error e, hq => exact hx pins σ H1 s1 e s' I1 hq
  | .ok (.ret u), hq => exact I1.after hq
/-- repr of data at any depth -/
def rReprD (K : PySem.W.Frag) : List V → Hp → VK → Prop := fun xs H Q => ∃ (a : Addr) (d : PyData), xs = [.ref a] ∧ Dp K H (.ref a) d ∧ d.showable = true ∧ d.hasDict = false ∧ d.depth ≤ 40 ∧ d.shown.length ≤ sizeLine ∧ Q (.str d.shown) H
theorem call_reprD (hG : X.A.guards = some []) (hu : X.A.units + 64 < cLine) : CallR X (.builtin "repr") (rReprD X.K) := by
  intro pins s σ H xs us Q I r h
  obtain ⟨a, d, rfl, D, hs, hd, hz, hl, q⟩ := h
  obtain ⟨u, rfl, ru⟩ := vals1' r
  obtain ⟨as, rd⟩ := Dp.reads I d _ _ D ru
  cases (show u = Value.ref a from ru)
  exact repr_of_reads' rd hs (PyData.noDict_hsm hd) hG (by omega) (fun _ _ e => e) (fun h' u tk k => ⟨.str d.shown, H, I.kept k, ⟨u, rfl⟩, q⟩) hl
end
/-! ### the law's own call -/
/-- the abstract heap at the law's entry: the script's list, locked -/
def scriptH (a : Addr) (vs : List Value) (ns : List Int) : Hp := fun b => if b = a then some (.frz { cls := .type "list", data := .seq vs.toArray } (.lst (ns.map V.int))) else none
section
variable {P : Program} {w : World} {K : PySem.W.Frag} {mg mb : Str → Option Value} {CX : CXT} {k : Nat} {fa a : Addr} {fd : FuncData} {x : Str} {sp : Sp} {s : Shared} {vs : List Value} {ns : List Int}
theorem enterG (H : Hp) (alone : ∀ b u, H b = some u → b = a ∧ ∃ o xs, u = .frz o (.lst xs)) (free : ∀ b, H b ≠ none → K.lookup b = none) (hok : HOk P w H s.heap)
    (KX : K.In s.heap) (gl : s.heap.Ns mainGlobals mg) (bl : s.heap.Ns builtinsNs mb) (bb : ∀ x : Str, x ≠ "__name__" → mb x = bootBuiltins x) (lim : s.heap.NoLimit) (gn : s.gens = #[]) (room : Room k callerA)
    (F : ∀ base : Heap, K.In base → base.Ns mainGlobals mg → FnG P w K mg base CX k fa fd [x] sp) (binds : ∀ (s : Shared) (u : Value), BindsTo s fd ⟨[u], []⟩ [(x, u)]) (said : sp [.ref a] H (fun v _ => v = .bl true) fun _ _ _ => False)
    (noX : ∀ e s', CX [] H s (fun _ _ _ => False) e s' → False) :
    codeAny (model P w) callerA (.call (.ref fa) ⟨[.ref a], []⟩) (fun r s' => r = .ok (.ret (.bool true)) ∧ OldK s.heap s'.heap ∧ s'.os = s.os ∧ AllBare s'.gens) s := by
  have noDict : ∀ {b : Addr} {o : Obj} {es : Array DictEntry} {n : Nat}, s.heap.get? b = some o → o.data = .dict es n → H b = none := fun {b o es n} e d => by
    cases q : H b with
    | none => rfl
    | some u =>
      obtain ⟨_, ob, xs, rfl⟩ := alone b u q
      obtain ⟨e1, _, its, m, _, e2⟩ := (show ObjOk P w H s.heap b (.frz ob (.lst xs)) from hok b _ q)
      rw [e] at e2
      cases e2
      cases d
  have ns_ : ∀ {b : Addr} {m : Str → Option Value}, s.heap.Ns b m → (hidT s.heap H).Ns b m := fun {b m} ⟨o, es, n, e, d, r⟩ => ⟨o, es, n, hidT_get e (noDict e d), d, r⟩
  have kb : K.In (hidT s.heap H) := fun b o e => hidT_get (KX b o e) (by
    cases q : H b with
    | none => rfl
    | some u =>
      have z := free b (by rw [q]; exact fun z => nomatch z)
      rw [e] at z
      cases z)
  have md : Mod K mg (hidT s.heap H) := ⟨kb, ns_ gl, ⟨mb, ns_ bl, bb⟩, by
    obtain ⟨mc, h1, h2⟩ := lim
    exact ⟨mc, ns_ h1, h2⟩⟩
  have env : Env0 P w K mg (hidT s.heap H) callerA [] s H := ⟨rfl, md, fun b o e => of_hidT e, Nat.le_of_eq (hidT_size _ _), trivial, (fun b hb => absurd (show b ∈ ([] : List Addr) from hb) (by simp)), hok, .of_eq gn⟩
  refine codeAny_mono ((F _ kb (ns_ gl)).go callerA [] s H ⟨[.ref a], []⟩ [.ref a] [.ref a] _ _ rfl room env (binds s (.ref a)) (.cons rfl .nil) said) fun r s' h => ?_
  match r, h with
  | .error e, h => exact (noX e s' h).elim
  | .ok (.ret u), ⟨v, H', os, bare, un, hok', rv, q⟩ =>
    have ev : v = .bl true := q
    subst ev
    obtain rfl : u = Value.bool true := rv
    refine ⟨rfl, OldK.of_keep fun b o e => ?_, os, bare⟩
    cases q : H b with
    | none => exact un.keep b o e q (fun z => nomatch z) (fun z => nomatch z)
    | some u =>
      obtain ⟨_, ob, xs, rfl⟩ := alone b u q
      obtain ⟨e1, _⟩ := hok b _ q
      obtain ⟨e2, _⟩ := hok' b _ (un.frzs b ob _ q)
      rw [e] at e1
      cases e1
      exact e2
theorem law_callG (KX : K.In s.heap) (gl : s.heap.Ns mainGlobals mg) (bl : s.heap.Ns builtinsNs mb) (bb : ∀ x : Str, x ≠ "__name__" → mb x = bootBuiltins x) (lim : s.heap.NoLimit) (gn : s.gens = #[])
    (obj : s.heap.get? a = some { cls := .type "list", data := .seq vs.toArray }) (hi : IntsAre vs ns) (hl : ns.length ≤ sizeLine) (room : Room k callerA)
    (F : ∀ base : Heap, K.In base → base.Ns mainGlobals mg → FnG P w K mg base CX k fa fd [x] sp) (binds : ∀ (s : Shared) (u : Value), BindsTo s fd ⟨[u], []⟩ [(x, u)])
    (said : ∀ H : Hp, SqL K H a (ns.map V.int) → sp [.ref a] H (fun v _ => v = .bl true) fun _ _ _ => False) (noX : ∀ H e s', CX [] H s (fun _ _ _ => False) e s' → False) :
    codeAny (model P w) callerA (.call (.ref fa) ⟨[.ref a], []⟩) (fun r s' => r = .ok (.ret (.bool true)) ∧ OldK s.heap s'.heap ∧ s'.os = s.os ∧ AllBare s'.gens) s := by
  have rv := vals_ints hi
  cases hk : K.lookup a with
  | some o =>
    have e := KX a o hk
    rw [obj] at e
    cases e
    exact enterG (fun _ => none) (fun b u z => nomatch z) (fun b z => (z rfl).elim) (fun b u z => nomatch z) KX gl bl bb lim gn room F binds
      (said _ (.inr ⟨_, vs.toArray, _, hk, rfl, rfl, rfl, by rw [List.size_toArray, hi.length]; exact hl, by simpa using rv⟩)) (noX _)
  | none =>
    have at_ : ∀ b u, scriptH a vs ns b = some u → b = a ∧ u = .frz { cls := .type "list", data := .seq vs.toArray } (.lst (ns.map V.int)) := fun b u z => by
      unfold scriptH at z
      by_cases hb : b = a
      · rw [if_pos hb] at z
        exact ⟨hb, (Option.some.inj z).symm⟩
      · rw [if_neg hb] at z
        cases z
    refine enterG (scriptH a vs ns) (fun b u z => ?_) (fun b z => ?_) (fun b u z => ?_) KX gl bl bb lim gn room F binds (said _ (.inl (.inr ⟨{ cls := .type "list", data := .seq vs.toArray }, by unfold scriptH; rw [if_pos rfl]⟩))) (noX _)
    · obtain ⟨e, rfl⟩ := at_ b u z
      exact ⟨e, _, _, rfl⟩
    · cases q : scriptH a vs ns b with
      | none => exact (z q).elim
      | some u =>
        rw [(at_ b u q).1]
        exact hk
    · obtain ⟨rfl, rfl⟩ := at_ b u z
      exact ⟨obj, by rw [List.length_map]; exact hl, vs, _, rv, obj⟩
end
/-- the end of a law's proof: the head's facts give the law's def, the def keeps its promise -/
theorem walk_ofG {l : PySem.W.OpenLaw} {n k : Nat} {q : Program} {loose : List Str} {XP : (Str → Option Value) → Heap → Prop} {YP : World → Heap → Prop} {d : DefRec} {CX : World → CXT} {x : Str}
    (hn : l.most = some n) (hn2 : n ≤ sizeLine) (hdf : d.params.defaults = []) (room : Room k callerA)
    (F : ∀ (w : World) (mg : Str → Option Value) (fa : Addr) (h : Heap), YP w h → h.Ns mainGlobals mg → mg d.name = some (.ref fa) →
      ∃ (K : PySem.W.Frag) (fd : FuncData) (sp : Sp), K.In h ∧ (∀ (s : Shared) (u : Value), BindsTo s fd ⟨[u], []⟩ [(x, u)]) ∧
        (∀ (H : Hp) (a : Addr) (ns : List Int), ns.length ≤ n → (∀ z ∈ ns, Builtin.Int.intBits z ≤ 1048576) → SqL K H a (ns.map V.int) → sp [.ref a] H (fun v _ => v = .bl true) fun _ _ _ => False) ∧
        ∀ base : Heap, K.In base → base.Ns mainGlobals mg → FnG l.prog w K mg base (CX w) k fa fd [x] sp)
    (noX : ∀ (w : World) (H : Hp) (s : Shared) (e : Value) (s' : Shared), CX w [] H s (fun _ _ _ => False) e s' → False) :
    PySem.W.WalkO q loose XP YP l.row.toRowW d [] (fun f vs => PySem.call f vs) := by
  refine Att.attach_callB hn hdf fun w s₀ s₁ mg mb fa o pm cd doc a vs ns G Y ho hd hcd hmg hobj hints hlen hbits hg => ?_
  obtain ⟨K, fd, sp, KX, hb, said, hF⟩ := F w mg fa _ Y G.T.g hmg
  exact law_callG KX G.T.g G.T.b G.T.builtins G.T.nolimit hg hobj hints (Nat.le_trans hlen hn2) room hF hb (fun H hS => said H a ns hlen hbits hS) fun H e s' => noX w H s₁ e s'
end RT

set_option Elab.async false
set_option linter.all false
set_option maxRecDepth 100000
set_option maxHeartbeats 4000000
/-! a head whose facts are any Bools of the written part, and defs by any address (a property's getter too) -/
namespace HP
open PySem PySem.Spec PyProof.Rows L2 He
/-- a def of the text, where it stands -/
structure DefA where
  adr : PySem.W.Frag → Addr
  name : Str
  qual : Str
  params : Arguments
  body : List Stmt
  scope : Scope
  dfl : List Dv := []
  kwd : List (Str × Dv) := []
def DefA.told (K : PySem.W.Frag) (d : DefA) : FnW := match K.lookup (d.adr K) with
  | some ⟨_, _, .func fd, _⟩ => some (fd.name, fd.qualname, fd.params, fd.body, fd.scope, fd.globals, fd.closure, fd.builtins)
  | _ => none
def DefA.want (d : DefA) : FnW := some (d.name, d.qual, d.params, .stmts d.body, d.scope, mainGlobals, [], builtinsNs)
def DefA.dvs (K : PySem.W.Frag) (d : DefA) : List V := d.dfl.map (Dv.v K)
def DefA.kws (K : PySem.W.Frag) (d : DefA) : List (Str × V) := d.kwd.map fun q => (q.1, q.2.v K)
def DefA.fine (K : PySem.W.Frag) (d : DefA) : Bool := PySem.W.keepIn K (.ref (d.adr K)) && (match K.lookup (d.adr K) with
  | some ⟨_, _, .func fd, _⟩ => PySem.W.codeIn K fd.code d.qual && (dflB K fd.defaults (d.dvs K) && kwdB K fd.kwdefaults (d.kws K))
  | _ => false)
theorem DefA.funD {K : PySem.W.Frag} {d : DefA} (e : d.told K = d.want) (c : d.fine K = true) : ∃ fd, FunD K d.name d.qual d.params d.body d.scope (d.dvs K) (d.kws K) (d.adr K) fd := by
  obtain ⟨kp, more⟩ := ba c
  unfold DefA.told at e
  split at e
  · rename_i oc od fd osl at_
    rw [at_] at more
    obtain ⟨k1, k2⟩ := ba more
    obtain ⟨k3, k4⟩ := ba k2
    cases fd
    unfold DefA.want at e
    injection e with e
    simp only [Prod.mk.injEq] at e
    obtain ⟨rfl, rfl, rfl, rfl, rfl, rfl, rfl, rfl⟩ := e
    exact ⟨_, ⟨oc, od, _, _, _, _, _, _, _, osl, rfl, at_, k1, dflB_ok k3, kwdB_ok k4⟩, kp⟩
  · cases e
abbrev Fact := PySem.W.Frag → Bool
abbrev Al := Bool × List FnW
def obsA (fa : List Fact) (fn : List DefA) (K : PySem.W.Frag) : Al := ((fa.all fun f => f K) && fn.all fun d => d.fine K, fn.map fun d => d.told K)
def wantA (fn : List DefA) : Al := (true, fn.map DefA.want)
def obsAG (n : Nat) (fa : List Fact) (fn : List DefA) (g : Addr → Option Obj) : Al := obsA fa fn (frG g (asD g n))
structure SaysA (fa : List Fact) (fn : List DefA) (K : PySem.W.Frag) : Prop where
  eq : obsA fa fn K = wantA fn
def hookA (n : Nat) (fa : List Fact) (fn : List DefA) : PySem.W.Hook where
  α := Al
  obs := fun s => obsAG n fa fn s.heap.get?
  val := fun _ => wantA fn
  says := fun _ h => ∃ K : PySem.W.Frag, K.In h ∧ SaysA fa fn K
  of := fun _ _ e => ⟨_, frG_in, ⟨e⟩⟩
  keeps := fun _ _ _ ⟨K, hK, c⟩ k => ⟨K, PySem.W.Frag.In.keeps hK k, c⟩
theorem obsAG_eq {n : Nat} {fa : List Fact} {fn : List DefA} {g : Addr → Option Obj} {s : Shared} (h : ∀ a, g a = s.heap.get? a) : obsAG n fa fn g = (hookA n fa fn).obs s := by
  rw [show g = s.heap.get? from funext h] <;> rfl
section
variable {fa : List Fact} {fn : List DefA} {K : PySem.W.Frag}
theorem SaysA.fact (c : SaysA fa fn K) (i : Nat) {f : Fact} (h : fa[i]? = some f := by rfl) : f K = true :=
  List.all_eq_true.mp (ba (congrArg Prod.fst c.eq)).1 f (List.mem_of_getElem? h)
theorem SaysA.def_ (c : SaysA fa fn K) (i : Nat) {d : DefA} (h : fn[i]? = some d := by rfl) : ∃ fd, FunD K d.name d.qual d.params d.body d.scope (d.dvs K) (d.kws K) (d.adr K) fd := by
  have hd : d ∈ fn := List.mem_of_getElem? h
  refine DefA.funD ?_ (List.all_eq_true.mp (ba (congrArg Prod.fst c.eq)).2 d hd)
  have e : fn.map (fun d => d.told K) = fn.map DefA.want := congrArg Prod.snd c.eq
  have e1 := congrArg (fun l => l[i]?) e
  simp only [List.getElem?_map, h, Option.map_some, Option.some.injEq] at e1
  exact e1
end
/-! ### facts beside He.Fa's -/
/-- a property of the class x -/
def getA (x f : Str) (K : PySem.W.Frag) : Addr := match PySem.W.recIn K (ma K (ga K x) f) "property" with
  | some (.ref g :: _) => g
  | _ => 0
def propB (x f : Str) : Fact := fun K => eqO (PySem.W.findIn K (.ref (ga K x)) f) (some (some (.ref (ma K (ga K x) f)))) && (eqO (PySem.W.specialIn K (.ref (ma K (ga K x) f)) "__get__") (some (some (.builtin "property.__get__"))) && (decide (PySem.W.takesIn K (.ref (ma K (ga K x) f)) = some true) &&
  (match PySem.W.recIn K (ma K (ga K x) f) "property" with
    | some (.ref _ :: _) => true
    | _ => false)))
theorem propB_ok {x f : Str} {K : PySem.W.Frag} (h : propB x f K = true) : PropOf K (ga K x) f (ma K (ga K x) f) (getA x f K) := by
  obtain ⟨h1, h⟩ := ba h
  obtain ⟨h2, h⟩ := ba h
  obtain ⟨h3, h4⟩ := ba h
  refine ⟨eqO_ok h1, eqO_ok h2, of_decide_eq_true h3, ?_⟩
  unfold getA
  split at h4
  · rename_i g rest e
    rw [e]
    exact ⟨rest, rfl⟩
  · cases h4
/-- own operators: the class goes first in its own order; no reflected method -/
def firstB (x : Str) : Fact := fun K => PySem.W.selfFirst K (ga K x)
def notFirstB (x : Str) (t : PySem.W.Frag → Value) : Fact := fun K => PySem.W.notFirst K (ga K x) (t K)
def rightB (x : Str) (op : Operator) (T : String) : Fact := fun K => eqO (PySem.W.findIn K (.ref (ga K x)) (dunderR op.info.2)) (some none) && ((PySem.W.findIn K (.type T) (PySem.dunder op.info.2)).isSome && ((PySem.W.findIn K (.type T) (dunderR op.info.2)).isSome && decide (PySem.W.subIn K (.type T) (.ref (ga K x)) = some false)))
theorem rightB_ok {x : Str} {op : Operator} {T : String} {K : PySem.W.Frag} (h : rightB x op T K = true) : RT.RightT K (ga K x) op T := by
  obtain ⟨h1, h⟩ := ba h
  obtain ⟨h2, h⟩ := ba h
  obtain ⟨h3, h4⟩ := ba h
  exact ⟨eqO_ok h1, Option.isSome_iff_exists.mp h2, Option.isSome_iff_exists.mp h3, of_decide_eq_true h4⟩
/-- isinstance of an instance of the class x asks its class rightly -/
def isiB (x : Str) : Fact := fun K => eqO (PySem.W.findIn K (.ref (ga K x)) "__class__") (some (some (.builtin "object.__class__"))) && (eqO (PySem.W.specialIn K (.builtin "object.__class__") "__get__") (some (some (.builtin "getset_descriptor.__get__"))) && (decide (PySem.W.takesIn K (.builtin "object.__class__") = some true) && decide (PySem.W.mroIn K (ga K x) (.type "object") = some true)))
structure IsiC (K : PySem.W.Frag) (C : Addr) : Prop where
  ha : PySem.W.findIn K (.ref C) "__class__" = some (some (.builtin "object.__class__"))
  hn : PySem.W.specialIn K (.builtin "object.__class__") "__get__" = some (some (.builtin "getset_descriptor.__get__"))
  ht : PySem.W.takesIn K (.builtin "object.__class__") = some true
  hm : PySem.W.mroIn K C (.type "object") = some true
theorem isiB_ok {x : Str} {K : PySem.W.Frag} (h : isiB x K = true) : IsiC K (ga K x) := by
  obtain ⟨h1, h⟩ := ba h
  obtain ⟨h2, h⟩ := ba h
  obtain ⟨h3, h4⟩ := ba h
  exact ⟨eqO_ok h1, eqO_ok h2, of_decide_eq_true h3, of_decide_eq_true h4⟩
/-- a global that is a tuple of flat values -/
def flatOf : Value → Option V
  | .none => some .non
  | .bool b => some (.bl b)
  | .int i _ => some (.int i)
  | .str x _ => some (.str x)
  | _ => none
theorem flatOf_ok {v : Value} {x : V} (h : flatOf v = some x) : RelV x v := by
  cases v <;> simp only [flatOf, Option.some.injEq, reduceCtorEq] at h <;> subst h <;> first | rfl | exact ⟨_, rfl⟩
theorem flats_ok : ∀ {vs : List Value} {xs : List V}, vs.map flatOf = xs.map some → Vals xs vs
  | [], [], _ => .nil
  | [], _ :: _, h => by cases h
  | _ :: _, [], h => by cases h
  | v :: vs, x :: xs, h => by
    simp only [List.map_cons, List.cons.injEq] at h
    exact .cons (flatOf_ok h.1) (flats_ok h.2)
def tupB (x : Str) (xs : List V) : Fact := fun K => match K.lookup (ga K x) with
  | some o => eqO (some (some o.cls)) (some (some (.type "tuple"))) && (match o.data with
    | .seq its _ => decide (its.toList.map flatOf = xs.map some) && decide (its.size ≤ sizeLine)
    | _ => false)
  | none => false
theorem tupB_ok {x : Str} {xs : List V} {K : PySem.W.Frag} (h : tupB x xs K = true) : ∀ H : Hp, SqT K H (ga K x) xs := by
  intro H
  unfold tupB at h
  split at h
  · rename_i o e
    obtain ⟨h1, h2⟩ := ba h
    split at h2
    · rename_i its n ed
      obtain ⟨h3, h4⟩ := ba h2
      exact .inr ⟨o, its, n, e, Option.some.inj (Option.some.inj (eqO_ok h1)), ed, of_decide_eq_true h4, flats_ok (of_decide_eq_true h3)⟩
    · cases h2
  · cases h
def neB (x : Str) : Fact := fun K => eqO (PySem.W.findIn K (.ref (ga K x)) "__ne__") (some (some (.builtin "object.__ne__")))
theorem neB_ok {x : Str} {K : PySem.W.Frag} (h : neB x K = true) : PySem.W.findIn K (.ref (ga K x)) "__ne__" = some (some (.builtin "object.__ne__")) := eqO_ok h
def fnB (x m : Str) : Fact := fun K => PySem.W.fnIn K (ma K (ga K x) m)
def kitB1 (t c : PySem.W.Frag → Value) (b : Bool) : Fact := fun K => decide (PySem.W.kitOne K (t K) (c K) = some b)
def kitA1 (t : PySem.W.Frag → Value) (cs : List Str) (b : Bool) : Fact := fun K => decide (PySem.W.kitAny K (t K) (cs.map fun x => .ref (ga K x)) = some b)
def fa_ (f : Fa) : Fact := fun K => f.ok K
end HP

set_option Elab.async false
set_option linter.all false
set_option maxRecDepth 100000
set_option maxHeartbeats 4000000
namespace K45
open PySem PySem.Spec PyProof.Rows L2 RT
def top (i : Nat) : Stmt := PySem.Challenge.pw_plotpens_k45_pictures_made.main.body.getD i (.Pass ⟨0, 0, 0, 0⟩)
abbrev s_wall : Stmt := top 0
abbrev sis_integer : Stmt := top 6
abbrev sis_integer_within : Stmt := top 7
abbrev sis_tuple_of : Stmt := top 8
abbrev sis_point : Stmt := top 9
abbrev scheck_point : Stmt := top 10
abbrev sPicture_init : Stmt := inClass (top 12) 0
abbrev sPicture_edges : Stmt := inClass (top 12) 1
abbrev sPicture_len : Stmt := inClass (top 12) 2
abbrev sPicture_eq : Stmt := inClass (top 12) 3
abbrev sPicture_contains : Stmt := inClass (top 12) 4
abbrev sPicture_xor : Stmt := inClass (top 12) 5
abbrev sPicture_moved : Stmt := inClass (top 12) 6
abbrev sPicture_turned : Stmt := inClass (top 12) 7
abbrev sis_edge : Stmt := top 13
abbrev sedge_between : Stmt := top 14
abbrev scheck_edges : Stmt := top 15
abbrev scheck_picture : Stmt := top 16
abbrev s_edge_between : Stmt := top 17
abbrev s_law_fount : Stmt := top 19
abbrev s_law_sip : Stmt := top 20
abbrev s_law_mixed : Stmt := top 21
abbrev s_law_number : Stmt := top 22
abbrev s_law_pose : Stmt := top 23
abbrev s_law_edges : Stmt := top 24
abbrev s_law_same : Stmt := top 25
abbrev s_law_between : Stmt := top 26
abbrev s_law_values : Stmt := top 27
abbrev s_law_is_edge : Stmt := top 28
abbrev s_law_others_right : Stmt := top 29
abbrev s_law_right : Stmt := top 30
abbrev slaw : Stmt := top 31
abbrev Nis_integer : List Str := ["value"]
theorem scis_integer : FnScope Nis_integer ["value"] (defScope sis_integer) := ⟨rfl, rfl, rfl, by decide +kernel, rfl, by decide +kernel, by decide +kernel⟩
abbrev Nis_integer_within : List Str := ["value", "least", "most"]
theorem scis_integer_within : FnScope Nis_integer_within ["value", "least", "most"] (defScope sis_integer_within) := ⟨rfl, rfl, rfl, by decide +kernel, rfl, by decide +kernel, by decide +kernel⟩
abbrev Nis_tuple_of : List Str := ["value", "many"]
theorem scis_tuple_of : FnScope Nis_tuple_of ["value", "many"] (defScope sis_tuple_of) := ⟨rfl, rfl, rfl, by decide +kernel, rfl, by decide +kernel, by decide +kernel⟩
abbrev Nis_point : List Str := ["value"]
theorem scis_point : FnScope Nis_point ["value"] (defScope sis_point) := ⟨rfl, rfl, rfl, by decide +kernel, rfl, by decide +kernel, by decide +kernel⟩
abbrev Ncheck_point : List Str := ["point"]
theorem sccheck_point : FnScope Ncheck_point ["point"] (defScope scheck_point) := ⟨rfl, rfl, rfl, by decide +kernel, rfl, by decide +kernel, by decide +kernel⟩
abbrev NPicture_init : List Str := ["self", "edges"]
theorem scPicture_init : FnScope NPicture_init ["self", "edges"] (defScope sPicture_init) := ⟨rfl, rfl, rfl, by decide +kernel, rfl, by decide +kernel, by decide +kernel⟩
abbrev NPicture_edges : List Str := ["self"]
theorem scPicture_edges : FnScope NPicture_edges ["self"] (defScope sPicture_edges) := ⟨rfl, rfl, rfl, by decide +kernel, rfl, by decide +kernel, by decide +kernel⟩
abbrev NPicture_len : List Str := ["self"]
theorem scPicture_len : FnScope NPicture_len ["self"] (defScope sPicture_len) := ⟨rfl, rfl, rfl, by decide +kernel, rfl, by decide +kernel, by decide +kernel⟩
abbrev NPicture_eq : List Str := ["self", "other"]
theorem scPicture_eq : FnScope NPicture_eq ["self", "other"] (defScope sPicture_eq) := ⟨rfl, rfl, rfl, by decide +kernel, rfl, by decide +kernel, by decide +kernel⟩
abbrev NPicture_contains : List Str := ["self", "x"]
theorem scPicture_contains : FnScope NPicture_contains ["self", "x"] (defScope sPicture_contains) := ⟨rfl, rfl, rfl, by decide +kernel, rfl, by decide +kernel, by decide +kernel⟩
abbrev NPicture_xor : List Str := ["self", "other", "mine", "others"]
theorem scPicture_xor : FnScope NPicture_xor ["self", "other"] (defScope sPicture_xor) := ⟨rfl, rfl, rfl, by decide +kernel, rfl, by decide +kernel, by decide +kernel⟩
abbrev NPicture_moved : List Str := ["self", "dx", "dy"]
theorem scPicture_moved : FnScope NPicture_moved ["self", "dx", "dy"] (defScope sPicture_moved) := ⟨rfl, rfl, rfl, by decide +kernel, rfl, by decide +kernel, by decide +kernel⟩
abbrev NPicture_turned : List Str := ["self", "quarters"]
theorem scPicture_turned : FnScope NPicture_turned ["self", "quarters"] (defScope sPicture_turned) := ⟨rfl, rfl, rfl, by decide +kernel, rfl, by decide +kernel, by decide +kernel⟩
abbrev Nis_edge : List Str := ["value"]
theorem scis_edge : FnScope Nis_edge ["value"] (defScope sis_edge) := ⟨rfl, rfl, rfl, by decide +kernel, rfl, by decide +kernel, by decide +kernel⟩
abbrev Nedge_between : List Str := ["point", "other_point"]
theorem scedge_between : FnScope Nedge_between ["point", "other_point"] (defScope sedge_between) := ⟨rfl, rfl, rfl, by decide +kernel, rfl, by decide +kernel, by decide +kernel⟩
abbrev Ncheck_edges : List Str := ["edges"]
theorem sccheck_edges : FnScope Ncheck_edges ["edges"] (defScope scheck_edges) := ⟨rfl, rfl, rfl, by decide +kernel, rfl, by decide +kernel, by decide +kernel⟩
abbrev Ncheck_picture : List Str := ["picture"]
theorem sccheck_picture : FnScope Ncheck_picture ["picture"] (defScope scheck_picture) := ⟨rfl, rfl, rfl, by decide +kernel, rfl, by decide +kernel, by decide +kernel⟩
abbrev N_edge_between : List Str := ["point", "other_point", "x", "y", "last"]
theorem sc_edge_between : FnScope N_edge_between ["point", "other_point"] (defScope s_edge_between) := ⟨rfl, rfl, rfl, by decide +kernel, rfl, by decide +kernel, by decide +kernel⟩
abbrev N_law_fount : List Str := ["script", "k", "cell"]
theorem sc_law_fount : FnScope N_law_fount ["script", "k"] (defScope s_law_fount) := ⟨rfl, rfl, rfl, by decide +kernel, rfl, by decide +kernel, by decide +kernel⟩
abbrev N_law_sip : List Str := ["fount", "many", "found", "mixed"]
theorem sc_law_sip : FnScope N_law_sip ["fount", "many"] (defScope s_law_sip) := ⟨rfl, rfl, rfl, by decide +kernel, rfl, by decide +kernel, by decide +kernel⟩
abbrev N_law_mixed : List Str := ["fount", "items", "left"]
theorem sc_law_mixed : FnScope N_law_mixed ["fount", "items"] (defScope s_law_mixed) := ⟨rfl, rfl, rfl, by decide +kernel, rfl, by decide +kernel, by decide +kernel⟩
abbrev N_law_number : List Str := ["fount"]
theorem sc_law_number : FnScope N_law_number ["fount"] (defScope s_law_number) := ⟨rfl, rfl, rfl, by decide +kernel, rfl, by decide +kernel, by decide +kernel⟩
abbrev N_law_pose : List Str := ["fount"]
theorem sc_law_pose : FnScope N_law_pose ["fount"] (defScope s_law_pose) := ⟨rfl, rfl, rfl, by decide +kernel, rfl, by decide +kernel, by decide +kernel⟩
abbrev N_law_edges : List Str := ["fount", "many", "wide", "found", "turn", "edge"]
theorem sc_law_edges : FnScope N_law_edges ["fount", "many"] (defScope s_law_edges) := ⟨rfl, rfl, rfl, by decide +kernel, rfl, by decide +kernel, by decide +kernel⟩
abbrev N_law_same : List Str := ["found", "due"]
theorem sc_law_same : FnScope N_law_same ["found", "due"] (defScope s_law_same) := ⟨rfl, rfl, rfl, by decide +kernel, rfl, by decide +kernel, by decide +kernel⟩
abbrev N_law_between : List Str := ["one", "two", "far_x", "far_y"]
theorem sc_law_between : FnScope N_law_between ["one", "two"] (defScope s_law_between) := ⟨rfl, rfl, rfl, by decide +kernel, rfl, by decide +kernel, by decide +kernel⟩
abbrev N_law_values : List Str := ["edges", "found"]
theorem sc_law_values : FnScope N_law_values ["edges"] (defScope s_law_values) := ⟨rfl, rfl, rfl, by decide +kernel, rfl, by decide +kernel, by decide +kernel⟩
abbrev N_law_is_edge : List Str := ["value"]
theorem sc_law_is_edge : FnScope N_law_is_edge ["value"] (defScope s_law_is_edge) := ⟨rfl, rfl, rfl, by decide +kernel, rfl, by decide +kernel, by decide +kernel⟩
abbrev N_law_others_right : List Str := ["picture_here", "edges", "other", "less", "changed", "at", "lists", "one"]
theorem sc_law_others_right : FnScope N_law_others_right ["picture_here", "edges"] (defScope s_law_others_right) := ⟨rfl, rfl, rfl, by decide +kernel, rfl, by decide +kernel, by decide +kernel⟩
abbrev N_law_right : List Str := ["fount", "edges", "kept", "picture_here", "value"]
theorem sc_law_right : FnScope N_law_right ["fount", "edges"] (defScope s_law_right) := ⟨rfl, rfl, rfl, by decide +kernel, rfl, by decide +kernel, by decide +kernel⟩
abbrev Nlaw : List Str := ["script", "k", "fount", "turn", "one", "two", "three"]
theorem sclaw : FnScope Nlaw ["script"] (defScope slaw) := ⟨rfl, rfl, rfl, by decide +kernel, rfl, by decide +kernel, by decide +kernel⟩
/-! ### the head -/
def dis_integer : HP.DefA := ⟨fun K => He.fAd K ("is_integer", none), "is_integer", "is_integer", defArgs sis_integer, defBody sis_integer, defScope sis_integer, [], []⟩
def dis_integer_within : HP.DefA := ⟨fun K => He.fAd K ("is_integer_within", none), "is_integer_within", "is_integer_within", defArgs sis_integer_within, defBody sis_integer_within, defScope sis_integer_within, [], []⟩
def dis_tuple_of : HP.DefA := ⟨fun K => He.fAd K ("is_tuple_of", none), "is_tuple_of", "is_tuple_of", defArgs sis_tuple_of, defBody sis_tuple_of, defScope sis_tuple_of, [], []⟩
def dis_point : HP.DefA := ⟨fun K => He.fAd K ("is_point", none), "is_point", "is_point", defArgs sis_point, defBody sis_point, defScope sis_point, [], []⟩
def dcheck_point : HP.DefA := ⟨fun K => He.fAd K ("check_point", none), "check_point", "check_point", defArgs scheck_point, defBody scheck_point, defScope scheck_point, [], []⟩
def dPicture_init : HP.DefA := ⟨fun K => He.fAd K ("Picture", some "__init__"), "__init__", "Picture.__init__", defArgs sPicture_init, defBody sPicture_init, defScope sPicture_init, [], []⟩
def dPicture_edges : HP.DefA := ⟨HP.getA "Picture" "edges", "edges", "Picture.edges", defArgs sPicture_edges, defBody sPicture_edges, defScope sPicture_edges, [], []⟩
def dPicture_len : HP.DefA := ⟨fun K => He.fAd K ("Picture", some "__len__"), "__len__", "Picture.__len__", defArgs sPicture_len, defBody sPicture_len, defScope sPicture_len, [], []⟩
def dPicture_eq : HP.DefA := ⟨fun K => He.fAd K ("Picture", some "__eq__"), "__eq__", "Picture.__eq__", defArgs sPicture_eq, defBody sPicture_eq, defScope sPicture_eq, [], []⟩
def dPicture_contains : HP.DefA := ⟨fun K => He.fAd K ("Picture", some "__contains__"), "__contains__", "Picture.__contains__", defArgs sPicture_contains, defBody sPicture_contains, defScope sPicture_contains, [], []⟩
def dPicture_xor : HP.DefA := ⟨fun K => He.fAd K ("Picture", some "__xor__"), "__xor__", "Picture.__xor__", defArgs sPicture_xor, defBody sPicture_xor, defScope sPicture_xor, [], []⟩
def dPicture_moved : HP.DefA := ⟨fun K => He.fAd K ("Picture", some "moved"), "moved", "Picture.moved", defArgs sPicture_moved, defBody sPicture_moved, defScope sPicture_moved, [], []⟩
def dPicture_turned : HP.DefA := ⟨fun K => He.fAd K ("Picture", some "turned"), "turned", "Picture.turned", defArgs sPicture_turned, defBody sPicture_turned, defScope sPicture_turned, [], []⟩
def dis_edge : HP.DefA := ⟨fun K => He.fAd K ("is_edge", none), "is_edge", "is_edge", defArgs sis_edge, defBody sis_edge, defScope sis_edge, [], []⟩
def dedge_between : HP.DefA := ⟨fun K => He.fAd K ("edge_between", none), "edge_between", "edge_between", defArgs sedge_between, defBody sedge_between, defScope sedge_between, [], []⟩
def dcheck_edges : HP.DefA := ⟨fun K => He.fAd K ("check_edges", none), "check_edges", "check_edges", defArgs scheck_edges, defBody scheck_edges, defScope scheck_edges, [], []⟩
def dcheck_picture : HP.DefA := ⟨fun K => He.fAd K ("check_picture", none), "check_picture", "check_picture", defArgs scheck_picture, defBody scheck_picture, defScope scheck_picture, [], []⟩
def d_edge_between : HP.DefA := ⟨fun K => He.fAd K ("_edge_between", none), "_edge_between", "_edge_between", defArgs s_edge_between, defBody s_edge_between, defScope s_edge_between, [], []⟩
def d_law_fount : HP.DefA := ⟨fun K => He.fAd K ("_law_fount", none), "_law_fount", "_law_fount", defArgs s_law_fount, defBody s_law_fount, defScope s_law_fount, [], []⟩
def d_law_sip : HP.DefA := ⟨fun K => He.fAd K ("_law_sip", none), "_law_sip", "_law_sip", defArgs s_law_sip, defBody s_law_sip, defScope s_law_sip, [], []⟩
def d_law_mixed : HP.DefA := ⟨fun K => He.fAd K ("_law_mixed", none), "_law_mixed", "_law_mixed", defArgs s_law_mixed, defBody s_law_mixed, defScope s_law_mixed, [], []⟩
def d_law_number : HP.DefA := ⟨fun K => He.fAd K ("_law_number", none), "_law_number", "_law_number", defArgs s_law_number, defBody s_law_number, defScope s_law_number, [], []⟩
def d_law_pose : HP.DefA := ⟨fun K => He.fAd K ("_law_pose", none), "_law_pose", "_law_pose", defArgs s_law_pose, defBody s_law_pose, defScope s_law_pose, [], []⟩
def d_law_edges : HP.DefA := ⟨fun K => He.fAd K ("_law_edges", none), "_law_edges", "_law_edges", defArgs s_law_edges, defBody s_law_edges, defScope s_law_edges, [], []⟩
def d_law_same : HP.DefA := ⟨fun K => He.fAd K ("_law_same", none), "_law_same", "_law_same", defArgs s_law_same, defBody s_law_same, defScope s_law_same, [], []⟩
def d_law_between : HP.DefA := ⟨fun K => He.fAd K ("_law_between", none), "_law_between", "_law_between", defArgs s_law_between, defBody s_law_between, defScope s_law_between, [], []⟩
def d_law_values : HP.DefA := ⟨fun K => He.fAd K ("_law_values", none), "_law_values", "_law_values", defArgs s_law_values, defBody s_law_values, defScope s_law_values, [], []⟩
def d_law_is_edge : HP.DefA := ⟨fun K => He.fAd K ("_law_is_edge", none), "_law_is_edge", "_law_is_edge", defArgs s_law_is_edge, defBody s_law_is_edge, defScope s_law_is_edge, [], []⟩
def d_law_others_right : HP.DefA := ⟨fun K => He.fAd K ("_law_others_right", none), "_law_others_right", "_law_others_right", defArgs s_law_others_right, defBody s_law_others_right, defScope s_law_others_right, [], []⟩
def d_law_right : HP.DefA := ⟨fun K => He.fAd K ("_law_right", none), "_law_right", "_law_right", defArgs s_law_right, defBody s_law_right, defScope s_law_right, [], []⟩
def dlaw : HP.DefA := ⟨fun K => He.fAd K ("law", none), "law", "law", defArgs slaw, defBody slaw, defScope slaw, [], []⟩
def fns : List HP.DefA := [dis_integer, dis_integer_within, dis_tuple_of, dis_point, dcheck_point, dPicture_init, dPicture_edges, dPicture_len, dPicture_eq, dPicture_contains, dPicture_xor, dPicture_moved, dPicture_turned, dis_edge, dedge_between, dcheck_edges, dcheck_picture, d_edge_between, d_law_fount, d_law_sip, d_law_mixed, d_law_number, d_law_pose, d_law_edges, d_law_same, d_law_between, d_law_values, d_law_is_edge, d_law_others_right, d_law_right, dlaw]
def fa0 : List HP.Fact := [HP.fa_ (.glo "is_integer"), HP.fa_ (.glo "is_integer_within"), HP.fa_ (.glo "is_tuple_of"), HP.fa_ (.glo "is_point"), HP.fa_ (.glo "check_point"), HP.propB "Picture" "edges", HP.fa_ (.meth "Picture" "__len__"), HP.fa_ (.meth "Picture" "__eq__"), HP.fa_ (.meth "Picture" "__contains__"), HP.fa_ (.meth "Picture" "__xor__"), HP.fa_ (.meth "Picture" "moved"), HP.fa_ (.meth "Picture" "turned"), HP.fa_ (.glo "is_edge"), HP.fa_ (.glo "edge_between"), HP.fa_ (.glo "check_edges"), HP.fa_ (.glo "check_picture"), HP.fa_ (.glo "_edge_between"), HP.fa_ (.glo "_law_fount"), HP.fa_ (.glo "_law_sip"), HP.fa_ (.glo "_law_mixed"), HP.fa_ (.glo "_law_number"), HP.fa_ (.glo "_law_pose"), HP.fa_ (.glo "_law_edges"), HP.fa_ (.glo "_law_same"), HP.fa_ (.glo "_law_between")]
def fa1 : List HP.Fact := [HP.fa_ (.glo "_law_values"), HP.fa_ (.glo "_law_is_edge"), HP.fa_ (.glo "_law_others_right"), HP.fa_ (.glo "_law_right"), HP.fa_ (.glo "law"), HP.fa_ (.glo "PlotError"), HP.fa_ (.glo "InvalidPoint"), HP.fa_ (.glo "InvalidPicture"), HP.fa_ (.glo "Picture"), HP.fa_ (.cls "Picture"), HP.fa_ (.mkr "Picture"), HP.isiB "Picture", HP.kitB1 (fun K => .ref (He.ga K "Picture")) (fun K => .ref (He.ga K "Picture")) true, HP.fa_ (.noat "Picture" "_edges"), HP.fa_ (.noat "Picture" "_has"), HP.fa_ (.free "ValueError"), HP.fa_ (.free "abs"), HP.fa_ (.free "all"), HP.fa_ (.free "bool"), HP.fa_ (.free "int"), HP.fa_ (.free "isinstance"), HP.fa_ (.free "len"), HP.fa_ (.free "list"), HP.fa_ (.free "max"), HP.fa_ (.free "min")]
def fa2 : List HP.Fact := [HP.fa_ (.free "property"), HP.fa_ (.free "range"), HP.fa_ (.free "repr"), HP.fa_ (.free "set"), HP.fa_ (.free "sorted"), HP.fa_ (.free "tuple"), HP.firstB "Picture", HP.neB "Picture", HP.notFirstB "Picture" (fun K => (.ref (He.ga K "Picture"))), HP.notFirstB "Picture" (fun _ => .type "NoneType"), HP.kitB1 (fun _ => .type "NoneType") (fun K => (.ref (He.ga K "Picture"))) false, HP.notFirstB "Picture" (fun _ => .type "int"), HP.kitB1 (fun _ => .type "int") (fun K => (.ref (He.ga K "Picture"))) false, HP.notFirstB "Picture" (fun _ => .type "bool"), HP.kitB1 (fun _ => .type "bool") (fun K => (.ref (He.ga K "Picture"))) false, HP.notFirstB "Picture" (fun _ => .type "str"), HP.kitB1 (fun _ => .type "str") (fun K => (.ref (He.ga K "Picture"))) false, HP.notFirstB "Picture" (fun _ => .type "list"), HP.kitB1 (fun _ => .type "list") (fun K => (.ref (He.ga K "Picture"))) false, HP.notFirstB "Picture" (fun _ => .type "tuple"), HP.kitB1 (fun _ => .type "tuple") (fun K => (.ref (He.ga K "Picture"))) false, HP.notFirstB "Picture" (fun _ => .type "dict"), HP.kitB1 (fun _ => .type "dict") (fun K => (.ref (He.ga K "Picture"))) false]
def facts : List HP.Fact := fa0 ++ fa1 ++ fa2
def nm0 : List Str := ["_wall", "PlotError", "InvalidPoint", "InvalidPicture", "is_integer", "is_integer_within", "is_tuple_of", "is_point", "check_point", "Picture", "is_edge", "edge_between", "check_edges", "check_picture", "_edge_between", "_law_fount", "_law_sip", "_law_mixed", "_law_number", "_law_pose", "_law_edges", "_law_same", "_law_between", "_law_values", "_law_is_edge", "_law_others_right", "_law_right"]
def names : List Str := nm0
structure Tx (K : PySem.W.Frag) (mg : Str → Option Value) : Prop where
  g_is_integer : mg "is_integer" = some (.ref (He.ga K "is_integer"))
  g_is_integer_within : mg "is_integer_within" = some (.ref (He.ga K "is_integer_within"))
  g_is_tuple_of : mg "is_tuple_of" = some (.ref (He.ga K "is_tuple_of"))
  g_is_point : mg "is_point" = some (.ref (He.ga K "is_point"))
  g_check_point : mg "check_point" = some (.ref (He.ga K "check_point"))
  p_Picture_edges : PropOf K (He.ga K "Picture") "edges" (He.ma K (He.ga K "Picture") "edges") (HP.getA "Picture" "edges" K)
  m_Picture_len : Meth K (He.ga K "Picture") "__len__" (He.ma K (He.ga K "Picture") "__len__")
  m_Picture_eq : Meth K (He.ga K "Picture") "__eq__" (He.ma K (He.ga K "Picture") "__eq__")
  m_Picture_contains : Meth K (He.ga K "Picture") "__contains__" (He.ma K (He.ga K "Picture") "__contains__")
  m_Picture_xor : Meth K (He.ga K "Picture") "__xor__" (He.ma K (He.ga K "Picture") "__xor__")
  m_Picture_moved : Meth K (He.ga K "Picture") "moved" (He.ma K (He.ga K "Picture") "moved")
  m_Picture_turned : Meth K (He.ga K "Picture") "turned" (He.ma K (He.ga K "Picture") "turned")
  g_is_edge : mg "is_edge" = some (.ref (He.ga K "is_edge"))
  g_edge_between : mg "edge_between" = some (.ref (He.ga K "edge_between"))
  g_check_edges : mg "check_edges" = some (.ref (He.ga K "check_edges"))
  g_check_picture : mg "check_picture" = some (.ref (He.ga K "check_picture"))
  g__edge_between : mg "_edge_between" = some (.ref (He.ga K "_edge_between"))
  g__law_fount : mg "_law_fount" = some (.ref (He.ga K "_law_fount"))
  g__law_sip : mg "_law_sip" = some (.ref (He.ga K "_law_sip"))
  g__law_mixed : mg "_law_mixed" = some (.ref (He.ga K "_law_mixed"))
  g__law_number : mg "_law_number" = some (.ref (He.ga K "_law_number"))
  g__law_pose : mg "_law_pose" = some (.ref (He.ga K "_law_pose"))
  g__law_edges : mg "_law_edges" = some (.ref (He.ga K "_law_edges"))
  g__law_same : mg "_law_same" = some (.ref (He.ga K "_law_same"))
  g__law_between : mg "_law_between" = some (.ref (He.ga K "_law_between"))
  g__law_values : mg "_law_values" = some (.ref (He.ga K "_law_values"))
  g__law_is_edge : mg "_law_is_edge" = some (.ref (He.ga K "_law_is_edge"))
  g__law_others_right : mg "_law_others_right" = some (.ref (He.ga K "_law_others_right"))
  g__law_right : mg "_law_right" = some (.ref (He.ga K "_law_right"))
  g_law : mg "law" = some (.ref (He.ga K "law"))
  g_PlotError : mg "PlotError" = some (.ref (He.ga K "PlotError"))
  g_InvalidPoint : mg "InvalidPoint" = some (.ref (He.ga K "InvalidPoint"))
  g_InvalidPicture : mg "InvalidPicture" = some (.ref (He.ga K "InvalidPicture"))
  g_Picture : mg "Picture" = some (.ref (He.ga K "Picture"))
  c_Picture : Cls K (He.ga K "Picture")
  k_Picture : Mk K (He.ga K "Picture") (He.ma K (He.ga K "Picture") "__init__")
  i_Picture : HP.IsiC K (He.ga K "Picture")
  t_Picture : PySem.W.kitOne K (.ref (He.ga K "Picture")) (.ref (He.ga K "Picture")) = some true
  n_Picture__edges : NoAttr K (He.ga K "Picture") "_edges"
  n_Picture__has : NoAttr K (He.ga K "Picture") "_has"
  z_ValueError : mg "ValueError" = none
  z_abs : mg "abs" = none
  z_all : mg "all" = none
  z_bool : mg "bool" = none
  z_int : mg "int" = none
  z_isinstance : mg "isinstance" = none
  z_len : mg "len" = none
  z_list : mg "list" = none
  z_max : mg "max" = none
  z_min : mg "min" = none
  z_property : mg "property" = none
  z_range : mg "range" = none
  z_repr : mg "repr" = none
  z_set : mg "set" = none
  z_sorted : mg "sorted" = none
  z_tuple : mg "tuple" = none
  f_Picture : PySem.W.selfFirst K (He.ga K "Picture") = true
  ne_Picture : PySem.W.findIn K (.ref (He.ga K "Picture")) "__ne__" = some (some (.builtin "object.__ne__"))
  nf_self : PySem.W.notFirst K (He.ga K "Picture") (.ref (He.ga K "Picture")) = true
  nf_none : PySem.W.notFirst K (He.ga K "Picture") (.type "NoneType") = true
  kt_none : PySem.W.kitOne K (.type "NoneType") (.ref (He.ga K "Picture")) = some false
  nf_int : PySem.W.notFirst K (He.ga K "Picture") (.type "int") = true
  kt_int : PySem.W.kitOne K (.type "int") (.ref (He.ga K "Picture")) = some false
  nf_bool : PySem.W.notFirst K (He.ga K "Picture") (.type "bool") = true
  kt_bool : PySem.W.kitOne K (.type "bool") (.ref (He.ga K "Picture")) = some false
  nf_str : PySem.W.notFirst K (He.ga K "Picture") (.type "str") = true
  kt_str : PySem.W.kitOne K (.type "str") (.ref (He.ga K "Picture")) = some false
  nf_list : PySem.W.notFirst K (He.ga K "Picture") (.type "list") = true
  kt_list : PySem.W.kitOne K (.type "list") (.ref (He.ga K "Picture")) = some false
  nf_tuple : PySem.W.notFirst K (He.ga K "Picture") (.type "tuple") = true
  kt_tuple : PySem.W.kitOne K (.type "tuple") (.ref (He.ga K "Picture")) = some false
  nf_dict : PySem.W.notFirst K (He.ga K "Picture") (.type "dict") = true
  kt_dict : PySem.W.kitOne K (.type "dict") (.ref (He.ga K "Picture")) = some false
structure Ds (K : PySem.W.Frag) where
  fd_is_integer : FuncData
  F_is_integer : FunD K "is_integer" "is_integer" (defArgs sis_integer) (defBody sis_integer) (defScope sis_integer) [] [] (dis_integer.adr K) fd_is_integer
  fd_is_integer_within : FuncData
  F_is_integer_within : FunD K "is_integer_within" "is_integer_within" (defArgs sis_integer_within) (defBody sis_integer_within) (defScope sis_integer_within) [] [] (dis_integer_within.adr K) fd_is_integer_within
  fd_is_tuple_of : FuncData
  F_is_tuple_of : FunD K "is_tuple_of" "is_tuple_of" (defArgs sis_tuple_of) (defBody sis_tuple_of) (defScope sis_tuple_of) [] [] (dis_tuple_of.adr K) fd_is_tuple_of
  fd_is_point : FuncData
  F_is_point : FunD K "is_point" "is_point" (defArgs sis_point) (defBody sis_point) (defScope sis_point) [] [] (dis_point.adr K) fd_is_point
  fd_check_point : FuncData
  F_check_point : FunD K "check_point" "check_point" (defArgs scheck_point) (defBody scheck_point) (defScope scheck_point) [] [] (dcheck_point.adr K) fd_check_point
  fd_Picture_init : FuncData
  F_Picture_init : FunD K "__init__" "Picture.__init__" (defArgs sPicture_init) (defBody sPicture_init) (defScope sPicture_init) [] [] (dPicture_init.adr K) fd_Picture_init
  fd_Picture_edges : FuncData
  F_Picture_edges : FunD K "edges" "Picture.edges" (defArgs sPicture_edges) (defBody sPicture_edges) (defScope sPicture_edges) [] [] (dPicture_edges.adr K) fd_Picture_edges
  fd_Picture_len : FuncData
  F_Picture_len : FunD K "__len__" "Picture.__len__" (defArgs sPicture_len) (defBody sPicture_len) (defScope sPicture_len) [] [] (dPicture_len.adr K) fd_Picture_len
  fd_Picture_eq : FuncData
  F_Picture_eq : FunD K "__eq__" "Picture.__eq__" (defArgs sPicture_eq) (defBody sPicture_eq) (defScope sPicture_eq) [] [] (dPicture_eq.adr K) fd_Picture_eq
  fd_Picture_contains : FuncData
  F_Picture_contains : FunD K "__contains__" "Picture.__contains__" (defArgs sPicture_contains) (defBody sPicture_contains) (defScope sPicture_contains) [] [] (dPicture_contains.adr K) fd_Picture_contains
  fd_Picture_xor : FuncData
  F_Picture_xor : FunD K "__xor__" "Picture.__xor__" (defArgs sPicture_xor) (defBody sPicture_xor) (defScope sPicture_xor) [] [] (dPicture_xor.adr K) fd_Picture_xor
  fd_Picture_moved : FuncData
  F_Picture_moved : FunD K "moved" "Picture.moved" (defArgs sPicture_moved) (defBody sPicture_moved) (defScope sPicture_moved) [] [] (dPicture_moved.adr K) fd_Picture_moved
  fd_Picture_turned : FuncData
  F_Picture_turned : FunD K "turned" "Picture.turned" (defArgs sPicture_turned) (defBody sPicture_turned) (defScope sPicture_turned) [] [] (dPicture_turned.adr K) fd_Picture_turned
  fd_is_edge : FuncData
  F_is_edge : FunD K "is_edge" "is_edge" (defArgs sis_edge) (defBody sis_edge) (defScope sis_edge) [] [] (dis_edge.adr K) fd_is_edge
  fd_edge_between : FuncData
  F_edge_between : FunD K "edge_between" "edge_between" (defArgs sedge_between) (defBody sedge_between) (defScope sedge_between) [] [] (dedge_between.adr K) fd_edge_between
  fd_check_edges : FuncData
  F_check_edges : FunD K "check_edges" "check_edges" (defArgs scheck_edges) (defBody scheck_edges) (defScope scheck_edges) [] [] (dcheck_edges.adr K) fd_check_edges
  fd_check_picture : FuncData
  F_check_picture : FunD K "check_picture" "check_picture" (defArgs scheck_picture) (defBody scheck_picture) (defScope scheck_picture) [] [] (dcheck_picture.adr K) fd_check_picture
  fd__edge_between : FuncData
  F__edge_between : FunD K "_edge_between" "_edge_between" (defArgs s_edge_between) (defBody s_edge_between) (defScope s_edge_between) [] [] (d_edge_between.adr K) fd__edge_between
  fd__law_fount : FuncData
  F__law_fount : FunD K "_law_fount" "_law_fount" (defArgs s_law_fount) (defBody s_law_fount) (defScope s_law_fount) [] [] (d_law_fount.adr K) fd__law_fount
  fd__law_sip : FuncData
  F__law_sip : FunD K "_law_sip" "_law_sip" (defArgs s_law_sip) (defBody s_law_sip) (defScope s_law_sip) [] [] (d_law_sip.adr K) fd__law_sip
  fd__law_mixed : FuncData
  F__law_mixed : FunD K "_law_mixed" "_law_mixed" (defArgs s_law_mixed) (defBody s_law_mixed) (defScope s_law_mixed) [] [] (d_law_mixed.adr K) fd__law_mixed
  fd__law_number : FuncData
  F__law_number : FunD K "_law_number" "_law_number" (defArgs s_law_number) (defBody s_law_number) (defScope s_law_number) [] [] (d_law_number.adr K) fd__law_number
  fd__law_pose : FuncData
  F__law_pose : FunD K "_law_pose" "_law_pose" (defArgs s_law_pose) (defBody s_law_pose) (defScope s_law_pose) [] [] (d_law_pose.adr K) fd__law_pose
  fd__law_edges : FuncData
  F__law_edges : FunD K "_law_edges" "_law_edges" (defArgs s_law_edges) (defBody s_law_edges) (defScope s_law_edges) [] [] (d_law_edges.adr K) fd__law_edges
  fd__law_same : FuncData
  F__law_same : FunD K "_law_same" "_law_same" (defArgs s_law_same) (defBody s_law_same) (defScope s_law_same) [] [] (d_law_same.adr K) fd__law_same
  fd__law_between : FuncData
  F__law_between : FunD K "_law_between" "_law_between" (defArgs s_law_between) (defBody s_law_between) (defScope s_law_between) [] [] (d_law_between.adr K) fd__law_between
  fd__law_values : FuncData
  F__law_values : FunD K "_law_values" "_law_values" (defArgs s_law_values) (defBody s_law_values) (defScope s_law_values) [] [] (d_law_values.adr K) fd__law_values
  fd__law_is_edge : FuncData
  F__law_is_edge : FunD K "_law_is_edge" "_law_is_edge" (defArgs s_law_is_edge) (defBody s_law_is_edge) (defScope s_law_is_edge) [] [] (d_law_is_edge.adr K) fd__law_is_edge
  fd__law_others_right : FuncData
  F__law_others_right : FunD K "_law_others_right" "_law_others_right" (defArgs s_law_others_right) (defBody s_law_others_right) (defScope s_law_others_right) [] [] (d_law_others_right.adr K) fd__law_others_right
  fd__law_right : FuncData
  F__law_right : FunD K "_law_right" "_law_right" (defArgs s_law_right) (defBody s_law_right) (defScope s_law_right) [] [] (d_law_right.adr K) fd__law_right
  fd_law : FuncData
  F_law : FunD K "law" "law" (defArgs slaw) (defBody slaw) (defScope slaw) [] [] (dlaw.adr K) fd_law
theorem tx_of {K : PySem.W.Frag} {h : Heap} {mg : Str → Option Value} (X : K.In h) (G : h.Ns mainGlobals mg) (c : HP.SaysA facts fns K) : Tx K mg where
  g_is_integer := He.glo_ok X G (c.fact 0 rfl)
  g_is_integer_within := He.glo_ok X G (c.fact 1 rfl)
  g_is_tuple_of := He.glo_ok X G (c.fact 2 rfl)
  g_is_point := He.glo_ok X G (c.fact 3 rfl)
  g_check_point := He.glo_ok X G (c.fact 4 rfl)
  p_Picture_edges := HP.propB_ok (c.fact 5 rfl)
  m_Picture_len := He.meth_ok (c.fact 6 rfl)
  m_Picture_eq := He.meth_ok (c.fact 7 rfl)
  m_Picture_contains := He.meth_ok (c.fact 8 rfl)
  m_Picture_xor := He.meth_ok (c.fact 9 rfl)
  m_Picture_moved := He.meth_ok (c.fact 10 rfl)
  m_Picture_turned := He.meth_ok (c.fact 11 rfl)
  g_is_edge := He.glo_ok X G (c.fact 12 rfl)
  g_edge_between := He.glo_ok X G (c.fact 13 rfl)
  g_check_edges := He.glo_ok X G (c.fact 14 rfl)
  g_check_picture := He.glo_ok X G (c.fact 15 rfl)
  g__edge_between := He.glo_ok X G (c.fact 16 rfl)
  g__law_fount := He.glo_ok X G (c.fact 17 rfl)
  g__law_sip := He.glo_ok X G (c.fact 18 rfl)
  g__law_mixed := He.glo_ok X G (c.fact 19 rfl)
  g__law_number := He.glo_ok X G (c.fact 20 rfl)
  g__law_pose := He.glo_ok X G (c.fact 21 rfl)
  g__law_edges := He.glo_ok X G (c.fact 22 rfl)
  g__law_same := He.glo_ok X G (c.fact 23 rfl)
  g__law_between := He.glo_ok X G (c.fact 24 rfl)
  g__law_values := He.glo_ok X G (c.fact 25 rfl)
  g__law_is_edge := He.glo_ok X G (c.fact 26 rfl)
  g__law_others_right := He.glo_ok X G (c.fact 27 rfl)
  g__law_right := He.glo_ok X G (c.fact 28 rfl)
  g_law := He.glo_ok X G (c.fact 29 rfl)
  g_PlotError := He.glo_ok X G (c.fact 30 rfl)
  g_InvalidPoint := He.glo_ok X G (c.fact 31 rfl)
  g_InvalidPicture := He.glo_ok X G (c.fact 32 rfl)
  g_Picture := He.glo_ok X G (c.fact 33 rfl)
  c_Picture := He.cls_ok (c.fact 34 rfl)
  k_Picture := He.mkr_ok (c.fact 35 rfl)
  i_Picture := HP.isiB_ok (c.fact 36 rfl)
  t_Picture := of_decide_eq_true (c.fact 37 rfl)
  n_Picture__edges := He.noat_ok (c.fact 38 rfl)
  n_Picture__has := He.noat_ok (c.fact 39 rfl)
  z_ValueError := He.free_ok X G (c.fact 40 rfl)
  z_abs := He.free_ok X G (c.fact 41 rfl)
  z_all := He.free_ok X G (c.fact 42 rfl)
  z_bool := He.free_ok X G (c.fact 43 rfl)
  z_int := He.free_ok X G (c.fact 44 rfl)
  z_isinstance := He.free_ok X G (c.fact 45 rfl)
  z_len := He.free_ok X G (c.fact 46 rfl)
  z_list := He.free_ok X G (c.fact 47 rfl)
  z_max := He.free_ok X G (c.fact 48 rfl)
  z_min := He.free_ok X G (c.fact 49 rfl)
  z_property := He.free_ok X G (c.fact 50 rfl)
  z_range := He.free_ok X G (c.fact 51 rfl)
  z_repr := He.free_ok X G (c.fact 52 rfl)
  z_set := He.free_ok X G (c.fact 53 rfl)
  z_sorted := He.free_ok X G (c.fact 54 rfl)
  z_tuple := He.free_ok X G (c.fact 55 rfl)
  f_Picture := (c.fact 56 rfl)
  ne_Picture := HP.neB_ok (c.fact 57 rfl)
  nf_self := (c.fact 58 rfl)
  nf_none := (c.fact 59 rfl)
  kt_none := of_decide_eq_true (c.fact 60 rfl)
  nf_int := (c.fact 61 rfl)
  kt_int := of_decide_eq_true (c.fact 62 rfl)
  nf_bool := (c.fact 63 rfl)
  kt_bool := of_decide_eq_true (c.fact 64 rfl)
  nf_str := (c.fact 65 rfl)
  kt_str := of_decide_eq_true (c.fact 66 rfl)
  nf_list := (c.fact 67 rfl)
  kt_list := of_decide_eq_true (c.fact 68 rfl)
  nf_tuple := (c.fact 69 rfl)
  kt_tuple := of_decide_eq_true (c.fact 70 rfl)
  nf_dict := (c.fact 71 rfl)
  kt_dict := of_decide_eq_true (c.fact 72 rfl)
theorem ds_of {K : PySem.W.Frag} (c : HP.SaysA facts fns K) : Nonempty (Ds K) := by
  obtain ⟨f0, p0⟩ := c.def_ 0 (d := dis_integer) rfl
  obtain ⟨f1, p1⟩ := c.def_ 1 (d := dis_integer_within) rfl
  obtain ⟨f2, p2⟩ := c.def_ 2 (d := dis_tuple_of) rfl
  obtain ⟨f3, p3⟩ := c.def_ 3 (d := dis_point) rfl
  obtain ⟨f4, p4⟩ := c.def_ 4 (d := dcheck_point) rfl
  obtain ⟨f5, p5⟩ := c.def_ 5 (d := dPicture_init) rfl
  obtain ⟨f6, p6⟩ := c.def_ 6 (d := dPicture_edges) rfl
  obtain ⟨f7, p7⟩ := c.def_ 7 (d := dPicture_len) rfl
  obtain ⟨f8, p8⟩ := c.def_ 8 (d := dPicture_eq) rfl
  obtain ⟨f9, p9⟩ := c.def_ 9 (d := dPicture_contains) rfl
  obtain ⟨f10, p10⟩ := c.def_ 10 (d := dPicture_xor) rfl
  obtain ⟨f11, p11⟩ := c.def_ 11 (d := dPicture_moved) rfl
  obtain ⟨f12, p12⟩ := c.def_ 12 (d := dPicture_turned) rfl
  obtain ⟨f13, p13⟩ := c.def_ 13 (d := dis_edge) rfl
  obtain ⟨f14, p14⟩ := c.def_ 14 (d := dedge_between) rfl
  obtain ⟨f15, p15⟩ := c.def_ 15 (d := dcheck_edges) rfl
  obtain ⟨f16, p16⟩ := c.def_ 16 (d := dcheck_picture) rfl
  obtain ⟨f17, p17⟩ := c.def_ 17 (d := d_edge_between) rfl
  obtain ⟨f18, p18⟩ := c.def_ 18 (d := d_law_fount) rfl
  obtain ⟨f19, p19⟩ := c.def_ 19 (d := d_law_sip) rfl
  obtain ⟨f20, p20⟩ := c.def_ 20 (d := d_law_mixed) rfl
  obtain ⟨f21, p21⟩ := c.def_ 21 (d := d_law_number) rfl
  obtain ⟨f22, p22⟩ := c.def_ 22 (d := d_law_pose) rfl
  obtain ⟨f23, p23⟩ := c.def_ 23 (d := d_law_edges) rfl
  obtain ⟨f24, p24⟩ := c.def_ 24 (d := d_law_same) rfl
  obtain ⟨f25, p25⟩ := c.def_ 25 (d := d_law_between) rfl
  obtain ⟨f26, p26⟩ := c.def_ 26 (d := d_law_values) rfl
  obtain ⟨f27, p27⟩ := c.def_ 27 (d := d_law_is_edge) rfl
  obtain ⟨f28, p28⟩ := c.def_ 28 (d := d_law_others_right) rfl
  obtain ⟨f29, p29⟩ := c.def_ 29 (d := d_law_right) rfl
  obtain ⟨f30, p30⟩ := c.def_ 30 (d := dlaw) rfl
  exact ⟨⟨f0, p0, f1, p1, f2, p2, f3, p3, f4, p4, f5, p5, f6, p6, f7, p7, f8, p8, f9, p9, f10, p10, f11, p11, f12, p12, f13, p13, f14, p14, f15, p15, f16, p16, f17, p17, f18, p18, f19, p19, f20, p20, f21, p21, f22, p22, f23, p23, f24, p24, f25, p25, f26, p26, f27, p27, f28, p28, f29, p29, f30, p30⟩⟩
theorem b_is_integer {K : PySem.W.Frag} (D : Ds K) : Binds K D.fd_is_integer ["value"] [] := D.F_is_integer.bindsN fun _ _ _ _ _ _ us hl => match us, hl with | [_], _ => rfl
theorem b_is_integer_within {K : PySem.W.Frag} (D : Ds K) : Binds K D.fd_is_integer_within ["value", "least", "most"] [] := D.F_is_integer_within.bindsN fun _ _ _ _ _ _ us hl => match us, hl with | [_, _, _], _ => rfl
theorem b_is_tuple_of {K : PySem.W.Frag} (D : Ds K) : Binds K D.fd_is_tuple_of ["value", "many"] [] := D.F_is_tuple_of.bindsN fun _ _ _ _ _ _ us hl => match us, hl with | [_, _], _ => rfl
theorem b_is_point {K : PySem.W.Frag} (D : Ds K) : Binds K D.fd_is_point ["value"] [] := D.F_is_point.bindsN fun _ _ _ _ _ _ us hl => match us, hl with | [_], _ => rfl
theorem b_check_point {K : PySem.W.Frag} (D : Ds K) : Binds K D.fd_check_point ["point"] [] := D.F_check_point.bindsN fun _ _ _ _ _ _ us hl => match us, hl with | [_], _ => rfl
theorem b_Picture_init {K : PySem.W.Frag} (D : Ds K) : Binds K D.fd_Picture_init ["self", "edges"] [] := D.F_Picture_init.bindsN fun _ _ _ _ _ _ us hl => match us, hl with | [_, _], _ => rfl
theorem b_Picture_edges {K : PySem.W.Frag} (D : Ds K) : Binds K D.fd_Picture_edges ["self"] [] := D.F_Picture_edges.bindsN fun _ _ _ _ _ _ us hl => match us, hl with | [_], _ => rfl
theorem b_Picture_len {K : PySem.W.Frag} (D : Ds K) : Binds K D.fd_Picture_len ["self"] [] := D.F_Picture_len.bindsN fun _ _ _ _ _ _ us hl => match us, hl with | [_], _ => rfl
theorem b_Picture_eq {K : PySem.W.Frag} (D : Ds K) : Binds K D.fd_Picture_eq ["self", "other"] [] := D.F_Picture_eq.bindsN fun _ _ _ _ _ _ us hl => match us, hl with | [_, _], _ => rfl
theorem b_Picture_contains {K : PySem.W.Frag} (D : Ds K) : Binds K D.fd_Picture_contains ["self", "x"] [] := D.F_Picture_contains.bindsN fun _ _ _ _ _ _ us hl => match us, hl with | [_, _], _ => rfl
theorem b_Picture_xor {K : PySem.W.Frag} (D : Ds K) : Binds K D.fd_Picture_xor ["self", "other"] [] := D.F_Picture_xor.bindsN fun _ _ _ _ _ _ us hl => match us, hl with | [_, _], _ => rfl
theorem b_Picture_moved {K : PySem.W.Frag} (D : Ds K) : Binds K D.fd_Picture_moved ["self", "dx", "dy"] [] := D.F_Picture_moved.bindsN fun _ _ _ _ _ _ us hl => match us, hl with | [_, _, _], _ => rfl
theorem b_Picture_turned {K : PySem.W.Frag} (D : Ds K) : Binds K D.fd_Picture_turned ["self", "quarters"] [] := D.F_Picture_turned.bindsN fun _ _ _ _ _ _ us hl => match us, hl with | [_, _], _ => rfl
theorem b_is_edge {K : PySem.W.Frag} (D : Ds K) : Binds K D.fd_is_edge ["value"] [] := D.F_is_edge.bindsN fun _ _ _ _ _ _ us hl => match us, hl with | [_], _ => rfl
theorem b_edge_between {K : PySem.W.Frag} (D : Ds K) : Binds K D.fd_edge_between ["point", "other_point"] [] := D.F_edge_between.bindsN fun _ _ _ _ _ _ us hl => match us, hl with | [_, _], _ => rfl
theorem b_check_edges {K : PySem.W.Frag} (D : Ds K) : Binds K D.fd_check_edges ["edges"] [] := D.F_check_edges.bindsN fun _ _ _ _ _ _ us hl => match us, hl with | [_], _ => rfl
theorem b_check_picture {K : PySem.W.Frag} (D : Ds K) : Binds K D.fd_check_picture ["picture"] [] := D.F_check_picture.bindsN fun _ _ _ _ _ _ us hl => match us, hl with | [_], _ => rfl
theorem b__edge_between {K : PySem.W.Frag} (D : Ds K) : Binds K D.fd__edge_between ["point", "other_point"] [] := D.F__edge_between.bindsN fun _ _ _ _ _ _ us hl => match us, hl with | [_, _], _ => rfl
theorem b__law_fount {K : PySem.W.Frag} (D : Ds K) : Binds K D.fd__law_fount ["script", "k"] [] := D.F__law_fount.bindsN fun _ _ _ _ _ _ us hl => match us, hl with | [_, _], _ => rfl
theorem b__law_sip {K : PySem.W.Frag} (D : Ds K) : Binds K D.fd__law_sip ["fount", "many"] [] := D.F__law_sip.bindsN fun _ _ _ _ _ _ us hl => match us, hl with | [_, _], _ => rfl
theorem b__law_mixed {K : PySem.W.Frag} (D : Ds K) : Binds K D.fd__law_mixed ["fount", "items"] [] := D.F__law_mixed.bindsN fun _ _ _ _ _ _ us hl => match us, hl with | [_, _], _ => rfl
theorem b__law_number {K : PySem.W.Frag} (D : Ds K) : Binds K D.fd__law_number ["fount"] [] := D.F__law_number.bindsN fun _ _ _ _ _ _ us hl => match us, hl with | [_], _ => rfl
theorem b__law_pose {K : PySem.W.Frag} (D : Ds K) : Binds K D.fd__law_pose ["fount"] [] := D.F__law_pose.bindsN fun _ _ _ _ _ _ us hl => match us, hl with | [_], _ => rfl
theorem b__law_edges {K : PySem.W.Frag} (D : Ds K) : Binds K D.fd__law_edges ["fount", "many"] [] := D.F__law_edges.bindsN fun _ _ _ _ _ _ us hl => match us, hl with | [_, _], _ => rfl
theorem b__law_same {K : PySem.W.Frag} (D : Ds K) : Binds K D.fd__law_same ["found", "due"] [] := D.F__law_same.bindsN fun _ _ _ _ _ _ us hl => match us, hl with | [_, _], _ => rfl
theorem b__law_between {K : PySem.W.Frag} (D : Ds K) : Binds K D.fd__law_between ["one", "two"] [] := D.F__law_between.bindsN fun _ _ _ _ _ _ us hl => match us, hl with | [_, _], _ => rfl
theorem b__law_values {K : PySem.W.Frag} (D : Ds K) : Binds K D.fd__law_values ["edges"] [] := D.F__law_values.bindsN fun _ _ _ _ _ _ us hl => match us, hl with | [_], _ => rfl
theorem b__law_is_edge {K : PySem.W.Frag} (D : Ds K) : Binds K D.fd__law_is_edge ["value"] [] := D.F__law_is_edge.bindsN fun _ _ _ _ _ _ us hl => match us, hl with | [_], _ => rfl
theorem b__law_others_right {K : PySem.W.Frag} (D : Ds K) : Binds K D.fd__law_others_right ["picture_here", "edges"] [] := D.F__law_others_right.bindsN fun _ _ _ _ _ _ us hl => match us, hl with | [_, _], _ => rfl
theorem b__law_right {K : PySem.W.Frag} (D : Ds K) : Binds K D.fd__law_right ["fount", "edges"] [] := D.F__law_right.bindsN fun _ _ _ _ _ _ us hl => match us, hl with | [_, _], _ => rfl
theorem b_law {K : PySem.W.Frag} (D : Ds K) : Binds K D.fd_law ["script"] [] := D.F_law.bindsN fun _ _ _ _ _ _ us hl => match us, hl with | [_], _ => rfl
abbrev Rw : PySem.W.OpenRow := PySem.W.OpenLaw.row PySem.Challenge.rw_plotpens_k45_pictures_made
abbrev hk : PySem.W.Hook := HP.hookA 6 facts fns
def ob (s : PySem.W.SharedT) : HP.Al := HP.obsAG 6 facts fns (HandSHeadRun.getT s)
theorem ob_eq (s : PySem.W.SharedT) : ob s = hk.obs s.abs := HP.obsAG_eq (HandSHeadRun.getT_eq s)
end K45

set_option Elab.async false
set_option linter.all false
set_option maxRecDepth 100000
set_option maxHeartbeats 4000000
/-! tables of sets: every slot is met on every way, for masks up to 2047 -/
namespace TT
open PySem PySem.Spec PyProof.Rows L2
/-- the slots that are met from x on, as bits -/
def marks (m : Nat) : Nat → Nat → Nat → Nat
  | 0, _, seen => seen
  | k + 1, x, seen => marks m k ((x * 5 + 1) % (m + 1)) (seen ||| (1 <<< x))
theorem lcgI_next (m x : Nat) : ∀ b, lcgI m ((x * 5 + 1) % (m + 1)) b = lcgI m x (b + 1)
  | 0 => rfl
  | b + 1 => by
    show (lcgI m ((x * 5 + 1) % (m + 1)) b * 5 + 1) % (m + 1) = (lcgI m x (b + 1) * 5 + 1) % (m + 1)
    rw [lcgI_next m x b]
theorem marks_bit (m j : Nat) : ∀ (k x seen : Nat), (marks m k x seen).testBit j = true → seen.testBit j = true ∨ ∃ b, b < k ∧ lcgI m x b = j
  | 0, x, seen, h => .inl h
  | k + 1, x, seen, h => by
    rcases marks_bit m j k _ _ h with h | ⟨b, hb, e⟩
    · rw [Nat.testBit_or, Bool.or_eq_true] at h
      rcases h with h | h
      · exact .inl h
      · refine .inr ⟨0, Nat.succ_pos _, ?_⟩
        rw [Nat.one_shiftLeft, Nat.testBit_two_pow] at h
        exact of_decide_eq_true h
    · exact .inr ⟨b + 1, Nat.succ_lt_succ hb, by rw [← lcgI_next]; exact e⟩
/-- all slots are met from 0 on, and then 0 again -/
def Round (m : Nat) : Prop := (∀ j, j ≤ m → ∃ b, b ≤ m ∧ lcgI m 0 b = j) ∧ lcgI m 0 (m + 1) = 0
theorem round_of {m : Nat} (h1 : marks m (m + 1) 0 0 = 2 ^ (m + 1) - 1) (h2 : lcgI m 0 (m + 1) = 0) : Round m := by
  refine ⟨fun j hj => ?_, h2⟩
  have hb : (marks m (m + 1) 0 0).testBit j = true := by
    rw [h1, Nat.testBit_two_pow_sub_one]
    exact decide_eq_true (Nat.lt_succ_of_le hj)
  rcases marks_bit m j _ _ _ hb with h | ⟨b, hb, e⟩
  · rw [Nat.zero_testBit] at h
    cases h
  · exact ⟨b, Nat.le_of_lt_succ hb, e⟩
theorem lcgI_add (m x a : Nat) : ∀ k, lcgI m (lcgI m x a) k = lcgI m x (a + k)
  | 0 => rfl
  | k + 1 => by
    show (lcgI m (lcgI m x a) k * 5 + 1) % (m + 1) = (lcgI m x (a + k) * 5 + 1) % (m + 1)
    rw [lcgI_add m x a k]
/-- from anywhere each slot is met within a round -/
theorem Round.any {m : Nat} (R : Round m) {i j : Nat} (hi : i ≤ m) (hj : j ≤ m) : ∃ k, k ≤ m ∧ lcgI m i k = j := by
  obtain ⟨a, ha, rfl⟩ := R.1 i hi
  obtain ⟨b, hb, rfl⟩ := R.1 j hj
  by_cases c : a ≤ b
  · refine ⟨b - a, by omega, ?_⟩
    rw [lcgI_add, Nat.add_sub_cancel' c]
  · refine ⟨m + 1 - a + b, by omega, ?_⟩
    rw [lcgI_add, ← Nat.add_assoc, Nat.add_sub_cancel' (by omega), ← lcgI_add, R.2]
/-- what a table's mask has to grant: on the way of any hash each slot is where a run begins, early enough -/
def Full (m : Nat) : Prop := ∀ (h : Int) (j : Nat), j ≤ m → ∃ n, n ≤ m + 12 ∧ runI m (SetTable.bits h) n = j
theorem Round.full {m : Nat} (R : Round m) : Full m := fun h j hj => by
  obtain ⟨k, hk, e⟩ := R.any (runI_le m (SetTable.bits h) 12) hj
  exact ⟨12 + k, by omega, (runI_tail (bits_lt h) k).trans e⟩
theorem full7 : Full 7 := Round.full (round_of (by decide +kernel) (by decide +kernel))
theorem full31 : Full 31 := Round.full (round_of (by decide +kernel) (by decide +kernel))
theorem full127 : Full 127 := Round.full (round_of (by decide +kernel) (by decide +kernel))
theorem full511 : Full 511 := Round.full (round_of (by decide +kernel) (by decide +kernel))
theorem full2047 : Full 2047 := Round.full (round_of (by decide +kernel) (by decide +kernel))
/-- the masks that come, up to so many items -/
inductive Mask : Nat → Prop
  | a : Mask 7
  | b : Mask 31
  | c : Mask 127
  | d : Mask 511
  | e : Mask 2047
theorem Mask.full {m : Nat} (M : Mask m) : Full m := by
  cases M
  · exact full7
  · exact full31
  · exact full127
  · exact full511
  · exact full2047
theorem Mask.odd {m : Nat} (M : Mask m) : m % 2 = 1 := by cases M <;> rfl
theorem Mask.le {m : Nat} (M : Mask m) : m ≤ 2047 := by cases M <;> decide
theorem grown_5 : SetTable.sizeAbove (SetTable.grown 5) = 32 := by decide +kernel
theorem grown_19 : SetTable.sizeAbove (SetTable.grown 19) = 128 := by decide +kernel
theorem grown_77 : SetTable.sizeAbove (SetTable.grown 77) = 512 := by decide +kernel
theorem grown_307 : SetTable.sizeAbove (SetTable.grown 307) = 2048 := by decide +kernel
/-- a table that is too full is laid anew with the next mask, which has room -/
theorem Mask.next {m n : Nat} (M : Mask m) (h1 : n * 5 < m * 3) (h2 : (n + 1) * 5 ≥ m * 3) (h3 : n + 1 ≤ 1228) : ∃ m', Mask m' ∧ SetTable.sizeAbove (SetTable.grown (n + 1)) = m' + 1 ∧ (n + 1) * 5 < m' * 3 := by
  cases M
  · obtain rfl : n = 4 := by omega
    exact ⟨31, .b, grown_5, by omega⟩
  · obtain rfl : n = 18 := by omega
    exact ⟨127, .c, grown_19, by omega⟩
  · obtain rfl : n = 76 := by omega
    exact ⟨511, .d, grown_77, by omega⟩
  · obtain rfl : n = 306 := by omega
    exact ⟨2047, .e, grown_307, by omega⟩
  · omega
theorem slot_in {m : Nat} {h : Int} {k : Nat} : way m h k ≤ m := by
  have b := runEnd_bd (runI_le m (SetTable.bits h) 0)
  have q := nth_in (m := m) k (runAt m (SetTable.bits h % (m + 1)) (SetTable.bits h)) (by
    show SetTable.bits h % (m + 1) + (SetTable.runEnd m (SetTable.bits h % (m + 1)) - SetTable.bits h % (m + 1)) ≤ m
    have b' : SetTable.runEnd m (SetTable.bits h % (m + 1)) ≤ m ∧ SetTable.bits h % (m + 1) ≤ SetTable.runEnd m (SetTable.bits h % (m + 1)) ∧ SetTable.runEnd m (SetTable.bits h % (m + 1)) ≤ SetTable.bits h % (m + 1) + 9 := b
    omega)
  exact Nat.le_trans (Nat.le_add_right _ _) q
end TT

set_option Elab.async false
set_option linter.all false
set_option maxRecDepth 100000
set_option maxHeartbeats 4000000
/-! where hashes sit in a table -/
namespace TT
open PySem PySem.Spec PyProof.Rows L2
/-- hashes and their slots: each slot is the first free one on its hash's way, given the others -/
structure Placed (m : Nat) (hs : List Int) (ps : List Nat) : Prop where
  len : ps.length = hs.length
  bd : ∀ j ∈ ps, j ≤ m
  reach : ∀ (i : Nat) (h : Int) (j : Nat), hs[i]? = some h → ps[i]? = some j → ∃ K, way m h K = j ∧ ∀ k, k < K → way m h k ∈ ps
theorem Placed.nil (m : Nat) : Placed m [] [] := ⟨rfl, fun j hj => (by cases hj), fun i h j e => (by simp at e)⟩
/-- the first free slot of a way -/
theorem Placed.free {m : Nat} {hs : List Int} {ps : List Nat} (T : Placed m hs ps) (F : Full m) (few : hs.length ≤ m) (h : Int) :
    ∃ K, K < 10 * SetTable.turns m ∧ K ≤ off m (SetTable.bits h % (m + 1)) (SetTable.bits h) (m + 12) ∧ way m h K ∉ ps ∧ ∀ k, k < K → way m h k ∈ ps := by
  obtain ⟨j, hj, out⟩ := st_missing ps (m + 1) (by rw [T.len]; omega)
  obtain ⟨n, hn, e⟩ := F h j (Nat.le_of_lt_succ hj)
  obtain ⟨k0, hk0, e0⟩ := run_nth m (SetTable.bits h) n
  have at0 : way m h k0 = j := by
    show (nth m (runAt m (SetTable.bits h % (m + 1)) (SetTable.bits h)) k0).j = j
    rw [e0]
    exact e
  have at1 : way m h (off m (SetTable.bits h % (m + 1)) (SetTable.bits h) n) = j := by
    show (nth m (runAt m (SetTable.bits h % (m + 1)) (SetTable.bits h)) (off m (SetTable.bits h % (m + 1)) (SetTable.bits h) n)).j = j
    rw [nth_off, itL_run]
    exact e
  obtain ⟨K, l0, l1, l2⟩ := st_least (p := fun k => way m h k ∉ ps) k0 (by show way m h k0 ∉ ps; rw [at0]; exact out)
  have l3 : K ≤ off m (SetTable.bits h % (m + 1)) (SetTable.bits h) n := by
    refine Nat.le_of_not_lt fun z => l2 _ z ?_
    show way m h (off m (SetTable.bits h % (m + 1)) (SetTable.bits h) n) ∉ ps
    rw [at1]
    exact out
  have mono : ∀ (b' i' c d : Nat), off m i' b' c ≤ off m i' b' (c + d) := fun b' i' c d => by
    induction c generalizing b' i' with
    | zero => exact Nat.zero_le _
    | succ c ih =>
      rw [Nat.add_right_comm]
      exact Nat.add_le_add_left (ih _ _) _
  have tu : SetTable.turns m = m + 15 := rfl
  refine ⟨K, by omega, Nat.le_trans l3 ?_, l1, fun k hk => Classical.byContradiction (l2 k hk)⟩
  have q := mono (SetTable.bits h) (SetTable.bits h % (m + 1)) n (m + 12 - n)
  rwa [Nat.add_sub_cancel' hn] at q
/-- one more, at any place of both lists -/
theorem Placed.ins {m : Nat} {hs : List Int} {ps : List Nat} (T : Placed m hs ps) {h : Int} {K p : Nat} (hp : p ≤ hs.length) (hb : ∀ k, k < K → way m h k ∈ ps) :
    Placed m (hs.take p ++ h :: hs.drop p) (ps.take p ++ way m h K :: ps.drop p) := by
  have hp' : p ≤ ps.length := by rw [T.len]; exact hp
  refine ⟨by rw [len_ins _ hp, len_ins _ hp', T.len], fun j hj => ?_, fun i h' j' e1 e2 => ?_⟩
  · rcases mem_ins.1 hj with rfl | hj
    · exact slot_in
    · exact T.bd j hj
  · have go : ∀ i', hs[i']? = some h' → ps[i']? = some j' → ∃ K', way m h' K' = j' ∧ ∀ k, k < K' → way m h' k ∈ ps.take p ++ way m h K :: ps.drop p := fun i' f1 f2 => by
      obtain ⟨K', e, b⟩ := T.reach i' h' j' f1 f2
      exact ⟨K', e, fun k hk => mem_ins.2 (.inr (b k hk))⟩
    rw [tins_get hs hp] at e1
    rw [tins_get ps hp'] at e2
    by_cases c : i < p
    · rw [if_pos c] at e1 e2
      exact go i e1 e2
    · rw [if_neg c] at e1 e2
      by_cases d : i = p
      · rw [if_pos d] at e1 e2
        cases e1
        cases e2
        exact ⟨K, rfl, fun k hk => mem_ins.2 (.inr (hb k hk))⟩
      · rw [if_neg d] at e1 e2
        exact go (i - 1) e1 e2
/-- what sits on the way before a free slot -/
theorem Placed.before {m : Nat} {hs : List Int} {ps : List Nat} (T : Placed m hs ps) {h : Int} {K i j : Nat} (out : way m h K ∉ ps) (e1 : hs[i]? = some h) (e2 : ps[i]? = some j) : ∃ k, k < K ∧ way m h k = j := by
  obtain ⟨K', rfl, b⟩ := T.reach i h j e1 e2
  refine ⟨K', Nat.lt_of_not_le fun z => ?_, rfl⟩
  rcases Nat.lt_or_eq_of_le z with c | c
  · exact out (b K c)
  · exact out (c ▸ List.mem_of_getElem? e2)

/-! ### laying all anew -/
/-- the array of who sits where, for hashes and their slots -/
structure Seats (m : Nat) (hs : List Int) (ps : List Nat) (ow : Array (Option Nat)) : Prop where
  size : ow.size = m + 1
  ok : Placed m hs ps
  who : ∀ j, j ≤ m → ∀ k, oAt ow j = some k ↔ ps[k]? = some j
theorem Seats.init (m : Nat) : Seats m [] [] (Array.replicate (m + 1) none) where
  size := Array.size_replicate
  ok := .nil m
  who := fun j hj k => by
    rw [oAt_init hj]
    constructor
    · intro z; cases z
    · intro z; simp at z
theorem Seats.free {m : Nat} {hs : List Int} {ps : List Nat} {ow : Array (Option Nat)} (S : Seats m hs ps ow) {j : Nat} (hj : j ≤ m) : (oAt ow j).isNone = true ↔ j ∉ ps := by
  constructor
  · intro z y
    obtain ⟨k, ek⟩ := List.mem_iff_getElem?.mp y
    rw [(S.who j hj k).2 ek] at z
    cases z
  · intro z
    cases c : oAt ow j with
    | none => rfl
    | some k => exact absurd (List.mem_of_getElem? ((S.who j hj k).1 c)) z
theorem Seats.step {m : Nat} {hs : List Int} {ps : List Nat} {ow : Array (Option Nat)} (S : Seats m hs ps ow) (F : Full m) (few : hs.length ≤ m) (h : Int) :
    ∃ j, SetTable.layClean.free m ow (SetTable.turns m) (SetTable.bits h % (m + 1)) (SetTable.bits h) = some j ∧ Seats m (hs ++ [h]) (ps ++ [j]) (ow.setIfInBounds j (some hs.length)) := by
  obtain ⟨K, _, hK, out, b⟩ := S.ok.free F few h
  have hjm : way m h K ≤ m := slot_in
  refine ⟨way m h K, free_spec m ow (SetTable.turns m) (m + 12) _ _ K (by unfold SetTable.turns; omega) hK (fun k hk => ?_) ((S.free hjm).2 out), ?_⟩
  · have q := b k hk
    cases z : (oAt ow (nth m (runAt m (SetTable.bits h % (m + 1)) (SetTable.bits h)) k).j).isNone with
    | false => rfl
    | true => exact absurd q ((S.free slot_in).1 z)
  have l := S.ok.len
  refine ⟨by rw [Array.size_setIfInBounds]; exact S.size, ?_, fun j hj k => ?_⟩
  · have q := S.ok.ins (p := hs.length) (h := h) (K := K) (Nat.le_refl _) b
    rw [List.take_length, List.drop_length, ← l, List.take_length, List.drop_length] at q
    exact q
  · by_cases c : j = way m h K
    · rw [c, oAt_set_self _ (by rw [S.size]; omega)]
      constructor
      · intro z
        cases z
        rw [← l, List.getElem?_append_right (Nat.le_refl _), Nat.sub_self]
        rfl
      · intro z
        by_cases d : k < ps.length
        · rw [List.getElem?_append_left d] at z
          exact absurd (List.mem_of_getElem? z) out
        · by_cases d' : k = ps.length
          · rw [d', l]
          · rw [List.getElem?_eq_none (by rw [List.length_append, List.length_singleton]; omega)] at z
            cases z
    · rw [oAt_set_ne _ c, S.who j hj k]
      by_cases d : k < ps.length
      · rw [List.getElem?_append_left d]
      · constructor
        · intro z
          exact absurd (List.getElem?_eq_some_iff.mp z).1 d
        · intro z
          by_cases d' : k = ps.length
          · rw [d', List.getElem?_append_right (Nat.le_refl _), Nat.sub_self] at z
            exact absurd (Option.some.inj z).symm c
          · rw [List.getElem?_eq_none (by rw [List.length_append, List.length_singleton]; omega)] at z
            cases z
theorem Seats.all {m : Nat} (F : Full m) : ∀ (more hs : List Int) (ps : List Nat) (ow : Array (Option Nat)), Seats m hs ps ow → hs.length + more.length ≤ m →
    ∃ ps' ow', more.foldl (stepF m) (some (ow, hs.length)) = some (ow', (hs ++ more).length) ∧ Seats m (hs ++ more) ps' ow'
  | [], hs, ps, ow, S, _ => ⟨ps, ow, by rw [List.append_nil]; rfl, by rw [List.append_nil]; exact S⟩
  | h :: more, hs, ps, ow, S, few => by
    rw [List.length_cons] at few
    obtain ⟨j, e, S'⟩ := S.step F (by omega) h
    have l : (hs ++ [h]).length = hs.length + 1 := by rw [List.length_append]; rfl
    obtain ⟨ps', ow', e', S''⟩ := Seats.all F more (hs ++ [h]) _ _ S' (by rw [l]; omega)
    rw [l, List.append_assoc] at e'
    rw [List.append_assoc] at S''
    exact ⟨ps', ow', by rw [List.foldl_cons, stepF_some e]; exact e', S''⟩
/-- all hashes laid anew: in which order, and where -/
theorem relaid_placed (t : SetTable) {hs : Array Int} {wanted m : Nat} (hw : SetTable.sizeAbove wanted = m + 1) (F : Full m) (few : hs.size ≤ m) :
    ∃ t' order, t.relaid hs wanted = some (t', order) ∧ order.toList.Perm (List.range hs.size) ∧ Ris t'.place.toList ∧ Placed m (order.toList.map fun i => hs.getD i 0) t'.place.toList ∧ t'.mask = m ∧ t'.led = t.led ∧ t'.plain = t.plain ∧ t'.dummies = #[] := by
  obtain ⟨ps, ow, e, S⟩ := Seats.all F hs.toList [] [] _ (Seats.init m) (by rw [Array.length_toList]; show 0 + hs.size ≤ m; omega)
  rw [List.nil_append] at S e
  have hr : t.relaid hs wanted = some (tabOf t m ow, ((liveOf m ow).map (·.2)).toArray) := by
    rw [relaid_eq, hw, Nat.add_sub_cancel, layClean_eq]
    have e' : hs.toList.foldl (stepF m) (some (Array.replicate (m + 1) none, 0)) = some (ow, hs.toList.length) := e
    rw [e']
    rfl
  have ris := ris_live (fun j => ow.getD j none) (List.range (m + 1)) (List.pairwise_lt_range)
  have r1 : Ris ((liveOf m ow).map (·.1)) := ris.1
  have mem : ∀ j k, (j, k) ∈ liveOf m ow ↔ ps[k]? = some j := fun j k => by
    rw [mem_live S.size]
    constructor
    · rintro ⟨a, b⟩
      exact (S.who j a k).1 b
    · intro b
      have a : j ≤ m := S.ok.bd j (List.mem_of_getElem? b)
      exact ⟨a, (S.who j a k).2 b⟩
  refine ⟨_, _, hr, ?_, r1, ⟨?_, fun j hj => ?_, fun i h j e1 e2 => ?_⟩, rfl, rfl, rfl, rfl⟩
  · -- the order
    show ((liveOf m ow).map (·.2)).Perm (List.range hs.size)
    refine (List.perm_ext_iff_of_nodup ?_ List.nodup_range).mpr fun k => ?_
    · refine List.pairwise_map.mpr (List.Pairwise.imp_of_mem (fun {a b} ha hb ne z => ?_) (List.pairwise_map.mp r1))
      have h1 := (mem a.1 a.2).1 ha
      have h2 := (mem b.1 b.2).1 hb
      have z' : a.2 = b.2 := z
      rw [z', h2] at h1
      have : b.1 = a.1 := Option.some.inj h1
      have ne' : a.1 < b.1 := ne
      omega
    · rw [List.mem_range, List.mem_map]
      have l : ps.length = hs.size := S.ok.len
      constructor
      · rintro ⟨⟨j, k'⟩, hm, rfl⟩
        have q := (List.getElem?_eq_some_iff.mp ((mem j k').1 hm)).1
        show k' < hs.size
        omega
      · intro z
        exact ⟨(ps[k]'(by omega), k), (mem _ k).2 (List.getElem?_eq_getElem _), rfl⟩
  · show ((liveOf m ow).map (·.1)).length = (((liveOf m ow).map (·.2)).map fun i => hs.getD i 0).length
    rw [List.length_map, List.length_map, List.length_map]
  · have hj' : j ∈ (liveOf m ow).map (·.1) := hj
    obtain ⟨⟨j', k⟩, hm, rfl⟩ := List.mem_map.mp hj'
    exact S.ok.bd j' (List.mem_of_getElem? ((mem j' k).1 hm))
  · have e1' : (((liveOf m ow).map (·.2)).map fun i => hs.getD i 0)[i]? = some h := e1
    have e2' : ((liveOf m ow).map (·.1))[i]? = some j := e2
    rw [List.getElem?_map] at e2'
    obtain ⟨⟨j', k⟩, hq, rfl⟩ := Option.map_eq_some_iff.mp e2'
    rw [List.getElem?_map, List.getElem?_map, hq] at e1'
    have eh : hs.getD k 0 = h := Option.some.inj e1'
    have hk := (mem j' k).1 (List.mem_of_getElem? hq)
    have hl : k < hs.toList.length := by
      have := (List.getElem?_eq_some_iff.mp hk).1
      rw [← S.ok.len]
      exact this
    have eh' : hs.toList[k]? = some h := by
      rw [List.getElem?_eq_getElem hl, ← eh]
      congr 1
      have hl' : k < hs.size := hl
      simp [Array.getD, hl']
    obtain ⟨K, w1, w2⟩ := S.ok.reach k h j' eh' hk
    refine ⟨K, w1, fun k' hk' => ?_⟩
    obtain ⟨k2, hk2⟩ := List.mem_iff_getElem?.mp (w2 k' hk')
    exact List.mem_map.mpr ⟨(_, k2), (mem _ k2).2 hk2, rfl⟩
end TT

set_option Elab.async false
set_option linter.all false
set_option maxRecDepth 100000
set_option maxHeartbeats 8000000
/-! sets of tuples of ints, up to 1228 of them -/
namespace TT
open PySem PySem.Spec PyProof.Rows L2
abbrev hashesOf (P : Program) (w : World) (L : List (Addr × List Int)) : List Int := L.map fun p => thash P w p.2
/-- the set at a holds the tuples of L, in the order of its table -/
structure TSet (P : Program) (w : World) (h : Heap) (a : Addr) (L : List (Addr × List Int)) (es : Array (Int × Value)) (ep : Nat) (t : SetTable) : Prop where
  ob : ∃ o, h.get? a = some o ∧ o.ExactSet ∧ o.data = .set es ep t
  rows : es.toList = rowsOf P w L
  ris : Ris t.place.toList
  dm : t.dummies = #[]
  pl : Placed t.mask (hashesOf P w L) t.place.toList
  mask : Mask t.mask
  nd : (L.map (·.2)).Nodup
  tup : ∀ p ∈ L, IsT P w h p.2 p.1
  plain : t.plain = true
  led : w.params.followText "set-order" = true ∨ t.led = true
  room : L.length * 5 < t.mask * 3
section
variable {P : Program} {w : World} {A : Around} {E : Value → Shared → Prop} {s : Shared} {a : Addr} {L : List (Addr × List Int)} {es : Array (Int × Value)} {ep : Nat} {t : SetTable}
theorem TSet.few {h : Heap} (R : TSet P w h a L es ep t) : L.length ≤ 1228 := by
  have h1 := R.room
  have h2 := R.mask.le
  omega
theorem TSet.many {h : Heap} (R : TSet P w h a L es ep t) : es.size = L.length := by
  rw [← Array.length_toList, R.rows]
  exact List.length_map ..
theorem TSet.seats {h : Heap} (R : TSet P w h a L es ep t) : t.place.size = L.length := by
  rw [← Array.length_toList, R.pl.len]
  exact List.length_map ..
theorem TSet.fits {h : Heap} (R : TSet P w h a L es ep t) : t.fits es.size = true := by
  have h1 := R.many
  have h2 := R.seats
  have h3 := R.room
  unfold SetTable.fits SetTable.fill
  rw [R.dm, Bool.and_eq_true, beq_iff_eq, decide_eq_true_eq]
  exact ⟨h2.trans h1.symm, by show t.place.size + 0 ≤ t.mask; omega⟩
theorem TSet.steady {h : Heap} (R : TSet P w h a L es ep t) : ¬ t.gaveWay = true := by
  unfold SetTable.gaveWay
  rw [R.mask.odd]
  decide
theorem TSet.entry {h : Heap} (R : TSet P w h a L es ep t) {i : Nat} {p : Addr × List Int} (e : L[i]? = some p) : es[i]? = some (thash P w p.2, Value.ref p.1) := by
  have q := R.rows
  rw [← Array.getElem?_toList, q]
  show (L.map fun p => (thash P w p.2, Value.ref p.1))[i]? = _
  rw [List.getElem?_map, e]
  rfl
theorem TSet.tuples {h : Heap} (R : TSet P w h a L es ep t) {ys : List (Int × Value)} (hy : ∀ e ∈ ys, e ∈ es.toList) : ∀ y ∈ ys.map (·.2), ∃ k' c, y = Value.ref c ∧ IsT P w h k' c := fun y m => by
  obtain ⟨e, he, rfl⟩ := List.mem_map.mp m
  have he' := hy e he
  rw [R.rows] at he'
  obtain ⟨p, hp, rfl⟩ := List.mem_map.mp he'
  exact ⟨p.2, p.1, rfl, R.tup p hp⟩
/-- the search for a tuple, from any step of its way on -/
theorem seek (R : TSet P w s.heap a L es ep t) {x : Addr} {k : List Int} (hx : IsT P w s.heap k x) (hu : A.units < cLine) {g : SetTable.Probe} (hg : g = runAt t.mask (SetTable.bits (thash P w k) % (t.mask + 1)) (SetTable.bits (thash P w k)))
    {K : Nat} (bound : K < 10 * SetTable.turns t.mask) (out : (nth t.mask g K).j ∉ t.place.toList) (taken : ∀ c, c < K → (nth t.mask g c).j ∈ t.place.toList) {Q : SetFound → Shared → Prop}
    (found : k ∈ L.map (·.2) → Q (.there none) s) (absent : k ∉ L.map (·.2) → Q (.free (nth t.mask g K).j false) s) :
    ∀ (f c : Nat) (stand : Option SetTable.Probe), stand.getD (t.probeStart (thash P w k)) = nth t.mask g c → c ≤ K → K - c < f →
      (∀ (i : Nat) p, L[i]? = some p → p.2 = k → ∃ c', c ≤ c' ∧ c' < K ∧ t.place.toList[i]? = some (nth t.mask g c').j) →
      wpAny (model P w) A (setSearchFrom a (.ref x) (thash P w k) true f stand) Q E s := by
  obtain ⟨ob, at0, exact0, dat⟩ := R.ob
  have clean : ∀ n, (nth t.mask g n).dummy = none := by
    have step : ∀ (n : Nat) (p : SetTable.Probe), p.dummy = none → (nth t.mask p n).dummy = none := fun n => by
      induction n with
      | zero => exact fun p h => h
      | succ n ih =>
        intro p h
        refine ih _ ?_
        unfold adv
        split
        · exact h
        · exact h
    exact fun n => step n g (by rw [hg]; rfl)
  have onward : ∀ c q, nth t.mask (nth t.mask g c) q = nth t.mask g (c + q) := fun c q => (nth_add t.mask c g q).symm
  have hashOf : ∀ (i : Nat) p, L[i]? = some p → (es[i]?.map (·.1)).getD 0 = thash P w p.2 := fun i p e => by rw [R.entry e]; rfl
  intro f
  induction f with
  | zero => exact fun c stand _ _ z _ => absurd z (Nat.not_lt_zero _)
  | succ f ih =>
    intro c stand hst hc hf there
    rw [setSearchFrom_succ]
    refine wpAny_bind (wpAny_setState_of at0 dat R.fits ?_)
    dsimp only
    refine wp_if_neg R.steady ?_
    first | refine wpAny_bind (wpAny_pure ?_) | skip
    have ans := go_spec t R.ris R.dm (fun i => (es[i]?.map (·.1)).getD 0) (thash P w k) (10 * SetTable.turns t.mask) (K - c) (nth t.mask g c) (clean c) (by omega)
      (fun q hq => by rw [onward]; exact taken _ (by omega)) (by rw [onward, Nat.add_sub_cancel' hc]; exact out)
    simp only [onward] at ans
    rw [hst]
    have known : ∀ (c' i : Nat) p, L[i]? = some p → p.2 = k → t.place.toList[i]? = some (nth t.mask g (c + c')).j → (es[i]?.map (·.1)).getD 0 = thash P w k := fun c' i p e ek _ => by rw [hashOf i p e, ek]
    rcases ans with ⟨q, i, hq, at1, same, none1, met⟩ | ⟨none1, met⟩
    · rw [show t.probe (fun i => (es[i]?.map (·.1)).getD 0) (thash P w k) (nth t.mask g c) = _ from met]
      dsimp only
      have il : i < L.length := by
        have z := (List.getElem?_eq_some_iff.mp at1).1
        rw [Array.length_toList, R.seats] at z
        exact z
      obtain ⟨p, ep1⟩ : ∃ p, L[i]? = some p := ⟨L[i], List.getElem?_eq_getElem il⟩
      have pin : p ∈ L := List.mem_of_getElem? ep1
      have live := slot_live R.ris at1
      have tail : wpAny (model P w) A (searchRest a (.ref x) (thash P w k) true f es t (nth t.mask g (c + q)).j i (nth t.mask g (c + (q + 1)))) Q E s := by
        unfold searchRest
        rw [R.entry ep1]
        dsimp only
        refine wpAny_bind (wpAny_holding (wpAny_eqBool_tuple hu (R.tup p pin) hx ?_))
        refine wpAny_bind (wpAny_setState_of at0 dat R.fits ?_)
        dsimp only
        by_cases eq : p.2 = k
        · refine wp_if_pos (by simp [eq]) (wpAny_pure (found ?_))
          exact List.mem_map.mpr ⟨p, pin, eq⟩
        · refine wp_if_neg (by simp [eq]) ?_
          first | refine wpAny_bind (wpAny_pure ?_) | skip
          rw [sameMem]
          dsimp only
          simp only [if_true, live, R.entry ep1]
          refine wpAny_bind (wpAny_isSame_ref_self (wpAny_bind (wpAny_pure ?_)))
          simp only [if_true]
          refine wp_if_neg (by simp [eq]) ?_
          refine ih (c + (q + 1)) _ rfl (by omega) (by omega) fun i' p' e' ek' => ?_
          obtain ⟨c', a1, a2, a3⟩ := there i' p' e' ek'
          refine ⟨c', Nat.le_of_not_lt fun z => ?_, a2, a3⟩
          obtain ⟨d, rfl⟩ : ∃ d, c' = c + d := ⟨c' - c, by omega⟩
          rcases Nat.lt_or_eq_of_le (show d ≤ q by omega) with y | y
          · exact none1 d i' y a3 (known d i' p' e' ek' a3)
          · rw [y] at a3
            have s0 := slot_live R.ris a3
            rw [live] at s0
            injection s0 with s0
            rw [← s0, ep1] at e'
            cases e'
            exact eq ek'
      by_cases led : t.led = true
      · refine wp_if_neg (by simp [led]) ?_
        first | refine wpAny_bind (wpAny_pure ?_) | skip
        exact tail
      · refine wp_if_pos (by simp [led]) ?_
        refine wpAny_bind (seen_tup hx (R.tuples fun e he => ?_) ?_)
        · have he1 : e ∈ es ∧ e.1 = thash P w k := by simpa using he
          simpa using he1.1
        · refine wp_if_neg (by decide) ?_
          first | refine wpAny_bind (wpAny_pure ?_) | skip
          exact tail
    · rw [show t.probe (fun i => (es[i]?.map (·.1)).getD 0) (thash P w k) (nth t.mask g c) = _ from met]
      dsimp only
      rw [Nat.add_sub_cancel' hc]
      refine wpAny_pure (absent fun m => ?_)
      obtain ⟨p, pin, ek⟩ := List.mem_map.mp m
      obtain ⟨i, e⟩ := List.mem_iff_getElem?.mp pin
      obtain ⟨c', a1, a2, a3⟩ := there i p e ek
      obtain ⟨d, rfl⟩ : ∃ d, c' = c + d := ⟨c' - c, by omega⟩
      exact none1 d i (by omega) a3 (known d i p e ek a3)
/-- the search as adding asks for it -/
theorem seek_all (R : TSet P w s.heap a L es ep t) {x : Addr} {k : List Int} (hx : IsT P w s.heap k x) (hu : A.units < cLine) {Q : SetFound → Shared → Prop} (found : k ∈ L.map (·.2) → Q (.there none) s)
    (absent : ∀ K, k ∉ L.map (·.2) → way t.mask (thash P w k) K ∉ t.place.toList → (∀ c, c < K → way t.mask (thash P w k) c ∈ t.place.toList) → Q (.free (way t.mask (thash P w k) K) false) s) :
    wpAny (model P w) A (setSearch a (.ref x) (thash P w k) true) Q E s := by
  have ro := R.room
  have le := R.mask.le
  obtain ⟨K, k1, _, k2, k3⟩ := R.pl.free R.mask.full (by rw [List.length_map]; omega) (thash P w k)
  have tu : SetTable.turns t.mask = t.mask + 15 := rfl
  unfold setSearch
  refine seek R hx hu rfl k1 k2 k3 found (fun z => absent K z k2 k3) 100000 0 none rfl (Nat.zero_le _) (by omega) fun i p e ek => ?_
  have il : i < t.place.toList.length := by
    rw [Array.length_toList, R.seats]
    exact (List.getElem?_eq_some_iff.mp e).1
  have ej := List.getElem?_eq_getElem il
  obtain ⟨c, hc, ec⟩ := R.pl.before k2 (h := thash P w k) (i := i) (by rw [List.getElem?_map, e, ← ek]; rfl) ej
  exact ⟨c, Nat.zero_le _, hc, by rw [ej, ← ec]⟩
end
end TT

set_option Elab.async false
set_option linter.all false
set_option maxRecDepth 100000
set_option maxHeartbeats 8000000
/-! adding a tuple to a set -/
namespace TT
open PySem PySem.Spec PyProof.Rows L2
section
variable {P : Program} {w : World} {A : Around} {E : Value → Shared → Prop} {s : Shared} {a : Addr} {L : List (Addr × List Int)} {es : Array (Int × Value)} {ep : Nat} {t : SetTable}
/-- what a set has while it is too full -/
structure Bulky (P : Program) (w : World) (h : Heap) (a : Addr) (L : List (Addr × List Int)) (es : Array (Int × Value)) (ep : Nat) (t : SetTable) : Prop where
  ob : ∃ o, h.get? a = some o ∧ o.ExactSet ∧ o.data = .set es ep t
  rows : es.toList = rowsOf P w L
  dm : t.dummies = #[]
  seats : t.place.size = L.length
  fit : L.length ≤ t.mask
  nd : (L.map (·.2)).Nodup
  tup : ∀ p ∈ L, IsT P w h p.2 p.1
  plain : t.plain = true
  led : w.params.followText "set-order" = true ∨ t.led = true
theorem relay (B : Bulky P w s.heap a L es ep t) {wanted m : Nat} (hw : SetTable.sizeAbove wanted = m + 1) (M : Mask m) (room : L.length * 5 < m * 3) {Q : Unit → Shared → Prop}
    (hQ : ∀ h' L' es' ep' t', Heap.SameBut a s.heap h' → TSet P w h' a L' es' ep' t' → L'.Perm L → Q () { s with heap := h' }) : wpAny (model P w) A (setRelay a wanted) Q E s := by
  obtain ⟨ob, at0, exact0, dat⟩ := B.ob
  have many : es.size = L.length := by
    rw [← Array.length_toList, B.rows]
    exact List.length_map ..
  have fits : t.fits es.size = true := by
    have h1 := B.seats
    have h2 := B.fit
    unfold SetTable.fits SetTable.fill
    rw [B.dm, Bool.and_eq_true, beq_iff_eq, decide_eq_true_eq]
    exact ⟨h1.trans many.symm, by show t.place.size + 0 ≤ t.mask; omega⟩
  have le := M.le
  obtain ⟨t', order, e, perm, ris, pl, em, el, epl, ed⟩ := relaid_placed t (hs := es.map (·.1)) hw M.full (by rw [Array.size_map, many]; omega)
  rw [Array.size_map, many] at perm
  obtain ⟨L', r1, r2, r3⟩ := order_rows L es order B.rows perm
  rw [← r3] at pl
  have size' : (order.filterMap (es[·]?)).size = L.length := by
    rw [← Array.length_toList, r1]
    exact (List.length_map ..).trans r2.length_eq
  rw [setRelay_eq]
  refine wpAny_bind (wpAny_setState_of at0 dat fits ?_)
  dsimp only
  refine wp_if_neg (by rw [sizeLine_eq, hw]; omega) ?_
  first | refine wpAny_bind (wpAny_pure ?_) | skip
  rw [e]
  dsimp only
  refine wpAny_bind (wp_if_neg (by rw [size', many]; simp) ?_)
  first | refine wpAny_bind (wpAny_pure ?_) | skip
  refine wpAny_pure ?_
  dsimp only
  refine wpAny_storeSet_of at0 dat ?_ (by rw [size', sizeLine_eq]; omega)
  have only : Heap.SameBut a s.heap (s.heap.update a (Obj.putSet (order.filterMap (es[·]?)) t')) := Heap.SameBut.update ..
  refine hQ _ L' _ (ep + 1) t' only ⟨⟨_, store_at at0 dat, exact0, rfl⟩, r1, ris, ed, by rw [em]; exact pl, by rw [em]; exact M, (r2.map (·.2)).nodup_iff.mpr B.nd, fun p hp => isT_same (B.tup p (r2.mem_iff.mp hp)) at0 dat only, by rw [epl]; exact B.plain, by rw [el]; exact B.led, by rw [em, r2.length_eq]; exact room⟩ r2
/-- a.add(x) -/
theorem add_tup (R : TSet P w s.heap a L es ep t) {x : Addr} {k : List Int} (hx : IsT P w s.heap k x) (hu : A.units < cLine) (few : L.length + 1 ≤ 1228) {Q : Bool → Shared → Prop}
    (hQ : ∀ b h' L' es' ep' t', Heap.SameBut a s.heap h' → TSet P w h' a L' es' ep' t' → (k ∈ L.map (·.2) → L' = L) → (k ∉ L.map (·.2) → L'.Perm ((x, k) :: L)) → Q b { s with heap := h' }) :
    wpAny (model P w) A (setAddHashed a (.ref x) (thash P w k)) Q E s := by
  obtain ⟨ob, at0, exact0, dat⟩ := R.ob
  have many := R.many
  have room := R.room
  unfold setAddHashed
  refine wpAny_holding ?_
  rw [show (100000 : Nat) = 99999 + 1 from rfl, setAddHashedIn_succ]
  refine wpAny_bind (wpAny_setState_of at0 dat R.fits ?_)
  dsimp only
  refine wp_if_neg (by simp [byScan, Value.scannable]) ?_
  first | refine wpAny_bind (wpAny_pure ?_) | skip
  refine wpAny_bind (seek_all R hx hu (fun z => ?_) fun K new out taken => ?_)
  · exact wpAny_pure (hQ false s.heap L es ep t (Heap.SameBut.refl a s.heap) R (fun _ => rfl) fun y => absurd z y)
  · dsimp only
    refine wpAny_bind (wpAny_setState_of at0 dat R.fits ?_)
    dsimp only
    -- the table with the slot put in
    obtain ⟨j, ej⟩ : ∃ j, j = way t.mask (thash P w k) K := ⟨_, rfl⟩
    obtain ⟨q, eq⟩ : ∃ q, q = SetTable.below t.place j := ⟨_, rfl⟩
    have cut := (below_cut R.ris j).1
    rw [← eq] at cut
    have hq : q ≤ (hashesOf P w L).length := by
      have := R.seats
      rw [List.length_map]
      omega
    have place1 : (t.put j).1.place.toList = t.place.toList.take q ++ j :: t.place.toList.drop q := by rw [eq]; exact put_place t j
    have pl1 : Placed t.mask (hashesOf P w (L.take q ++ (x, k) :: L.drop q)) (t.put j).1.place.toList := by
      rw [place1, ej]
      have z := R.pl.ins (h := thash P w k) (K := K) hq taken
      unfold hashesOf at z ⊢
      rw [List.map_append, List.map_cons, List.map_take, List.map_drop]
      exact z
    have ris1 : Ris (t.put j).1.place.toList := by
      refine ris_insert R.ris fun z => ?_
      rw [ej] at z
      exact out (List.mem_of_getElem? (by rw [Array.getElem?_toList]; exact z))
    have dm1 := put_dm R.dm j
    have perm1 := put_perm L q (x, k)
    have len1 : (L.take q ++ (x, k) :: L.drop q).length = L.length + 1 := perm1.length_eq
    have rows1 : (SetTable.insertAt es q (thash P w k, Value.ref x)).toList = rowsOf P w (L.take q ++ (x, k) :: L.drop q) := by
      rw [SetTable.toList_insertAt, rows_put, R.rows]
    have nd1 : ((L.take q ++ (x, k) :: L.drop q).map (·.2)).Nodup := (perm1.map (·.2)).nodup_iff.mpr (List.nodup_cons.mpr ⟨new, R.nd⟩)
    have two : (t.put j).2 = q := eq.symm
    have fixed : (t.put j).1.mask = t.mask ∧ (t.put j).1.led = t.led ∧ (t.put j).1.plain = t.plain := ⟨rfl, rfl, rfl⟩
    rw [← ej]
    generalize t.put j = tp at place1 pl1 ris1 dm1 two fixed ⊢
    obtain ⟨t1, q'⟩ := tp
    dsimp only at place1 pl1 ris1 dm1 two fixed ⊢
    subst two
    obtain ⟨f1, f2, f3⟩ := fixed
    have plain1 : t1.plain = true := f3.trans R.plain
    first
      | (refine wpAny_bind ?_; refine wp_if_pos plain1 ?_; refine hashBy_tup hx ?_)
      | refine wp_if_pos plain1 (wpAny_bind (hashBy_tup hx ?_))
    simp only [if_true]
    generalize L.take q' ++ (x, k) :: L.drop q' = L1 at pl1 perm1 len1 rows1 nd1
    have many1 : (SetTable.insertAt es q' (thash P w k, Value.ref x)).size = L.length + 1 := by
      rw [← Array.length_toList, rows1, ← len1]
      exact List.length_map ..
    generalize SetTable.insertAt es q' (thash P w k, Value.ref x) = es1 at rows1 many1 ⊢
    refine wpAny_bind (wpAny_storeSet_of at0 dat ?_ (by rw [many1, sizeLine_eq]; omega))
    have only : Heap.SameBut a s.heap (s.heap.update a (Obj.putSet es1 t1)) := Heap.SameBut.update ..
    have at1 := store_at (es' := es1) (t' := t1) at0 dat
    generalize s.heap.update a (Obj.putSet es1 t1) = h1 at only at1 ⊢
    have tup1 : ∀ p ∈ L1, IsT P w h1 p.2 p.1 := fun p hp => by
      rcases List.mem_cons.mp (perm1.mem_iff.mp hp) with rfl | hp
      · exact isT_same hx at0 dat only
      · exact isT_same (R.tup p hp) at0 dat only
    have led1 : w.params.followText "set-order" = true ∨ t1.led = true := by rw [f2]; exact R.led
    have seats1 : t1.place.size = L1.length := by
      rw [← Array.length_toList, pl1.len]
      exact List.length_map ..
    have fill1 : t1.fill = L.length + 1 := by
      show t1.place.size + t1.dummies.size = _
      rw [dm1, seats1, len1]
      rfl
    have mask1 : Mask t1.mask := by rw [f1]; exact R.mask
    rw [← f1] at pl1
    by_cases full : t1.tooFull = true
    · have big : (L.length + 1) * 5 ≥ t1.mask * 3 := by
        have z := full
        unfold SetTable.tooFull at z
        rwa [decide_eq_true_eq, fill1] at z
      obtain ⟨m', M', w1, w2⟩ := mask1.next (n := L.length) (by rw [f1]; exact room) big few
      have B : Bulky P w h1 a L1 es1 (ep + 1) t1 := ⟨⟨_, at1, exact0, rfl⟩, rows1, dm1, seats1, by rw [len1, f1]; omega, nd1, tup1, plain1, led1⟩
      rw [many]
      have go : wpAny (model P w) A (setRelay a (SetTable.grown (L.length + 1))) (fun _ s' => wpAny (model P w) A (pure true) Q E s') E { s with heap := h1 } :=
        relay (s := { s with heap := h1 }) B w1 M' (by rw [len1]; exact w2) fun h2 L2 es2 ep2 t2 only2 R2 perm2 =>
          wpAny_pure (hQ true h2 L2 es2 ep2 t2 (only.trans only2) R2 (fun z => absurd z new) fun _ => perm2.trans perm1)
      first
        | (refine wpAny_bind ?_; refine wp_if_pos (by simp [full]) ?_; exact go)
        | (refine wp_if_pos (by simp [full]) ?_; refine wpAny_bind ?_; exact go)
    · first
        | refine wp_if_neg (by simp [full]) ?_
        | (refine wpAny_bind ?_; refine wp_if_neg (by simp [full]) ?_; refine wpAny_pure ?_)
      refine wpAny_pure (hQ true h1 L1 es1 (ep + 1) t1 only ⟨⟨_, at1, exact0, rfl⟩, rows1, ris1, dm1, pl1, mask1, nd1, tup1, plain1, led1, ?_⟩ (fun z => absurd z new) fun _ => perm1)
      have z := full
      unfold SetTable.tooFull at z
      rw [decide_eq_true_eq, fill1] at z
      rw [len1]
      omega
end
end TT

set_option Elab.async false
set_option linter.all false
set_option maxRecDepth 100000
set_option maxHeartbeats 4000000
/-! an instance called, by its own __call__; x != y by an own __eq__ -/
namespace PySem.W
open PySem PySem.Spec PySem.Calls PyProof.Rows
theorem rt_callInst {M : Model} {A : Around} {E : Value → Shared → Prop} {s : Shared} {pos : Pos} {x C : Addr} {Q : Value → Shared → Prop} {args : List (Bool × Sem Value)} (plain : (args.any (·.1) || ([] : List (Option Str × Sem Value)).any (·.1.isNone)) = false)
    (h : wpAny M A (evalArgs (.ref x) true args []) (fun a s1 => (∃ ox od, InstAt s1.heap x ox C od ∧ ox.data = .plain) ∧ wpAny M A (call (.ref x) ([] ++ a.pos) a.kw) Q E s1) E s) : wpAny M A (callWith pos (.ref x) [] args []) Q E s := by
  unfold callWith
  refine wpAny_bind (wpAny_holding (wpAny_mono h (fun a s1 h1 => wpAny_bind (wpAny_standAt ?_)) fun _ _ y => y))
  obtain ⟨⟨ox, od, I, hd⟩, go⟩ := h1
  have L := kco_keeper (M := M) I hd
  simp only [plain]
  refine wpAny_bind (L.here (wpAny_bind (wpAny_mono (wpAny_operateT go) (fun r s2 hr => wpAny_bind (wpAny_holding (wpAny_point (wpAny_pure hr)))) fun _ _ y => y)))
/-- x != b where the class has its own __eq__ and object's __ne__: what __eq__ says, turned -/
theorem rt_ne {prog : Program} {w : World} {A : Around} {E : Value → Shared → Prop} {s : Shared} {K : Frag} {x C f : Addr} {ox : Obj} {od : Option Obj} {b tb : Value} {Q : Value → Shared → Prop} (hu : A.units + 1 < cLine) (X : K.In s.heap) (I : InstAt s.heap x ox C od)
    (hb : Looks (model prog w) s.heap (typeOf b) tb) (hn : notFirst K C tb = true) (ne : findIn K (.ref C) "__ne__" = some (some (.builtin "object.__ne__"))) (hm : mroIn K C (.type "object") = some true)
    (eq : findIn K (.ref C) "__eq__" = some (some (.ref f))) (fn : isFn K (.ref f) = true) (h : wpAny (model prog w) A.in1 (call (.ref f) [.ref x, b]) (fun r s' => ∃ k, r = .bool k ∧ Q (.bool (!k)) s') E s) :
    wpAny (model prog w) A (richCompare .NotEq (.ref x) b) Q E s := by
  have inst : Looks (model prog w) s.heap (isInstance (.ref x) (.type "object")) true := I.type.andThen (looks_mroIn X hm)
  have body : wpAny (model prog w) A (call (.builtin "object.__ne__") [.ref x, b]) (fun r s' => ∃ k, r = .bool k ∧ Q (.bool k) s') E s := by
    refine wpAny_call (codeAny_call_builtin F.cmp_object.ne.plain F.cmpEntry_ne (check_slot (owner := "object") (n := "__ne__") F.cmpKind_ne F.cmpSplit_ne inst (F.cmpArgs_ne _ _) ?_))
    unfold Builtin.«object.__ne__»
    refine wpAny_bind (wpAny_of_eq (a := ((Value.ref x : Value), [b])) (by first | rfl | (simp only [slotArgs]; rfl)) ?_)
    refine wpAny_bind (wpAny_cRoomFor hu ?_)
    refine wpAny_bind (ifBound_K X I eq fn (wpAny_mono h (fun r s' z => ?_) fun _ _ z => z))
    obtain ⟨k, rfl, q⟩ := z
    exact wpAny_bind (wpAny_truthy_bool (wpAny_pure ⟨!k, rfl, q⟩))
  have one : wpAny (model prog w) A (tryCompare (.ref x) "__ne__" b) (fun r s' => ∃ v, r = some v ∧ Q v s') E s := by
    unfold tryCompare
    refine wpAny_bind ?_
    simp only [callSpecialIfBound?, bindSpecialIfBound?]
    refine wpAny_holding (wpAny_bind (wpAny_bind (wpAny_bind (I.type.here ((looks_findIn X ne).here ?_)))))
    simp only [F.cmp_object.ne.bind]
    refine wpAny_bind (wpAny_askSetting (wpAny_ite ?_))
    have last : wpAny (model prog w) A (call (.builtin "object.__ne__") ([.ref x] ++ [b]) >>= fun v => pure (some v)) (fun r s' => wpAny (model prog w) A (match r with
        | some .notImplemented | none => pure none
        | some v => pure (some v)) (fun r s' => ∃ v, r = some v ∧ Q v s') E s') E s := by
      refine wpAny_bind (wpAny_mono body (fun r s' z => ?_) fun _ _ z => z)
      obtain ⟨k, rfl, q⟩ := z
      exact wpAny_pure (wpAny_pure ⟨_, rfl, q⟩)
    split
    · exact wpAny_bind (wpAny_pure (wpAny_pure last))
    · exact wpAny_tryCatch (wpAny_bind (wpAny_pure (wpAny_pure last)))
  unfold richCompare
  simp only [oneThing_ref]
  refine wpAny_holding (wpAny_bind (wpAny_cRoomFor (by omega) ?_))
  refine wpAny_bind (I.type.here (wpAny_bind (hb.here ?_)))
  have out : ∀ {g : Option Value → Sem Value}, (∀ v, g (some v) = pure v) → wpAny (model prog w) A (tryCompare (.ref x) "__ne__" b >>= g) Q E s := fun {g} hg => wpAny_bind (wpAny_mono one (fun r s' z => by
    obtain ⟨v, rfl, q⟩ := z
    rw [hg]
    exact wpAny_pure q) fun _ _ z => z)
  split
  · rename_i q
    have e : subIn K tb (.ref C) = some false := by
      rcases Bool.or_eq_true_iff.mp hn with e | e
      · rw [beq_iff_eq.mp e] at q
        simp at q
      · exact beq_iff_eq.mp e
    refine wpAny_bind ((looks_subIn X e).here ?_)
    simp only [Bool.false_eq_true, if_false]
    exact out fun v => rfl
  · refine wpAny_bind (wpAny_pure ?_)
    simp only [Bool.false_eq_true, if_false]
    exact out fun v => rfl
end PySem.W
namespace RT
open PySem PySem.Spec PyProof.Rows L2
section
variable {X : Cx} {CX : CXT} {k i : Nat} {C f : Addr} {fd : FuncData} {ps : List Str} {sp : Sp} {E : XK} {x : Str} {p pos : Pos} {e : Expr} {es : List Expr} {t : TA}
/-- x(e, ..), x a local name that holds an instance of the class at C -/
def tCallO (i : Nat) (C : Addr) (sp : Sp) (E : XK) (t : TA) : TE := fun σ H Q => ∃ a, σ[i]? = some (some (.ref a)) ∧ t σ H fun vs H1 => (∃ dx fs, H1 a = some (.ins C dx fs)) ∧ sp (.ref a :: vs) H1 Q E
theorem pe_callO (hm : Meth X.K C "__call__" f) (hfn : PySem.W.fnIn X.K f = true) (F : FnOk X.prog X.w X.K X.mg X.base CX k f fd ps sp) (hr : Room k X.A) (hN : X.N[i]? = some x) (hv : Vis X.env.scope x) (hb : Binds X.K fd ps []) (hx : Passes CX X E) (ha : PA X (e :: es) t)
    (hdb : (x == ("__debug__" : Str)) = false := by decide) (hcd : (x == ("__classdict__" : Str)) = false := by decide)
    (he : starEach (e :: es) X.env = (false, eval e X.env) :: starEach es X.env := by rfl) (hpl : (backTo pos (starEach es X.env)).any (·.1) = false := by rfl) : PE X (.Call (.Name x p) (e :: es) [] pos) (tCallO i C sp E t) := by
  refine ⟨fun pins s σ H Q I h => ?_⟩
  obtain ⟨a, at_, ht⟩ := h
  refine wpAny_Call_Name_kw (thn ((pe_var (pos := p) hN hv hdb hcd).run pins s σ H (fun v H1 => v = .ref a ∧ H1 = H) I ⟨.ref a, at_, rfl, rfl⟩) fun u s1 ⟨v, H1, I1, r1, q1⟩ => ?_)
  obtain ⟨rfl, rfl⟩ := q1
  cases (show u = Value.ref a from r1)
  rw [he]
  refine PySem.W.rt_callInst (C := C) (by show ((false || (backTo pos (starEach es X.env)).any (·.1)) || false) = false; rw [hpl]; rfl) (Calls.evalArgs_plain ?_)
  have ha' : wpAny (model X.prog X.w) X.A (spliced (backTo pos (starEach (e :: es) X.env))) (AP X pins σ _) X.xe s1 := ha.run pos pins s1 σ _ _ I1 ht
  rw [he] at ha'
  refine thn ha' fun us s2 ⟨vs, H2, I2, r, ⟨dx, fs, ea⟩, q⟩ => ?_
  obtain ⟨mA, O, _⟩ := ins_get I2.hok ea
  obtain ⟨od, J, _⟩ := O.look
  refine ⟨⟨_, some od, J, rfl⟩, ?_⟩
  have r2 : Vals (.ref a :: vs) (.ref a :: us) := .cons rfl r
  have hl : (Value.ref a :: us).length = ps.length := r2.length.symm.trans (F.len _ _ _ _ q)
  have bd := hb s2 (.ref a :: us) I2.kIn (by simpa using hl)
  rw [List.append_nil] at bd
  refine wpAny_call (PySem.W.kco_code I2.kIn J rfl hm.at_ hm.fn hfn (codeAny_mono (F.run X.A X.stack s2 H2 ⟨.ref a :: us, []⟩ (.ref a :: us) (.ref a :: vs) Q E hr I2.env0 bd r2 q) fun r s' hq => ?_))
  match r, hq with
  | .error e, hq => exact hx pins σ H2 s2 e s' I2 hq
  | .ok (.ret u), hq => exact I2.after hq
/-- x != y by x's own __eq__ -/
def rNeO (K : PySem.W.Frag) (C : Addr) (sp : Sp) (E : XK) : R2 := fun x y H Q => ∃ a dx fs t, x = .ref a ∧ H a = some (.ins C dx fs) ∧ ((∃ b dy gs, y = .ref b ∧ H b = some (.ins C dy gs) ∧ t = .ref C) ∨ TyY K H y t) ∧ PySem.W.notFirst K C t = true ∧
  sp [x, y] H (fun v H' => ∃ k, v = .bl k ∧ Q (.bl (!k)) H') E
theorem op_neO (hne : PySem.W.findIn X.K (.ref C) "__ne__" = some (some (.builtin "object.__ne__"))) (hmr : PySem.W.mroIn X.K C (.type "object") = some true) (hm : Meth X.K C "__eq__" f) (F : FnOk X.prog X.w X.K X.mg X.base CX k f fd ps sp) (hr : Room (k + 1) X.A) (hb : Binds X.K fd ps []) (hx : Passes CX X E) :
    OpR X (compareOp .NotEq) (rNeO X.K C sp E) := by
  intro pins s σ H x y v u Q I rx ry h
  obtain ⟨a, dx, fs, t, rfl, ea, ty, hn, q⟩ := h
  cases (show v = Value.ref a from rx)
  obtain ⟨mA, O, _⟩ := ins_get I.hok ea
  obtain ⟨od, J, _⟩ := O.look
  have L : PySem.W.Looks (model X.prog X.w) s.heap (typeOf u) t := by
    rcases ty with ⟨b, dy, gs, rfl, eb, rfl⟩ | ty
    · cases (show u = Value.ref b from ry)
      obtain ⟨mB, O', _⟩ := ins_get I.hok eb
      obtain ⟨od', J', _⟩ := O'.look
      exact J'.type
    · obtain ⟨P, Z, p, _⟩ := kit_ofY I ry ty
      exact Z.ty _ _ I.kIn p
  show wpAny _ _ (richCompare .NotEq (.ref a) u) _ _ _
  have r2 : Vals [V.ref a, y] [Value.ref a, u] := .cons rfl (.cons ry .nil)
  have hl : ([Value.ref a, u] : List Value).length = ps.length := r2.length.symm.trans (F.len _ _ _ _ q)
  have bd := hb s [.ref a, u] I.kIn (by simpa using hl)
  rw [List.append_nil] at bd
  refine PySem.W.rt_ne (tb := t) (by have := hr.units; omega) I.kIn J L hn hne hmr hm.at_ hm.fn (wpAny_call (codeAny_mono (F.run X.A.in1 X.stack s H ⟨[.ref a, u], []⟩ [.ref a, u] [.ref a, y] _ E hr.in1 I.env0.in1 bd r2 q) fun r s' hq => ?_))
  match r, hq with
  | .error e, hq => exact hx pins σ H s e s' I hq
  | .ok (.ret z), hq =>
    obtain ⟨v, H', I', rv, b, rfl, qz⟩ := I.after hq
    cases (show z = Value.bool b from rv)
    exact ⟨b, rfl, .bl (!b), H', I', rfl, qz⟩
end
end RT

set_option Elab.async false
set_option linter.all false
set_option maxRecDepth 100000
set_option maxHeartbeats 4000000
/-! slices of lists with a step -/
namespace RT
open PySem PySem.Spec PyProof.Rows L2
def pickV (xs : List V) (lo hi st : Option Int) : List V :=
  (sliceRange (sliceBounds lo hi st xs.length).1 (sliceBounds lo hi st xs.length).2.1 (sliceBounds lo hi st xs.length).2.2).filterMap fun i => xs[i]?
theorem pick_vals {xs : List V} {us : List Value} (r : Vals xs us) : ∀ l : List Nat, Vals (l.filterMap fun i => xs[i]?) (l.filterMap fun i => us[i]?)
  | [] => .nil
  | i :: l => by
    have ih := pick_vals r l
    cases e : xs[i]? with
    | none =>
      have e2 := r.none_of e
      rw [List.filterMap_cons_none (by exact e), List.filterMap_cons_none (by exact e2)]
      exact ih
    | some x =>
      obtain ⟨u, e2, ru⟩ := r.get e
      rw [List.filterMap_cons_some (by exact e), List.filterMap_cons_some (by exact e2)]
      exact .cons ru ih
def tPick (K : PySem.W.Frag) (to : TE) (tl th ts : TO) : TE := fun σ H Q => to σ H fun x H1 => ∃ (a : Addr) (xs : List V), x = .ref a ∧ tl σ H1 fun l H2 => th σ H2 fun u H3 => ts σ H3 fun o H4 => o ≠ some 0 ∧ SqL K H4 a xs ∧ ∀ p, H4 p = none → Q (.ref p) (upd H4 p (.lst (pickV xs l u o)))
section
variable {X : Cx} {e st : Expr} {lo hi : Option Expr} {to : TE} {tl th ts : TO} {p2 pos : Pos}
/-- xs[lo:hi:st] -/
theorem pe_step (ho : PE X e to) (hl : PO X lo tl) (hh : PO X hi th) (hs : PO X (some st) ts) : PE X (.Subscript e (.Slice lo hi (some st) p2) pos) (tPick X.K to tl th ts) := by
  refine ⟨fun pins s σ H Q I h => ?_⟩
  refine Subscript_ (thn (ho.run pins s σ H _ I h) fun v s1 ⟨x, H1, I1, r1, a, xs, ex, q1⟩ => ?_)
  subst ex
  obtain rfl : v = Value.ref a := r1
  refine wpAny_Slice (thn (hl.run pins s1 σ H1 _ I1 q1) fun vl s2 ⟨l, H2, I2, pl, q2⟩ => thn (hh.run pins s2 σ H2 _ I2 q2) fun vu s3 ⟨u, H3, I3, pu, q3⟩ => thn (hs.run pins s3 σ H3 _ I3 q3) fun vs s4 ⟨o, H4, I4, ps, h0, hx, q⟩ => ?_)
  have I5 : Inv X pins σ H4 { s4 with heap := s4.heap.push { cls := .type "slice", data := .fields #[vl, vu, vs] } } :=
    I4.kept (t' := s4.toks) fun _ _ w => Heap.get?_push_of_some _ w
  obtain ⟨its, r, ht, hz⟩ := I5.list hx
  have le : its.length ≤ sizeLine := by rw [← r.length]; exact hz
  refine tail_any (ops := [.ref a, .ref s4.heap.objs.size]) ht.isList.typeIs PySem.slot_list_getitem.lookup ?_ (by with_unfolding_all rfl)
  refine wpAny_getItem_list_slice ht.isList (Heap.IsSliceOf.new _ vl vu vs) pl pu ps h0 ?_ (by rw [List.size_toArray]; exact le)
  have e1 : slicePick its.toArray l u o = ((sliceRange (sliceBounds l u o xs.length).1 (sliceBounds l u o xs.length).2.1 (sliceBounds l u o xs.length).2.2).filterMap fun i => its[i]?).toArray := by
    unfold slicePick
    rw [List.size_toArray, r.length]
    have ef : (fun x => its.toArray[x]?) = fun i => its[i]? := funext fun i => List.getElem?_toArray
    rw [ef]
  have lz : (pickV xs l u o).length ≤ sizeLine := by
    have h1 := (pick_vals r (sliceRange (sliceBounds l u o xs.length).1 (sliceBounds l u o xs.length).2.1 (sliceBounds l u o xs.length).2.2)).length
    have h2 := slicePick_size_le its.toArray l u o
    rw [e1, List.size_toArray, List.size_toArray, ← h1] at h2
    exact Nat.le_trans h2 le
  refine ⟨.ref _, _, I5.laid (t' := s4.toks) (o := .lst (pickV xs l u o)) (fun _ _ w => Heap.get?_push_of_some _ w) (Nat.le_refl _) ?_, rfl, q _ (I5.hok.fresh (Nat.le_refl _))⟩
  rw [e1]
  exact ⟨lz, _, 0, pick_vals r _, Heap.get?_push_size _ rfl⟩
end
/-- each second one -/
def ev {α : Type} : List α → List α
  | [] => []
  | [x] => [x]
  | x :: _ :: r => x :: ev r
theorem pick_ev (xs : List V) : pickV xs none none (some 2) = ev xs := by
  have gen : ∀ (m : Nat) (ys zs : List V), ys.length ≤ m → (List.range ((ys.length + 1) / 2)).filterMap (fun i => (zs ++ ys)[zs.length + 2 * i]?) = ev ys := by
    intro m
    induction m with
    | zero =>
      intro ys zs h
      have : ys = [] := List.length_eq_zero_iff.mp (by omega)
      subst this
      rfl
    | succ m ih =>
      intro ys zs h
      match ys, h with
      | [], _ => rfl
      | [x], _ =>
        have e1 : ([x].length + 1) / 2 = 1 := by simp
        rw [e1, show List.range 1 = [0] from rfl]
        simp [ev]
      | x :: y :: r, h =>
        have e1 : ((x :: y :: r).length + 1) / 2 = (r.length + 1) / 2 + 1 := by simp only [List.length_cons]; omega
        rw [e1, List.range_succ_eq_map, List.filterMap_cons_some (b := x) (by simp), List.filterMap_map]
        show x :: _ = x :: ev r
        congr 1
        have h2 := ih r (zs ++ [x, y]) (by simp only [List.length_cons] at h; omega)
        rw [← h2]
        congr 1
        funext i
        show (zs ++ x :: y :: r)[zs.length + 2 * (i + 1)]? = ((zs ++ [x, y]) ++ r)[(zs ++ [x, y]).length + 2 * i]?
        rw [List.append_assoc]
        have e2 : (zs ++ [x, y]).length = zs.length + 2 := by simp
        rw [e2, show zs.length + 2 * (i + 1) = zs.length + 2 + 2 * i by omega]
        rfl
  have h := gen xs.length xs [] (Nat.le_refl _)
  rw [← h]
  unfold pickV
  show (sliceRange 0 (xs.length : Int) 2).filterMap _ = _
  unfold sliceRange
  rw [if_pos (by decide : (2 : Int) > 0)]
  have ec : (if (0 : Int) < (xs.length : Int) then ((xs.length : Int) - 0 + 2 - 1) / 2 else 0).toNat = (xs.length + 1) / 2 := by
    split <;> omega
  dsimp only
  rw [ec, List.filterMap_map]
  refine congrArg (fun f => List.filterMap f (List.range ((xs.length + 1) / 2))) ?_
  funext i
  show xs[((0 : Int) + 2 * (i : Int)).toNat]? = _
  rw [show ((0 : Int) + 2 * (i : Int)).toNat = 2 * i by omega]
  simp
theorem ev_map {α β : Type} (f : α → β) : ∀ xs : List α, ev (xs.map f) = (ev xs).map f
  | [] => rfl
  | [_] => rfl
  | x :: y :: r => by
    show f x :: ev (r.map f) = f x :: (ev r).map f
    rw [ev_map f r]
end RT

set_option Elab.async false
set_option linter.all false
set_option maxRecDepth 100000
set_option maxHeartbeats 4000000
/-! sorted(set(xs)) of a list of ints, any number of them below the bound of scans -/
namespace RT
open PySem PySem.Spec PyProof.Rows L2
abbrev fresh0 (w : World) : Obj := { cls := .type "set", dict := none, data := .set #[] 0 (.fresh 0 0 (!w.params.followText "set-order")) }
section
variable {P : Program} {w : World} {A : Around} {E : Value → Shared → Prop} {u : Shared} {l : Addr} {arr : Array Value} {ks : List Int}
theorem arr_len (are : IntsAre arr.toList ks) : arr.size = ks.length := by
  have e := IntsAre.length are
  rwa [Array.length_toList] at e
theorem arr_val (are : IntsAre arr.toList ks) (i : Nat) (v : Value) (hv : arr[i]? = some v) : ∃ k t, ks[i]? = some k ∧ v = .int k t := by
  have lt : i < ks.length := (arr_len are) ▸ (Array.getElem?_eq_some_iff.mp hv).1
  obtain ⟨t, e⟩ := PyProof.Rows.IntsAre.int_at are i v ((Array.getElem?_toList ..).trans hv)
  exact ⟨ks[i], t, List.getElem?_eq_getElem lt, e.trans (by rw [List.getD_eq_getElem?_getD, List.getElem?_eq_getElem lt]; rfl)⟩
/-- the loop that puts a list's ints into a new set -/
theorem fill_list {R : Result → Shared → Prop} (calm : A.handled = none) (pl : u.heap.IsList l arr) (are : IntsAre arr.toList ks) (few : ks.length + 1 < scanBound)
    (fin : ∀ (h' : Heap) (tk c : Nat), SetR w h' u.heap.objs.size (fun j => decide (j ∈ ks)) c → (∀ b o, u.heap.get? b = some o → h'.get? b = some o) → R (.ok (.ret .none)) { u with heap := h', toks := tk }) :
    codeAny (model P w) A (.builtin "set.update.loop" ⟨[.ref u.heap.objs.size, .ref (u.heap.push (fresh0 w)).objs.size], []⟩) R { u with heap := (u.heap.push (fresh0 w)).push { cls := .type "list_iterator", data := .fields #[.ref l, .int 0 0] } } := by
  obtain ⟨ob, at_, rest⟩ := id pl
  have lt : l < u.heap.objs.size := Heap.lt_size at_
  have sz : (u.heap.push (fresh0 w)).objs.size = u.heap.objs.size + 1 := Heap.size_push ..
  have pl1 : (u.heap.push (fresh0 w)).IsList l arr := pl.push _
  have apart : l ≠ (u.heap.push (fresh0 w)).objs.size := Nat.ne_of_lt (by rw [sz]; exact Nat.lt_succ_of_lt lt)
  have outside : u.heap.objs.size ∉ [(u.heap.push (fresh0 w)).objs.size, l] := by
    intro z
    rcases List.mem_cons.mp z with z | z
    · exact absurd z (Nat.ne_of_lt (by rw [sz]; exact Nat.lt_succ_self _))
    · exact absurd (List.mem_singleton.mp z) (Nat.ne_of_gt lt)
  have begun : ((u.heap.push (fresh0 w)).push { cls := .type "list_iterator", data := .fields #[.ref l, .int 0 0] }).get? u.heap.objs.size = some (fresh0 w) := Heap.get?_push_of_some _ (Heap.get?_push_size _ rfl)
  have quiet : A.in1.handled = none := by simp [calm]
  refine set_update_ints ((Walks.list quiet _ l apart arr).toS) u.heap.objs.size outside ks (arr_len are) few (arr_val are) (arr.size - 0) 0 _ (by omega) (Nat.zero_le _) ⟨⟨_, Heap.get?_push_size _ rfl, rfl, rfl⟩, pl1.push _⟩ ⟨0, Nat.le_refl 0, setR_new_at begun⟩ fun s' c mv _ st => ?_
  obtain ⟨h2, g2, d2, t2, o2⟩ := s'
  obtain rfl : g2 = u.gens := mv.gens
  obtain rfl : d2 = u.drawn := mv.drawn
  obtain rfl : o2 = u.os := mv.os
  refine fin h2 t2 c st fun b o hb => mv.heap b o (fun z => ?_) (Heap.get?_push_of_some _ (Heap.get?_push_of_some _ hb))
  have blt : b < u.heap.objs.size := Heap.lt_size hb
  rcases List.mem_cons.mp z with z | z
  · exact absurd z (Nat.ne_of_lt blt)
  · exact absurd (List.mem_singleton.mp z) (Nat.ne_of_lt (by rw [sz]; exact Nat.lt_succ_of_lt blt))
set_option maxHeartbeats 8000000 in
/-- set(xs) -/
theorem set_list {Q : Value → Shared → Prop} (calm : A.handled = none) (pl : u.heap.IsList l arr) (are : IntsAre arr.toList ks) (few : ks.length + 1 < scanBound)
    (fin : ∀ (h' : Heap) (tk c : Nat), SetR w h' u.heap.objs.size (fun j => decide (j ∈ ks)) c → (∀ b o, u.heap.get? b = some o → h'.get? b = some o) → Q (.ref u.heap.objs.size) { u with heap := h', toks := tk }) :
    wpAny (model P w) A (call (.type "set") [.ref l]) Q E u := by
  obtain ⟨c1, c2, c3⟩ := F.called_set.mro
  have c4 := F.called_set.made
  have c5 := F.called_set.sub
  refine wpAny_call (codeAny_of_tree ?_)
  show wpAny _ _ (callAny (.type "set") ⟨[.ref l], []⟩) _ _ u
  refine wpAny_pure ⟨Code.quiet_builtin _ (by decide +kernel), codeAny_builtin F.entry_type_call ?_⟩
  rw [Around.under_plain (weight_type_call_type "set" [.ref l] []) rfl]
  have c6 := F.called_set.notType
  have c7 := F.called_set.canCreate
  have c8 := F.typeCall_set_1 (.ref l)
  repeat (any_goals (first | assumption | wp_step))
  refine codeAny_mono (code_set_led1 (.ref l) (E := E) (Q₁ := fun o z => o = .ref u.heap.objs.size ∧ z = { u with heap := u.heap.push (fresh0 w) }) ⟨rfl, rfl⟩) fun r z hr => ?_
  match r, hr with
  | .error e, hr => exact hr
  | .ok .next, hr => exact hr.elim
  | .ok .brk, hr => exact hr.elim
  | .ok .cont, hr => exact hr.elim
  | .ok (.ret o), hr =>
    obtain ⟨rfl, rfl⟩ := hr
    have at0 : (u.heap.push (fresh0 w)).get? u.heap.objs.size = some (fresh0 w) := Heap.get?_push_size _ rfl
    have ty0 : Shared.TypeIs { u with heap := u.heap.push (fresh0 w) } (.ref u.heap.objs.size) "set" := ⟨_, at0, rfl⟩
    have c9 := F.called_set.init.lookup
    have c10 := F.called_set.init.bind (.ref u.heap.objs.size)
    repeat (any_goals (first | assumption | wp_step))
    refine codeAny_mono (codeAny_call_builtin (R := wants (fun r z => r = .none ∧ ∃ h' tk c, z = { u with heap := h', toks := tk } ∧ SetR w h' u.heap.objs.size (fun j => decide (j ∈ ks)) c ∧ (∀ b o, u.heap.get? b = some o → h'.get? b = some o)) E)
      F.called_set.init.plain F.entry_set_init (check_set_init_1 ty0 ?_)) fun r2 z2 hr2 => ?_
    · obtain ⟨⟨oc, od, dt, osl⟩, at1, hc, n1, hd⟩ := id pl
      simp only at hc hd
      subst hc hd
      have at2 : (u.heap.push (fresh0 w)).get? l = some ⟨.type "list", od, .seq arr n1, osl⟩ := Heap.get?_push_of_some _ at1
      have d1 := F.sub_list_set
      have d2 := F.sub_list_frozenset
      have d3 : (Value.type "list" == Value.type "dict") = false := by decide
      have pl1 : (u.heap.push (fresh0 w)).IsList l arr := pl.push _
      unfold Builtin.«set.__init__» noKeywords Builtin.Frozenset.updateFrom
      generalize eI : pyIter = walker
      wp_walk
      subst eI
      refine wpAny_pyIter_list pl1 (wpAny_bind (wpAny_runValue ?_))
      refine fill_list (by simp [calm]) pl are few fun h' tk c st kp => ?_
      show wpAny _ _ _ _ _ _
      refine wpAny_pure ?_
      show wpAny _ _ (ret Value.none) _ _ _
      exact wpAny_pure ⟨rfl, h', tk, c, rfl, st, kp⟩
    · match r2, hr2 with
      | .error e, hr2 => exact hr2
      | .ok .next, hr2 => exact hr2.elim
      | .ok .brk, hr2 => exact hr2.elim
      | .ok .cont, hr2 => exact hr2.elim
      | .ok (.ret r), hr2 =>
        obtain ⟨rfl, h', tk, c, rfl, st, kp⟩ := hr2
        repeat (any_goals (first | assumption | wp_step))
        exact fin _ _ _ st kp
/-- sorted(s), s a set of ints of any size -/
theorem sorted_any {a : Addr} {S : Int → Bool} {n : Nat} {Q : Value → Shared → Prop} (R : SetR w u.heap a S n) (calm : A.handled = none)
    (fin : ∀ z p (out : List Value) (c : Nat) (ns : List Int), (∀ b o, u.heap.get? b = some o → z.heap.get? b = some o) → z.gens = u.gens → z.os = u.os → u.heap.objs.size ≤ p →
      z.heap.get? p = some (seqObj "list" out.toArray c) → IntsAre out ns → ns.Pairwise (· < ·) → (∀ k, k ∈ ns ↔ S k = true) → ns.length = n → Q (.ref p) z) : wpAny (model P w) A (call (.builtin "sorted") [.ref a]) Q E u := by
  obtain ⟨ob, es, ep, tb, at0, ex, hd, good, nodup, mem, bound, fits, len, ris, led⟩ := R
  refine Calls.call_function_entry kind_sorted plain_sorted entry_sorted (args_sorted1 _) ?_
  unfold Builtin.«sorted»
  refine wpAny_bind (m := checkCount "sorted" 1 1 _) (wpAny_pure (wpAny_bind (collect_set (A := A.in1) calm ⟨ob, at0, ex.1, hd⟩ fits bound ris led fun z1 vs k1 z2 g1 o1 pm => ?_)))
  have size : vs.length = n := by
    rw [pm.length_eq, List.length_map, Array.length_toList]
    exact len
  have are : IntsAre vs (vs.map Builtin.Re.reRawOf) := ints_of vs fun v hv => by
    obtain ⟨e, he, q⟩ := List.mem_map.mp (pm.mem_iff.mp hv)
    obtain ⟨k, tk, h1, _⟩ := good e he
    exact ⟨k, tk, q.symm.trans h1⟩
  have keys : (vs.map Builtin.Re.reRawOf).Perm (es.toList.map keyOf) := by
    have q := pm.map Builtin.Re.reRawOf
    rwa [List.map_map] at q
  have le : vs.length ≤ sizeLine := by
    have b0 : es.size < 4096 := bound
    have e0 : es.size = n := len
    exact Nat.le_trans (show vs.length ≤ 4096 by omega) (by decide)
  refine wpAny_bind (wpAny_newList ?_ le)
  have atL : (z1.heap.push (seqObj "list" vs.toArray 0)).get? z1.heap.objs.size = some (seqObj "list" vs.toArray 0) := Heap.get?_push_size _ rfl
  refine wpAny_bind (wpAny_holding (wpAny_call_entry slot_list_sort ⟨_, atL, rfl⟩ entry_list_sort (SrtO.list_sort_ord SrtO.swo_int atL le (fun h2 => SrtO.ints_sortable are h2) fun out q1 q2 => ⟨_, rfl, ?_⟩) (args_list_sort _)))
  obtain ⟨i1, i2, i3⟩ := SrtO.ints_out are q1 q2
  obtain ⟨c, hc⟩ := sortedHeap_at (vs := vs) (out := out.toArray) atL
  have pn := i2.trans keys
  refine wpAny_pure ⟨_, rfl, fin _ z1.heap.objs.size out c (out.map SrtO.iv) (fun b o e => ?_) g1 o1 z2 hc i1 (lt_of_le_nodup _ i3 (pn.nodup_iff.mpr nodup)) (fun k => by rw [pn.mem_iff, ← mem k]) ?_⟩
  · have q := k1 b o e
    have lt := Heap.lt_size q
    show (sortedHeap (z1.heap.push (seqObj "list" vs.toArray 0)) z1.heap.objs.size vs out.toArray).get? b = some o
    rw [sortedHeap_old (Nat.ne_of_lt lt) (by rw [size_push']; exact Nat.lt_succ_of_lt lt)]
    exact Heap.get?_push_of_some _ q
  · rw [pn.length_eq, List.length_map, Array.length_toList]
    exact len
end
section
variable {X : Cx}
/-- set(xs) of a list of ints -/
def rSetL (K : PySem.W.Frag) (w : World) : List V → Hp → VK → Prop := fun vs H Q => ∃ (a : Addr) (ks : List Int), vs = [V.ref a] ∧ SqL K H a (ks.map V.int) ∧ ks.length ≤ 4000 ∧ ∀ p c, H p = none → Q (.ref p) (upd H p (SetO w p (fun j => decide (j ∈ ks)) c))
theorem cr_setL (hc : X.calm = true) : CallR X (.type "set") (rSetL X.K X.w) := by
  intro pins s σ H vs us Q I r h
  obtain ⟨a, ks, rfl, hs, few, q⟩ := h
  obtain ⟨its, rv, pl, hz⟩ := I.list hs
  rw [Vals.ref1 r]
  refine set_list (I.ok.hd hc) pl.isList (show IntsAre its.toArray.toList ks from rv.ints) (by unfold scanBound; omega) fun h' tk c st kp => ?_
  have free := I.hok.fresh (Nat.le_refl s.heap.objs.size)
  exact ⟨.ref _, upd H s.heap.objs.size (SetO X.w s.heap.objs.size (fun j => decide (j ∈ ks)) c), I.laid (t' := tk) kp (Nat.le_refl _) (setO_new st), rfl, q _ c free⟩
/-- sorted(s) -/
def rSortS (w : World) : List V → Hp → VK → Prop := fun vs H Q => ∃ (a : Addr) (S : Int → Bool) (n : Nat), vs = [V.ref a] ∧ H a = some (SetO w a S n) ∧
  ∀ (ns : List Int) (p : Addr), ns.Pairwise (· < ·) → (∀ k : Int, k ∈ ns ↔ S k = true) → ns.length = n → H p = none → Q (.ref p) (upd H p (.lst (ns.map V.int)))
theorem cr_sortS (hc : X.calm = true) : CallR X (.builtin "sorted") (rSortS X.w) := by
  intro pins s σ H vs us Q I r h
  obtain ⟨a, S, n, rfl, ha, q⟩ := h
  have R := setO_get I ha
  have few : n < 4096 := by
    obtain ⟨_, es, _, _, _, _, _, _, _, _, b, _, e, _⟩ := R
    have b0 : es.size < 4096 := b
    omega
  rw [Vals.ref1 r]
  refine sorted_any R (I.ok.hd hc) fun z p out c ns k g o hp hg hi hs hm hl => ?_
  have size : (ns.map V.int).length ≤ sizeLine := by
    rw [List.length_map, hl]
    exact Nat.le_trans (show n ≤ 4096 by omega) (by decide)
  have free : H p = none := I.hok.fresh hp
  have J : Inv X pins σ (upd H p (.lst (ns.map V.int))) { s with heap := z.heap, gens := z.gens, drawn := z.drawn, toks := z.toks } :=
    I.call (ch := []) (Un.laid k hp free) (I.hok.laid k hp ⟨size, out, c, vals_of_ints hi, hg⟩) (by rw [g]; exact I.bare) (fun _ z => nomatch z)
  obtain ⟨z1, z2, z3, z4, z5⟩ := z
  obtain rfl : z5 = s.os := o
  exact ⟨.ref p, _, J, rfl, q ns p hs hm hl free⟩
end
end RT

set_option Elab.async false
set_option linter.all false
set_option maxRecDepth 100000
set_option maxHeartbeats 8000000
/-! set(xs) of a list of tuples of ints -/
namespace TT
open PySem PySem.Spec PyProof.Rows L2 RT
section
variable {P : Program} {w : World} {A : Around} {E : Value → Shared → Prop} {u : Shared} {l : Addr} {arr : Array Value} {ks : List (Addr × List Int)}
theorem TSet.keep {h h' : Heap} {a : Addr} {L : List (Addr × List Int)} {es : Array (Int × Value)} {ep : Nat} {t : SetTable} (R : TSet P w h a L es ep t) (ha : ∀ o, h.get? a = some o → h'.get? a = some o) (ht : ∀ p ∈ L, IsT P w h' p.2 p.1) : TSet P w h' a L es ep t := by
  obtain ⟨o, ho, r⟩ := R.ob
  exact ⟨⟨o, ha o ho, r⟩, R.rows, R.ris, R.dm, R.pl, R.mask, R.nd, ht, R.plain, R.led, R.room⟩
theorem tset_new {h : Heap} {a : Addr} (e : h.get? a = some (fresh0 w)) : TSet P w h a [] #[] 0 (.fresh 0 0 (!w.params.followText "set-order")) where
  ob := ⟨_, e, ⟨rfl, rfl, rfl⟩, rfl⟩
  rows := rfl
  ris := List.Pairwise.nil
  dm := rfl
  pl := .nil _
  mask := .a
  nd := List.nodup_nil
  tup := fun p hp => (by cases hp)
  plain := rfl
  led := by
    show _ ∨ (!w.params.followText "set-order") = true
    cases w.params.followText "set-order"
    · exact .inr rfl
    · exact .inl rfl
  room := by show 0 * 5 < 7 * 3; decide
/-- the loop behind set(xs), from any turn on -/
theorem fill_loop {R : Result → Shared → Prop} {S I : Addr} (calm : A.handled = none) (hu : A.in1.units < cLine) (hlI : l ≠ I) (hSl : S ≠ l) (hSI : S ≠ I) (sz : arr.toList = ks.map fun p => Value.ref p.1) (few : ks.length ≤ 1228)
    {h0 : Heap} (tup : ∀ p ∈ ks, IsT P w h0 p.2 p.1) (newS : h0.get? S = none) (newI : h0.get? I = none)
    (fin : ∀ (h' : Heap) (tk : Nat) L es ep t, TSet P w h' S L es ep t → Got ks ks.length L → (∀ b o, h0.get? b = some o → h'.get? b = some o) → R (.ok (.ret .none)) { u with heap := h', toks := tk }) :
    ∀ (n i : Nat) (h : Heap) (tk : Nat), ks.length - i = n → i ≤ ks.length → h.IsListIter I l i → h.IsList l arr → (∀ b o, h0.get? b = some o → h.get? b = some o) → (∃ L es ep t, TSet P w h S L es ep t ∧ Got ks i L) →
      codeAny (model P w) A (.builtin "set.update.loop" ⟨[.ref S, .ref I], []⟩) R { u with heap := h, toks := tk } := by
  have quiet : A.in1.handled = none := calm
  have kept : ∀ {h h' : Heap} {c : Addr}, h0.get? c = none → (∀ b o, b ≠ c → h.get? b = some o → h'.get? b = some o) → (∀ b o, h0.get? b = some o → h.get? b = some o) → ∀ b o, h0.get? b = some o → h'.get? b = some o := fun {h h' c} hc k k0 b o e => k b o (fun z => by rw [z, hc] at e; cases e) (k0 b o e)
  intro n
  induction n with
  | zero =>
    intro i h tk hn hi hit hl k0 hS
    obtain ⟨L, es, ep, t, R0, g⟩ := hS
    have ei : i = ks.length := by omega
    subst ei
    refine codeAny_builtin F.entry_set_update_loop ?_
    rw [Around.under_plainId F.plain_set_update_loop _]
    show wpAny _ A.in1 (pyNext (.ref I) >>= _) _ _ { u with heap := h, toks := tk }
    refine wpAny_bind (wpAny_pyNext_list_end (s := { u with heap := h, toks := tk }) quiet hit hl ?_ fun h' e' => ?_)
    · have : arr.size = ks.length := by rw [← Array.length_toList, sz, List.length_map]
      exact Array.getElem?_eq_none (by omega)
    · have k1 := kept newI e' k0
      exact wpAny_pure (fin h' tk L es ep t (R0.keep (fun o e => e' S o hSI e) fun p hp => isT_keep (tup p (List.mem_of_mem_take (g.sub p hp))) k1) g k1)
  | succ n ih =>
    intro i h tk hn hi hit hl k0 hS
    obtain ⟨L, es, ep, t, R0, g⟩ := hS
    have lt : i < ks.length := by omega
    obtain ⟨p, ep1⟩ : ∃ p, ks[i]? = some p := ⟨ks[i], List.getElem?_eq_getElem lt⟩
    have ev : arr[i]? = some (Value.ref p.1) := by
      rw [← Array.getElem?_toList, sz, List.getElem?_map, ep1]
      rfl
    refine codeAny_builtin F.entry_set_update_loop ?_
    rw [Around.under_plainId F.plain_set_update_loop _]
    show wpAny _ A.in1 (pyNext (.ref I) >>= _) _ _ { u with heap := h, toks := tk }
    refine wpAny_bind (wpAny_pyNext_list_item (s := { u with heap := h, toks := tk }) hit hl ev fun h1 it1 sb1 => ?_)
    have e1 : ∀ b o, b ≠ I → h.get? b = some o → h1.get? b = some o := sb1.extBut
    have k1 := kept newI e1 k0
    have R1 : TSet P w h1 S L es ep t := R0.keep (fun o e => e1 S o hSI e) fun q hq => isT_keep (tup q (List.mem_of_mem_take (g.sub q hq))) k1
    have hx : IsT P w h1 p.2 p.1 := isT_keep (tup p (List.mem_of_getElem? ep1)) k1
    show wpAny _ A.in1 (holding [Value.ref p.1] (setAdd S (.ref p.1)) >>= _) _ _ { u with heap := h1, toks := tk }
    refine wpAny_bind (wpAny_holding ?_)
    unfold setAdd
    refine wpAny_holding ?_
    refine wpAny_bind (wpAny_pyHash_tuple (s := { u with heap := h1, toks := tk }) hu hx ?_)
    refine add_tup (s := { u with heap := h1, toks := tk + (p.2.length + 1) }) R1 hx hu (by have := g.len; omega) fun b h2 L' es' ep' t' only R2 c1 c2 => ?_
    have g' : Got ks (i + 1) L' := by
      rcases Classical.em (p.2 ∈ L.map (·.2)) with c | c
      · rw [c1 c]; exact g.same ep1 c
      · exact g.more ep1 (c2 c)
    have e2 : ∀ b o, b ≠ S → h1.get? b = some o → h2.get? b = some o := fun b o hb e => (only.2 b hb).trans e
    have k2 := kept newS e2 k1
    exact wpAny_pure ⟨plainId_quiet F.plain_set_update_loop _, ih (i + 1) h2 _ (by omega) lt (it1.at fun o e => e2 I o hSI.symm e) ((hl.at fun o e => e1 l o hlI e).at fun o e => e2 l o hSl.symm e) k2 ⟨L', es', ep', t', R2, g'⟩⟩
end
end TT

set_option Elab.async false
set_option linter.all false
set_option maxRecDepth 100000
set_option maxHeartbeats 8000000
/-! sorting tuples of ints, of one length, any number of them -/
namespace TT
open PySem PySem.Spec PyProof.Rows L2 RT
/-- the order of rows of ints -/
def ltL : List Int → List Int → Bool
  | [], [] => false
  | [], _ :: _ => true
  | _ :: _, [] => false
  | x :: xs, y :: ys => if x = y then ltL xs ys else decide (x < y)
theorem ltL_asym : ∀ xs ys : List Int, ltL xs ys = true → ltL ys xs = false
  | [], [], _ => rfl
  | [], _ :: _, _ => rfl
  | _ :: _, [], h => nomatch h
  | x :: xs, y :: ys, h => by
    unfold ltL at h ⊢
    by_cases e : x = y
    · rw [if_pos e] at h
      rw [if_pos e.symm]
      exact ltL_asym xs ys h
    · rw [if_neg e] at h
      rw [if_neg (Ne.symm e)]
      have := of_decide_eq_true h
      exact decide_eq_false (by omega)
theorem ltL_tr : ∀ xs ys zs : List Int, ltL ys xs = false → ltL zs ys = false → ltL zs xs = false
  | _, _, [], h1, h2 => by
    rename_i xs ys
    cases xs with
    | nil => rfl
    | cons x xs =>
      cases ys with
      | nil => exact absurd h1 (by show ¬ (true = false); decide)
      | cons y ys => exact absurd h2 (by show ¬ (true = false); decide)
  | [], _, _ :: _, _, _ => rfl
  | x :: xs, [], z :: zs, h1, _ => absurd h1 (by show ¬ (true = false); decide)
  | x :: xs, y :: ys, z :: zs, h1, h2 => by
    unfold ltL at h1 h2 ⊢
    by_cases e1 : y = x
    · rw [if_pos e1] at h1
      by_cases e2 : z = y
      · rw [if_pos e2] at h2
        rw [if_pos (e2.trans e1)]
        exact ltL_tr xs ys zs h1 h2
      · rw [if_neg e2] at h2
        rw [if_neg (fun q => e2 (q.trans e1.symm))]
        have := of_decide_eq_false h2
        exact decide_eq_false (by omega)
    · rw [if_neg e1] at h1
      have a := of_decide_eq_false h1
      by_cases e2 : z = y
      · rw [if_neg (fun q => e1 (e2.symm.trans q))]
        exact decide_eq_false (by omega)
      · rw [if_neg e2] at h2
        have b := of_decide_eq_false h2
        rw [if_neg (by omega)]
        exact decide_eq_false (by omega)
theorem ltL_eq : ∀ xs ys : List Int, ltL xs ys = false → ltL ys xs = false → xs = ys
  | [], [], _, _ => rfl
  | [], _ :: _, h, _ => nomatch h
  | _ :: _, [], _, h => nomatch h
  | x :: xs, y :: ys, h1, h2 => by
    unfold ltL at h1 h2
    by_cases e : x = y
    · rw [if_pos e] at h1
      rw [if_pos e.symm] at h2
      rw [e, ltL_eq xs ys h1 h2]
    · rw [if_neg e] at h1
      rw [if_neg (Ne.symm e)] at h2
      have a := of_decide_eq_false h1
      have b := of_decide_eq_false h2
      omega
theorem ltL_swo {α : Type} (k : α → List Int) : SrtO.Swo fun x y => ltL (k x) (k y) := ⟨fun x y h => ltL_asym _ _ h, fun x y z h1 h2 => ltL_tr _ _ _ h1 h2⟩
/-- rows that ascend, none twice -/
abbrev Asc (l : List (List Int)) : Prop := l.Pairwise fun x y => ltL x y = true
theorem asc_of {l : List (List Int)} (h : l.Pairwise fun x y => ltL y x = false) (nd : l.Nodup) : Asc l := by
  have q := h.and nd
  refine q.imp fun {a b} z => ?_
  cases c : ltL a b with
  | true => rfl
  | false => exact absurd (ltL_eq a b c z.1) z.2
theorem ltL_irr (x : List Int) : ltL x x = false := (ltL_swo id).refl x
theorem asc_uniq : ∀ {l m : List (List Int)}, Asc l → Asc m → (∀ x, x ∈ l ↔ x ∈ m) → l = m
  | [], [], _, _, _ => rfl
  | [], y :: m, _, _, h => absurd ((h y).2 (List.mem_cons_self ..)) (by simp)
  | x :: l, [], _, _, h => absurd ((h x).1 (List.mem_cons_self ..)) (by simp)
  | x :: l, y :: m, hl, hm, h => by
    obtain ⟨l1, l2⟩ := List.pairwise_cons.mp hl
    obtain ⟨m1, m2⟩ := List.pairwise_cons.mp hm
    have e : x = y := by
      rcases List.mem_cons.mp ((h x).1 (List.mem_cons_self ..)) with e | c
      · exact e
      · rcases List.mem_cons.mp ((h y).2 (List.mem_cons_self ..)) with e | d
        · exact e.symm
        · have a := m1 x c
          rw [ltL_asym x y (l1 y d)] at a
          cases a
    subst e
    have nl : x ∉ l := fun z => by have a := l1 x z; rw [ltL_irr] at a; cases a
    have nm : x ∉ m := fun z => by have a := m1 x z; rw [ltL_irr] at a; cases a
    rw [asc_uniq l2 m2 fun z => ?_]
    constructor
    · intro hz
      rcases List.mem_cons.mp ((h z).1 (List.mem_cons_of_mem _ hz)) with e | q
      · exact absurd (e ▸ hz) nl
      · exact q
    · intro hz
      rcases List.mem_cons.mp ((h z).2 (List.mem_cons_of_mem _ hz)) with e | q
      · exact absurd (e ▸ hz) nm
      · exact q
/-- v is a tuple of these ints, as many as d -/
def Rows (h : Heap) (d : Nat) (k : Value → List Int) (vs : List Value) : Prop := ∀ v ∈ vs, TS.TupInts h v (k v) ∧ (k v).length = d
theorem Rows.keeps {h h' : Heap} {d : Nat} {k : Value → List Int} {vs : List Value} (x : Rows h d k vs) (q : ∀ b o, h.get? b = some o → o.cls = .type "tuple" → h'.get? b = some o) : Rows h' d k vs := fun v hv => ⟨(x v hv).1.keeps q, (x v hv).2⟩
section
variable {P : Program} {w : World} {A : Around} {E : Value → Shared → Prop} {s : Shared}
theorem lex_rows {b : Bool} {Q : Bool → Shared → Prop} : ∀ {xs ys : List Value} {ns ms : List Int} (i : Nat), IntsAre xs ns → IntsAre ys ms → ns.length = ms.length → Q (ltL ns ms) s → PySem.W.KatLex P w A b false Q (xs.zip ys) i s
  | [], _, _, _, i, .nil, .nil, _, q => PySem.W.kat_nil q
  | _, _, _, _, i, .nil, .cons _ _ _, l, _ => absurd l (by simp)
  | _, _, _, _, i, .cons _ _ _, .nil, l, _ => absurd l (by simp)
  | _, _, _, _, i, .cons p t hx, .cons q u hy, l, z => by
    rename_i xs ns ys ms
    show PySem.W.KatLex P w A b false Q ((Value.int p t, Value.int q u) :: xs.zip ys) i s
    refine PySem.W.kat_cons (wpAny_eqBool_int ?_)
    unfold ltL at z
    by_cases e : p = q
    · rw [if_pos e] at z
      rw [show (p == q) = true from beq_iff_eq.mpr e]
      exact PySem.W.kat_yes (lex_rows (i + 1) hx hy (Nat.succ.inj l) z)
    · rw [if_neg e] at z
      rw [show (p == q) = false from beq_eq_false_iff_ne.mpr e]
      exact PySem.W.kat_no (TS.oneLt_ints _ z)
theorem firsts {h : Heap} {d : Nat} (hd : 1 ≤ d) {k : Value → List Int} : ∀ vs : List Value, Rows h d k vs → ∃ fs, PySem.W.KatTups h vs fs ∧ fs.length = vs.length ∧ ∀ f ∈ fs, ∃ n t, f = Value.int n t
  | [], _ => ⟨[], .nil, rfl, fun f z => by cases z⟩
  | v :: vs, x => by
    obtain ⟨fs, a1, a2, a3⟩ := firsts hd vs fun u hu => x u (List.mem_cons_of_mem _ hu)
    obtain ⟨⟨t, its, rfl, ⟨o, ho, hc, n, hdt⟩, i⟩, hl⟩ := x v (List.mem_cons_self ..)
    have pos : 0 < its.toList.length := by rw [i.length]; omega
    obtain ⟨f, hf⟩ : ∃ f, its.toList[0]? = some f := ⟨_, List.getElem?_eq_getElem pos⟩
    obtain ⟨m, tk, ef⟩ := i.all f (List.mem_of_getElem? hf)
    refine ⟨f :: fs, .cons ho hc hdt (by rw [← Array.getElem?_toList]; exact hf) a1, by rw [List.length_cons, List.length_cons, a2], fun g hg => ?_⟩
    rcases List.mem_cons.mp hg with rfl | hg
    · exact ⟨m, tk, ef⟩
    · exact a3 g hg
theorem rows_cmp {d : Nat} {k : Value → List Int} {vs : List Value} (x : Rows s.heap d k vs) : SrtO.Cmp P w A s (tuples' true) (fun p => p.1 ∈ vs) (SrtO.lt2 fun u v => ltL (k u) (k v)) := by
  intro p q hp hq
  show wpAny (model P w) A (keyLt' (tuples' true) p.1 q.1) (fun r s' => s' = s ∧ r = ltL (k p.1) (k q.1)) (fun _ _ => False) s
  obtain ⟨⟨t, its, e, ⟨o, ho, hc, n, hdt⟩, i⟩, hl⟩ := x _ hp
  obtain ⟨⟨t', its', e', ⟨o', ho', hc', n', hdt'⟩, i'⟩, hl'⟩ := x _ hq
  generalize k p.1 = ns at i hl ⊢
  generalize k q.1 = ms at i' hl' ⊢
  rw [e, e']
  refine PySem.W.kat_lt ho hdt ho' hdt' ?_
  have same : decide (its.size < its'.size) = false := by
    have l1 := i.length
    have l2 := i'.length
    rw [Array.length_toList] at l1 l2
    exact decide_eq_false (by omega)
  rw [same]
  exact lex_rows 0 i i' (hl.trans hl'.symm) ⟨rfl, rfl⟩
theorem rows_sortable {a : Addr} {d : Nat} {k : Value → List Int} {vs : List Value} (hd : 1 ≤ d) (h2 : 2 ≤ vs.length) (x : Rows s.heap d k vs) (ha : ∀ o, s.heap.get? a = some o → o.cls ≠ .type "tuple") : SrtO.SortableO P w A s a vs fun u v => ltL (k u) (k v) := by
  intro h' keep
  have x' : Rows h' d k vs := x.keeps fun b o e c => keep b o (fun z => by subst z; exact ha o e c) e
  obtain ⟨fs, f1, f2, f3⟩ := firsts hd vs x'
  refine ⟨tuples' true, fun Q E hq => ?_, rows_cmp (s := { s with heap := h' }) x'⟩
  refine PySem.W.kat_kind (T := .type "int") f1 (by omega) (fun f hm => ?_) (by rfl) ?_
  · obtain ⟨n, t, rfl⟩ := f3 f hm
    exact PySem.W.Looks.of_pure rfl
  · rw [show (Value.type "int" != Value.type "tuple") = true from by decide +kernel]
    exact hq
theorem not_tup {o : Obj} {h : Heap} {a : Addr} {vs : List Value} (ha : h.get? a = some (seqObj "list" vs.toArray 0)) (e : h.get? a = some o) : o.cls ≠ .type "tuple" := by
  rw [ha] at e
  cases e
  intro c
  exact absurd (Value.type.inj c) (by decide)
/-- sorted(l) of a list of rows -/
theorem sorted_rows {l : Addr} {d : Nat} {k : Value → List Int} {vs : List Value} {Q : Value → Shared → Prop} (hl : s.heap.IsList l vs.toArray) (hz : vs.length ≤ sizeLine) (hd : 1 ≤ d) (x : Rows s.heap d k vs)
    (h : ∀ (h' : Heap) (p : Addr) (out : List Value) (c : Nat), out.Perm vs → (out.map k).Pairwise (fun x y => ltL y x = false) → (∀ b o, s.heap.get? b = some o → h'.get? b = some o) → s.heap.objs.size ≤ p → h'.get? p = some (seqObj "list" out.toArray c) → Q (.ref p) { s with heap := h' }) :
    wpAny (model P w) A (call (.builtin "sorted") [.ref l]) Q E s := by
  refine SrtO.sorted_ord (ltL_swo k) hl hz (fun h2 h₁ a ha kk => rows_sortable (s := { s with heap := h₁ }) hd h2 (x.keeps fun b o e _ => (kk b o e).2) fun o e => not_tup ha e) fun out hs hb => ?_
  obtain ⟨c, hc⟩ := sortedAll_at s.heap vs out.toArray
  exact h _ _ out c hb.perm (List.pairwise_map.mpr hs) (fun b o e => sortedAll_old e) (Nat.le_succ _) hc
/-- the end of sorted(x) behind what was collected -/
theorem sort_end {d : Nat} {k : Value → List Int} {vs : List Value} {Q : Value → Shared → Prop} (hz : vs.length ≤ sizeLine) (hd : 1 ≤ d) (x : Rows s.heap d k vs)
    (h : ∀ (h' : Heap) (p : Addr) (out : List Value) (c : Nat), out.Perm vs → (out.map k).Pairwise (fun x y => ltL y x = false) → (∀ b o, s.heap.get? b = some o → h'.get? b = some o) → s.heap.objs.size ≤ p → h'.get? p = some (seqObj "list" out.toArray c) → Q (.ref p) { s with heap := h' }) :
    wpAny (model P w) A (newList vs >>= fun l => holding [l] (call (.builtin "list.sort") [l] []) >>= fun _ => ret l) (fun fin s' => ∃ v, fin = .done (.ret v) ∧ Q v s') E s := by
  refine wpAny_bind (wpAny_newList ?_ hz)
  have atL : (s.heap.push (seqObj "list" vs.toArray 0)).get? s.heap.objs.size = some (seqObj "list" vs.toArray 0) := Heap.get?_push_size _ rfl
  have x' : Rows (s.heap.push (seqObj "list" vs.toArray 0)) d k vs := x.keeps fun b o e _ => Heap.get?_push_of_some _ e
  refine wpAny_bind (wpAny_holding (wpAny_call_entry (s := { s with heap := s.heap.push (seqObj "list" vs.toArray 0) }) slot_list_sort ⟨_, atL, rfl⟩ entry_list_sort (SrtO.list_sort_ord (ltL_swo k) atL hz (fun h2 => rows_sortable (s := { s with heap := s.heap.push (seqObj "list" vs.toArray 0) }) hd h2 x' fun o e => not_tup atL e) fun out q1 q2 => ⟨_, rfl, ?_⟩) (args_list_sort _)))
  obtain ⟨c, hc⟩ := sortedHeap_at (vs := vs) (out := out.toArray) atL
  refine wpAny_pure ⟨_, rfl, h _ s.heap.objs.size out c q2.perm (List.pairwise_map.mpr q1) (fun b o e => ?_) (Nat.le_refl _) hc⟩
  have lt := Heap.lt_size e
  show (sortedHeap (s.heap.push (seqObj "list" vs.toArray 0)) s.heap.objs.size vs out.toArray).get? b = some o
  rw [sortedHeap_old (Nat.ne_of_lt lt) (by rw [size_push']; exact Nat.lt_succ_of_lt lt)]
  exact Heap.get?_push_of_some _ e
/-- the ints of a tuple, read off a heap -/
abbrev intsAt (h : Heap) (v : Value) : List Int := TS.intsOf h v
theorem tupInts {h : Heap} {k : List Int} {b : Addr} (x : IsT P w h k b) : TS.TupInts h (.ref b) k := tupInts_of x
theorem refs_rows {h : Heap} {d : Nat} {L : List (Addr × List Int)} {vs : List Value} (hL : ∀ p ∈ L, IsT P w h p.2 p.1 ∧ p.2.length = d) (hv : ∀ v ∈ vs, ∃ p ∈ L, v = Value.ref p.1) : Rows h d (intsAt h) vs := fun v m => by
  obtain ⟨p, hp, rfl⟩ := hv v m
  have q := tupInts (hL p hp).1
  rw [show intsAt h (Value.ref p.1) = p.2 from q.ints]
  exact ⟨q, (hL p hp).2⟩
/-- sorted(s), s a set of tuples -/
theorem sorted_tset {a : Addr} {L : List (Addr × List Int)} {es : Array (Int × Value)} {ep : Nat} {t : SetTable} {d : Nat} {Q : Value → Shared → Prop} (R : TSet P w s.heap a L es ep t) (calm : A.handled = none) (hd : 1 ≤ d) (hL : ∀ p ∈ L, p.2.length = d)
    (h : ∀ s' p (out : Array Value) (c : Nat) (L' : List (Addr × List Int)), (∀ b o, s.heap.get? b = some o → s'.heap.get? b = some o) → s'.gens = s.gens → s'.os = s.os → s.heap.objs.size ≤ p →
      s'.heap.get? p = some (seqObj "list" out c) → out.toList = L'.map (fun q => Value.ref q.1) → (∀ q ∈ L', q ∈ L) → L'.length = L.length → Asc (L'.map (·.2)) → (∀ k, k ∈ L'.map (·.2) ↔ k ∈ L.map (·.2)) → Q (.ref p) s') :
    wpAny (model P w) A (call (.builtin "sorted") [.ref a]) Q E s := by
  obtain ⟨ob, at0, exact0, dat⟩ := R.ob
  have few := R.few
  have many := R.many
  refine Calls.call_function_entry kind_sorted plain_sorted entry_sorted (args_sorted1 _) ?_
  unfold Builtin.«sorted»
  refine wpAny_bind (m := checkCount "sorted" 1 1 _) (wpAny_pure (wpAny_bind (collect_set (A := A.in1) calm ⟨ob, at0, exact0.1, dat⟩ R.fits (by unfold scanBound; omega) R.ris R.led fun s1 vs k1 z1 g1 o1 pm => ?_)))
  have vals : es.toList.map (·.2) = L.map fun q => Value.ref q.1 := by
    rw [R.rows]
    show (L.map fun p => (thash P w p.2, Value.ref p.1)).map (·.2) = _
    rw [List.map_map]
    rfl
  rw [vals] at pm
  have size : vs.length = L.length := by rw [pm.length_eq, List.length_map]
  have rows : Rows s1.heap d (intsAt s1.heap) vs := refs_rows (P := P) (w := w) (L := L) (fun p hp => ⟨isT_keep (R.tup p hp) k1, hL p hp⟩) fun v hv => by
    obtain ⟨p, hp, e⟩ := List.mem_map.mp (pm.mem_iff.mp hv)
    exact ⟨p, hp, e.symm⟩
  refine sort_end (by rw [size, sizeLine_eq]; omega) hd rows fun h' p out c q1 q2 kp hp hc => ?_
  have atQ : ∀ q ∈ L, intsAt s1.heap (Value.ref q.1) = q.2 := fun q hq => (tupInts (P := P) (w := w) (isT_keep (R.tup q hq) k1)).ints
  -- the rows behind the addresses
  have pick : ∀ us : List Value, (∀ u ∈ us, ∃ q ∈ L, u = Value.ref q.1) → ∃ L1 : List (Addr × List Int), us = L1.map (fun q => Value.ref q.1) ∧ (∀ q ∈ L1, q ∈ L) := fun us => by
    induction us with
    | nil => exact fun _ => ⟨[], rfl, fun q z => by cases z⟩
    | cons u us ih =>
      intro hu
      obtain ⟨q, hq, rfl⟩ := hu u (List.mem_cons_self ..)
      obtain ⟨L1, rfl, hs⟩ := ih fun v hv => hu v (List.mem_cons_of_mem _ hv)
      refine ⟨q :: L1, rfl, fun r hr => ?_⟩
      rcases List.mem_cons.mp hr with rfl | hr
      · exact hq
      · exact hs r hr
  have qv := q1.trans pm
  obtain ⟨L', e', sub⟩ := pick out fun u hu => by
    obtain ⟨q, hq, e⟩ := List.mem_map.mp (qv.mem_iff.mp hu)
    exact ⟨q, hq, e.symm⟩
  have keys : out.map (intsAt s1.heap) = L'.map (·.2) := by
    rw [e', List.map_map]
    exact List.map_congr_left fun q hq => atQ q (sub q hq)
  have keysL : (L.map fun q => Value.ref q.1).map (intsAt s1.heap) = L.map (·.2) := by
    rw [List.map_map]
    exact List.map_congr_left fun q hq => atQ q hq
  have permK : (L'.map (·.2)).Perm (L.map (·.2)) := by
    have z := qv.map (intsAt s1.heap)
    rwa [keys, keysL] at z
  rw [keys] at q2
  refine h { s1 with heap := h' } p out.toArray c L' (fun b o e => kp b o (k1 b o e)) g1 o1 (Nat.le_trans z1 hp) hc (by simpa using e') sub ?_ (asc_of q2 (permK.nodup_iff.mpr R.nd)) fun k => permK.mem_iff
  have z := permK.length_eq
  rwa [List.length_map, List.length_map] at z
end
end TT

set_option Elab.async false
set_option linter.all false
set_option maxRecDepth 100000
set_option maxHeartbeats 8000000
/-! sets of tuples, sorted lists of them, dicts with tuples as keys: rules of the layer -/
namespace TT
open PySem PySem.Spec PyProof.Rows L2 RT
/-- the set at a, its tuples apart -/
def SetAtL (P : Program) (w : World) (h : Heap) (a : Addr) (L : List (Addr × List Int)) : Prop := ∃ (es : Array (Int × Value)) (ep : Nat) (t : SetTable), (∃ o, h.get? a = some o ∧ o.ExactSet ∧ o.data = .set es ep t) ∧ es.toList = rowsOf P w L ∧
  Ris t.place.toList ∧ t.dummies = #[] ∧ Placed t.mask (hashesOf P w L) t.place.toList ∧ Mask t.mask ∧ (L.map (·.2)).Nodup ∧ t.plain = true ∧ (w.params.followText "set-order" = true ∨ t.led = true) ∧ L.length * 5 < t.mask * 3
def SetW (P : Program) (w : World) (a : Addr) (L : List (Addr × List Int)) : HO := .ext fun h => SetAtL P w h a L
theorem TSet.apart {P : Program} {w : World} {h : Heap} {a : Addr} {L : List (Addr × List Int)} {es : Array (Int × Value)} {ep : Nat} {t : SetTable} (R : TSet P w h a L es ep t) : SetAtL P w h a L :=
  ⟨es, ep, t, R.ob, R.rows, R.ris, R.dm, R.pl, R.mask, R.nd, R.plain, R.led, R.room⟩
theorem SetAtL.full {P : Program} {w : World} {h : Heap} {a : Addr} {L : List (Addr × List Int)} (R : SetAtL P w h a L) (ht : ∀ p ∈ L, IsT P w h p.2 p.1) : ∃ es ep t, TSet P w h a L es ep t := by
  obtain ⟨es, ep, t, h1, h2, h3, h4, h5, h6, h7, h8, h9, h10⟩ := R
  exact ⟨es, ep, t, h1, h2, h3, h4, h5, h6, h7, ht, h8, h9, h10⟩
theorem setW_ok {P : Program} {w : World} {H : Hp} {h : Heap} {a : Addr} {L : List (Addr × List Int)} (R : SetAtL P w h a L) : ObjOk P w H h a (SetW P w a L) := by
  obtain ⟨es, ep, t, ⟨o, ho, r⟩, q⟩ := id R
  refine ⟨R, ⟨o, ho⟩, fun h1 h2 p k => ?_⟩
  obtain ⟨es', ep', t', ⟨o', ho', r'⟩, q'⟩ := p
  exact ⟨es', ep', t', ⟨o', k o' ho', r'⟩, q'⟩
section
variable {X : Cx} {pins : List (Addr × Obj)} {σ : L2.St} {H : Hp} {s : Shared}
theorem isT_in {b : Addr} {k : List Int} (I : L2.Inv X pins σ H s) (h : SqT X.K H b (k.map V.int)) : IsT X.prog X.w s.heap k b := I.isT h
/-- set(xs) of a list of tuples of ints -/
def rSetT (K : PySem.W.Frag) (P : Program) (w : World) : List V → Hp → VK → Prop := fun vs H Q => ∃ (l : Addr) (ks : List (Addr × List Int)), vs = [V.ref l] ∧ SqL K H l (ks.map fun p => V.ref p.1) ∧ (∀ p ∈ ks, SqT K H p.1 (p.2.map V.int)) ∧ ks.length ≤ 1228 ∧
  ∀ a L, H a = none → (∀ p ∈ L, p ∈ ks) → (∀ p ∈ ks, p.2 ∈ L.map (·.2)) → (L.map (·.2)).Nodup → Q (.ref a) (upd H a (SetW P w a L))
end
section
variable {P : Program} {w : World} {A : Around} {E : Value → Shared → Prop} {u : Shared} {l : Addr} {arr : Array Value} {ks : List (Addr × List Int)}
theorem fill_tups {R : Result → Shared → Prop} (calm : A.handled = none) (hu : A.in1.units < cLine) (pl : u.heap.IsList l arr) (sz : arr.toList = ks.map fun p => Value.ref p.1) (few : ks.length ≤ 1228) (tup : ∀ p ∈ ks, IsT P w u.heap p.2 p.1)
    (fin : ∀ (h' : Heap) (tk : Nat) L es ep t, TSet P w h' u.heap.objs.size L es ep t → Got ks ks.length L → (∀ b o, u.heap.get? b = some o → h'.get? b = some o) → R (.ok (.ret .none)) { u with heap := h', toks := tk }) :
    codeAny (model P w) A (.builtin "set.update.loop" ⟨[.ref u.heap.objs.size, .ref (u.heap.push (fresh0 w)).objs.size], []⟩) R { u with heap := (u.heap.push (fresh0 w)).push { cls := .type "list_iterator", data := .fields #[.ref l, .int 0 0] } } := by
  obtain ⟨ob, at_, rest⟩ := id pl
  have lt : l < u.heap.objs.size := Heap.lt_size at_
  have sz1 : (u.heap.push (fresh0 w)).objs.size = u.heap.objs.size + 1 := Heap.size_push ..
  have pl1 : (u.heap.push (fresh0 w)).IsList l arr := pl.push _
  have gone : ∀ b, u.heap.objs.size ≤ b → u.heap.get? b = none := fun b hb => by
    cases q : u.heap.get? b with
    | none => rfl
    | some o => exact absurd (Heap.lt_size q) (Nat.not_lt.mpr hb)
  have begun : ((u.heap.push (fresh0 w)).push { cls := .type "list_iterator", data := .fields #[.ref l, .int 0 0] }).get? u.heap.objs.size = some (fresh0 w) := Heap.get?_push_of_some _ (Heap.get?_push_size _ rfl)
  exact fill_loop (l := l) (arr := arr) calm hu (Nat.ne_of_lt (by rw [sz1]; exact Nat.lt_succ_of_lt lt)) (Nat.ne_of_gt lt) (Nat.ne_of_lt (by rw [sz1]; exact Nat.lt_succ_self _)) sz few tup (gone _ (Nat.le_refl _)) (gone _ (by rw [sz1]; exact Nat.le_succ _)) fin
    ks.length 0 _ u.toks (Nat.sub_zero _) (Nat.zero_le _) ⟨_, Heap.get?_push_size _ rfl, rfl, rfl⟩ (pl1.push _) (fun b o e => Heap.get?_push_of_some _ (Heap.get?_push_of_some _ e)) ⟨[], #[], 0, _, tset_new begun, Got.zero ks⟩
set_option maxHeartbeats 8000000 in
theorem set_tups {Q : Value → Shared → Prop} (calm : A.handled = none) (hu : A.units + 5 < cLine) (pl : u.heap.IsList l arr) (sz : arr.toList = ks.map fun p => Value.ref p.1) (few : ks.length ≤ 1228) (tup : ∀ p ∈ ks, IsT P w u.heap p.2 p.1)
    (fin : ∀ (h' : Heap) (tk : Nat) L es ep t, TSet P w h' u.heap.objs.size L es ep t → Got ks ks.length L → (∀ b o, u.heap.get? b = some o → h'.get? b = some o) → Q (.ref u.heap.objs.size) { u with heap := h', toks := tk }) :
    wpAny (model P w) A (call (.type "set") [.ref l]) Q E u := by
  obtain ⟨c1, c2, c3⟩ := F.called_set.mro
  have c4 := F.called_set.made
  have c5 := F.called_set.sub
  refine wpAny_call (codeAny_of_tree ?_)
  show wpAny _ _ (callAny (.type "set") ⟨[.ref l], []⟩) _ _ u
  refine wpAny_pure ⟨Code.quiet_builtin _ (by decide +kernel), codeAny_builtin F.entry_type_call ?_⟩
  rw [Around.under_plain (weight_type_call_type "set" [.ref l] []) rfl]
  have c6 := F.called_set.notType
  have c7 := F.called_set.canCreate
  have c8 := F.typeCall_set_1 (.ref l)
  repeat (any_goals (first | assumption | wp_step))
  refine codeAny_mono (code_set_led1 (.ref l) (E := E) (Q₁ := fun o z => o = .ref u.heap.objs.size ∧ z = { u with heap := u.heap.push (fresh0 w) }) ⟨rfl, rfl⟩) fun r z hr => ?_
  match r, hr with
  | .error e, hr => exact hr
  | .ok .next, hr => exact hr.elim
  | .ok .brk, hr => exact hr.elim
  | .ok .cont, hr => exact hr.elim
  | .ok (.ret o), hr =>
    obtain ⟨rfl, rfl⟩ := hr
    have at0 : (u.heap.push (fresh0 w)).get? u.heap.objs.size = some (fresh0 w) := Heap.get?_push_size _ rfl
    have ty0 : Shared.TypeIs { u with heap := u.heap.push (fresh0 w) } (.ref u.heap.objs.size) "set" := ⟨_, at0, rfl⟩
    have c9 := F.called_set.init.lookup
    have c10 := F.called_set.init.bind (.ref u.heap.objs.size)
    repeat (any_goals (first | assumption | wp_step))
    refine codeAny_mono (codeAny_call_builtin (R := wants (fun r z => r = .none ∧ ∃ h' tk L es ep t, z = { u with heap := h', toks := tk } ∧ TSet P w h' u.heap.objs.size L es ep t ∧ Got ks ks.length L ∧ (∀ b o, u.heap.get? b = some o → h'.get? b = some o)) E)
      F.called_set.init.plain F.entry_set_init (check_set_init_1 ty0 ?_)) fun r2 z2 hr2 => ?_
    · obtain ⟨⟨oc, od, dt, osl⟩, at1, hc, n1, hd⟩ := id pl
      simp only at hc hd
      subst hc hd
      have at2 : (u.heap.push (fresh0 w)).get? l = some ⟨.type "list", od, .seq arr n1, osl⟩ := Heap.get?_push_of_some _ at1
      have d1 := F.sub_list_set
      have d2 := F.sub_list_frozenset
      have d3 : (Value.type "list" == Value.type "dict") = false := by decide
      have pl1 : (u.heap.push (fresh0 w)).IsList l arr := pl.push _
      unfold Builtin.«set.__init__» noKeywords Builtin.Frozenset.updateFrom
      generalize eI : pyIter = walker
      wp_walk
      subst eI
      refine wpAny_pyIter_list pl1 (wpAny_bind (wpAny_runValue ?_))
      refine fill_tups (by simp [calm]) (by have z : A.units + 1 + 1 + 1 < cLine := (by omega); simpa using z) pl sz few tup fun h' tk L es ep t st g kp => ?_
      show wpAny _ _ _ _ _ _
      refine wpAny_pure ?_
      show wpAny _ _ (ret Value.none) _ _ _
      exact wpAny_pure ⟨rfl, h', tk, L, es, ep, t, rfl, st, g, kp⟩
    · match r2, hr2 with
      | .error e, hr2 => exact hr2
      | .ok .next, hr2 => exact hr2.elim
      | .ok .brk, hr2 => exact hr2.elim
      | .ok .cont, hr2 => exact hr2.elim
      | .ok (.ret r), hr2 =>
        obtain ⟨rfl, h', tk, L, es, ep, t, rfl, st, g, kp⟩ := hr2
        repeat (any_goals (first | assumption | wp_step))
        exact fin _ _ _ _ _ _ st g kp
end
end TT

set_option Elab.async false
set_option linter.all false
set_option maxRecDepth 100000
set_option maxHeartbeats 8000000
namespace TT
open PySem PySem.Spec PyProof.Rows L2 RT
section
variable {X : Cx}
theorem cr_setT (hc : X.calm = true) (hu : X.A.units + 64 < cLine) : CallR X (.type "set") (rSetT X.K X.prog X.w) := by
  intro pins s σ H xs us Q I r h
  obtain ⟨l, ks, rfl, hl, hk, few, q⟩ := h
  rw [Vals.ref1 r]
  obtain ⟨its, rv, pl, hz⟩ := I.list hl
  refine set_tups (I.ok.hd hc) (by omega) pl.isList (by simpa using refs_of_vals rv) few (fun p hp => I.isT (hk p hp)) fun h' tk L es ep t R g k => ?_
  have free : H s.heap.objs.size = none := I.hok.fresh (Nat.le_refl _)
  exact ⟨.ref s.heap.objs.size, upd H s.heap.objs.size (SetW X.prog X.w s.heap.objs.size L), I.laid (t' := tk) k (Nat.le_refl _) (setW_ok R.apart), rfl, q _ L free (fun p hp => List.mem_of_mem_take (g.sub p hp)) (fun p hp => g.all p (by rw [List.take_length]; exact hp)) R.nd⟩
/-- len(s) -/
def rLenT (P : Program) (w : World) : List V → Hp → VK → Prop := fun vs H Q => ∃ (a : Addr) (L : List (Addr × List Int)), vs = [V.ref a] ∧ H a = some (SetW P w a L) ∧ Q (.int L.length) H
theorem cr_lenT : CallR X (.builtin "len") (rLenT X.prog X.w) := by
  intro pins s σ H vs us Q I r h
  obtain ⟨a, L, rfl, ha, q⟩ := h
  rw [Vals.ref1 r]
  obtain ⟨es, ep, t, ⟨o, ho, ex, hd⟩, rows, _, dm, pl, mask, _, _, _, room⟩ := (show SetAtL X.prog X.w s.heap a L from (I.hok a _ ha).1)
  have many : es.size = L.length := by
    rw [← Array.length_toList, rows]
    exact List.length_map ..
  have seats : t.place.size = L.length := by
    rw [← Array.length_toList, pl.len]
    exact List.length_map ..
  have le := mask.le
  have fits : t.fits es.size = true := by
    unfold SetTable.fits SetTable.fill
    rw [dm, Bool.and_eq_true, beq_iff_eq, decide_eq_true_eq]
    exact ⟨seats.trans many.symm, by show t.place.size + 0 ≤ t.mask; omega⟩
  refine call_len_set ho ex hd fits (by rw [many]; omega) ?_
  exact ⟨.int es.size, H, (I.tok _).tok _, ⟨_, rfl⟩, by rw [many]; exact q⟩
/-- the key of a row, read off the layer's heap -/
def rowOf (H : Hp) : V → List Int
  | .ref t => match H t with
    | some (.tup xs) => xs.map fun x => match x with
      | .int i => i
      | _ => 0
    | _ => []
  | _ => []
theorem rowOf_at {H : Hp} {t : Addr} {k : List Int} (h : H t = some (.tup (k.map V.int))) : rowOf H (.ref t) = k := by
  show (match H t with
    | some (.tup xs) => xs.map fun x => match x with
      | .int i => i
      | _ => 0
    | _ => []) = k
  rw [h]
  show ((k.map V.int).map fun x => match x with | .int i => i | _ => 0) = k
  rw [List.map_map]
  exact List.map_id' k
/-- rows at their addresses -/
abbrev RowsAt (H : Hp) (d : Nat) (L : List (Addr × List Int)) : Prop := ∀ p ∈ L, H p.1 = some (.tup (p.2.map V.int)) ∧ p.2.length = d
theorem tupQ {K : PySem.W.Frag} {H : Hp} {t : Addr} {xs : List V} (h : H t = some (.tup xs)) : SqT K H t xs := .inl (.inl h)
/-- sorted(s), s a set of rows -/
def rSortT (P : Program) (w : World) : List V → Hp → VK → Prop := fun vs H Q => ∃ (a : Addr) (L : List (Addr × List Int)) (d : Nat), vs = [V.ref a] ∧ H a = some (SetW P w a L) ∧ 1 ≤ d ∧ RowsAt H d L ∧
  ∀ (L' : List (Addr × List Int)) (p : Addr), (∀ q ∈ L', q ∈ L) → L'.length = L.length → Asc (L'.map (·.2)) → (∀ k, k ∈ L'.map (·.2) ↔ k ∈ L.map (·.2)) → H p = none → Q (.ref p) (upd H p (.lst (L'.map fun q => V.ref q.1)))
theorem cr_sortT (hc : X.calm = true) : CallR X (.builtin "sorted") (rSortT X.prog X.w) := by
  intro pins s σ H vs us Q I r h
  obtain ⟨a, L, d, rfl, ha, hd, hL, q⟩ := h
  obtain ⟨es, ep, t, R⟩ := (show SetAtL X.prog X.w s.heap a L from (I.hok a _ ha).1).full fun p hp => I.isT (tupQ (hL p hp).1)
  have few := R.few
  rw [Vals.ref1 r]
  refine sorted_tset R (I.ok.hd hc) hd (fun p hp => (hL p hp).2) fun z p out c L' k g o hp hg e sub len asc mem => ?_
  have free : H p = none := I.hok.fresh hp
  have size : (L'.map fun q => V.ref q.1).length ≤ sizeLine := by rw [List.length_map, len, sizeLine_eq]; omega
  have J : L2.Inv X pins σ (upd H p (.lst (L'.map fun q => V.ref q.1))) { s with heap := z.heap, gens := z.gens, drawn := z.drawn, toks := z.toks } :=
    I.call (ch := []) (Un.laid k hp free) (I.hok.laid k hp ⟨size, out.toList, c, by rw [e]; exact vals_of_refs L', hg⟩) (by rw [g]; exact I.bare) (fun _ z => nomatch z)
  obtain ⟨z1, z2, z3, z4, z5⟩ := z
  obtain rfl : z5 = s.os := o
  exact ⟨.ref p, _, J, rfl, q L' p sub len asc mem free⟩
/-- sorted(xs), xs a list of rows -/
def rSortR (K : PySem.W.Frag) : List V → Hp → VK → Prop := fun vs H Q => ∃ (a : Addr) (L : List (Addr × List Int)) (d : Nat), vs = [V.ref a] ∧ SqL K H a (L.map fun q => V.ref q.1) ∧ 1 ≤ d ∧ RowsAt H d L ∧
  ∀ (L' : List (Addr × List Int)) (p : Addr), L'.Perm L → (L'.map (·.2)).Pairwise (fun x y => ltL y x = false) → H p = none → Q (.ref p) (upd H p (.lst (L'.map fun q => V.ref q.1)))
theorem perm_back {f : Addr × List Int → Value} {L : List (Addr × List Int)} (hf : ∀ p ∈ L, ∀ q ∈ L, f p = f q → p = q) : ∀ {out : List Value}, out.Perm (L.map f) → ∃ L' : List (Addr × List Int), out = L'.map f ∧ L'.Perm L := by
  intro out h
  induction out generalizing L with
  | nil =>
    have e : L = [] := List.map_eq_nil_iff.mp h.symm.eq_nil
    exact ⟨[], rfl, by rw [e]⟩
  | cons o out ih =>
    obtain ⟨p, hp, e⟩ := List.mem_map.mp (h.mem_iff.mp (List.mem_cons_self ..))
    obtain ⟨A, B, rfl⟩ := List.append_of_mem hp
    have more : ∀ {x : Addr × List Int}, x ∈ A ++ B → x ∈ A ++ p :: B := fun {x} hx => (List.Sublist.append (List.Sublist.refl A) (List.sublist_cons_self p B)).subset hx
    have h2 : out.Perm ((A ++ B).map f) := by
      have z : (o :: out).Perm (o :: (A ++ B).map f) := by
        refine h.trans ?_
        rw [List.map_append, List.map_cons, e, List.map_append]
        exact List.perm_middle
      exact z.cons_inv
    obtain ⟨L', e', pm⟩ := ih (L := A ++ B) (fun x hx y hy => hf x (more hx) y (more hy)) h2
    exact ⟨p :: L', by rw [List.map_cons, e, e'], (pm.cons p).trans List.perm_middle.symm⟩
theorem cr_sortR : CallR X (.builtin "sorted") (rSortR X.K) := by
  intro pins s σ H vs us Q I r h
  obtain ⟨a, L, d, rfl, hl, hd, hL, q⟩ := h
  rw [Vals.ref1 r]
  obtain ⟨its, rv, pl, hz⟩ := I.list hl
  have eits : its = L.map fun p => Value.ref p.1 := refs_of_vals rv
  have isT : ∀ p ∈ L, IsT X.prog X.w s.heap p.2 p.1 := fun p hp => I.isT (tupQ (hL p hp).1)
  have rows : Rows s.heap d (intsAt s.heap) its := refs_rows (P := X.prog) (w := X.w) (L := L) (fun p hp => ⟨isT p hp, (hL p hp).2⟩) fun v hv => by
    rw [eits] at hv
    obtain ⟨p, hp, e⟩ := List.mem_map.mp hv
    exact ⟨p, hp, e.symm⟩
  have len : its.length = L.length := by rw [eits, List.length_map]
  refine sorted_rows pl.isList (by rw [len]; rw [List.length_map] at hz; exact hz) hd rows fun h' p out c q1 q2 kp hp hc => ?_
  rw [eits] at q1
  obtain ⟨L', e', pm⟩ := perm_back (L := L) (fun p hp q hq e => by
    injection e with e
    have h1 := (isT p hp)
    rw [e] at h1
    exact Prod.ext e (h1.inj (isT q hq))) q1
  have keys : out.map (intsAt s.heap) = L'.map (·.2) := by
    rw [e', List.map_map]
    exact List.map_congr_left fun q hq => (tupInts (isT q (pm.mem_iff.mp hq))).ints
  rw [keys] at q2
  have free : H p = none := I.hok.fresh hp
  refine ⟨.ref p, _, I.laid (t' := s.toks) (o := .lst (L'.map fun q => V.ref q.1)) kp hp ⟨?_, out, c, by rw [e']; exact vals_of_refs L', hc⟩, rfl, q L' p pm q2 free⟩
  rw [List.length_map, pm.length_eq, ← List.length_map (as := L) (f := fun q => V.ref q.1)]
  exact hz
end
end TT

set_option Elab.async false
set_option linter.all false
set_option maxRecDepth 100000
set_option maxHeartbeats 8000000
namespace TT
open PySem PySem.Spec PyProof.Rows L2 RT
/-- rows of ints as keys of a dict -/
abbrev kI (k : List Int) : List Key := k.map Sum.inl
theorem kI_inj {a b : List Int} (h : kI a = kI b) : a = b := (List.map_inj_right (fun _ _ e => Sum.inl.inj e)).mp h
theorem kI_V (k : List Int) : (kI k).map kV = k.map V.int := by
  rw [List.map_map]
  rfl
/-- a dict's pairs, the keys rows of ints -/
abbrev dI (M : List (List Int × V)) : List (List Key × V) := M.map fun p => (kI p.1, p.2)
def unI (k : List Key) : List Int := k.map fun x => match x with
  | .inl i => i
  | _ => 0
theorem unI_kI (k : List Int) : unI (kI k) = k := by
  unfold unI
  rw [List.map_map]
  exact List.map_id' k
section
variable {X : Cx}
/-- sorted(d), d a dict whose keys are rows -/
def rSortD : List V → Hp → VK → Prop := fun vs H Q => ∃ (d : Addr) (M : List (List Int × V)) (n : Nat), vs = [V.ref d] ∧ H d = some (.dT (dI M)) ∧ 1 ≤ n ∧ (∀ p ∈ M, p.1.length = n) ∧
  ∀ (L' : List (Addr × List Int)) (p : Addr), L'.length = M.length → Asc (L'.map (·.2)) → (∀ k, k ∈ L'.map (·.2) ↔ k ∈ M.map (·.1)) → (∀ q ∈ L', H q.1 = some (.tup (q.2.map V.int))) → H p = none → Q (.ref p) (upd H p (.lst (L'.map fun q => V.ref q.1)))
theorem cr_sortD (hc : X.calm = true) : CallR X (.builtin "sorted") rSortD := by
  intro pins s σ H vs us Q I r h
  obtain ⟨d, M, n, rfl, hd, hn1, hlen, q⟩ := h
  rw [Vals.ref1 r]
  obtain ⟨z, notS, ks, pr, o, es, ep, ho, hx, hdt, he, nd⟩ := (show ObjOk X.prog X.w H s.heap d (.dT (dI M)) from I.hok d _ hd)
  have l1 : es.size = ks.length := size_of_entries he
  have l2 : (dI M).length = ks.length := Paired.length pr
  rw [List.length_map] at z l2
  refine Calls.call_function_entry kind_sorted plain_sorted entry_sorted (args_sorted1 _) ?_
  unfold Builtin.«sorted»
  refine wpAny_bind (m := checkCount "sorted" 1 1 _) (wpAny_pure (wpAny_bind (PySem.W.kdu_collect (kdl_raw notS hx hdt) (I.ok.hd hc) ho (by omega) fun h1 tk acc kp it => ?_)))
  -- the keys, in turn
  have items : acc.toList = ks.map fun x => Value.ref x.2.1 := by
    have hl : acc.toList.length = ks.length := by rw [Array.length_toList, it.1]; exact l1
    refine List.ext_getElem? fun j => ?_
    rw [List.getElem?_map]
    by_cases hj : j < ks.length
    · have hj' : j < acc.toList.length := by omega
      rw [List.getElem?_eq_getElem hj', List.getElem?_eq_getElem hj]
      obtain ⟨en, hen, hv⟩ := it.2 j acc.toList[j] (by rw [← Array.getElem?_toList]; exact List.getElem?_eq_getElem hj')
      have qe := entry_at he j
      rw [hen, List.getElem?_eq_getElem hj] at qe
      have e2 : en = entryOfKey (tupleKind (mixKind X.prog X.w)) ks[j] := Option.some.inj qe
      rw [hv, e2]
      rfl
    · rw [List.getElem?_eq_none (by omega), List.getElem?_eq_none (by omega)]
      rfl
  have keyOf : ∀ x ∈ ks, ∃ p ∈ M, x.1 = kI p.1 ∧ H x.2.1 = some (.tup (p.1.map V.int)) := by
    intro x hx
    obtain ⟨j, hj⟩ := List.mem_iff_getElem?.mp hx
    obtain ⟨y, hy, f⟩ := DX.pget pr hj
    obtain ⟨p, hp, rfl⟩ := List.mem_map.mp (List.mem_of_getElem? hy)
    exact ⟨p, hp, f.1.symm, by rw [← kI_V]; exact f.2.1⟩
  have onto : ∀ p ∈ M, ∃ x ∈ ks, x.1 = kI p.1 := by
    intro p hp
    have hp' : (kI p.1, p.2) ∈ dI M := List.mem_map.mpr ⟨p, hp, rfl⟩
    obtain ⟨j, hj⟩ := List.mem_iff_getElem?.mp hp'
    obtain ⟨y, hy, f⟩ := LiI.paired_get pr hj
    exact ⟨y, List.mem_of_getElem? hy, f.1.symm⟩
  obtain ⟨L, eL⟩ : ∃ L, L = ks.map fun x => (x.2.1, unI x.1) := ⟨_, rfl⟩
  have inL : ∀ q ∈ L, H q.1 = some (.tup (q.2.map V.int)) ∧ q.2.length = n ∧ ∃ p ∈ M, q.2 = p.1 := by
    intro q hq
    rw [eL] at hq
    obtain ⟨x, hx, rfl⟩ := List.mem_map.mp hq
    obtain ⟨p, hp, e, ht⟩ := keyOf x hx
    have e2 : unI x.1 = p.1 := by rw [e, unI_kI]
    exact ⟨by show H x.2.1 = some (.tup ((unI x.1).map V.int)); rw [e2]; exact ht, by show (unI x.1).length = n; rw [e2]; exact hlen p hp, p, hp, e2⟩
  have ndL : (L.map (·.2)).Nodup := by
    rw [eL, List.map_map]
    have e : ((fun q : Addr × List Int => q.2) ∘ fun x : List Key × Addr × Value => (x.2.1, unI x.1)) = unI ∘ fun x : List Key × Addr × Value => x.1 := rfl
    rw [e, ← List.map_map]
    refine List.pairwise_map.mpr (List.Pairwise.imp_of_mem (fun {a b} ha hb ne e => ne ?_) nd)
    obtain ⟨x, hx, rfl⟩ := List.mem_map.mp ha
    obtain ⟨y, hy, rfl⟩ := List.mem_map.mp hb
    obtain ⟨p, _, e1, _⟩ := keyOf x hx
    obtain ⟨p', _, e2, _⟩ := keyOf y hy
    rw [e1, e2] at e ⊢
    rw [unI_kI, unI_kI] at e
    rw [e]
  have accL : acc.toList = L.map fun q => Value.ref q.1 := by rw [items, eL, List.map_map]; rfl
  have isT : ∀ q ∈ L, IsT X.prog X.w h1 q.2 q.1 := fun q hq => isT_keep (I.isT (tupQ (inL q hq).1)) kp
  have rows : Rows h1 n (intsAt h1) acc.toList := refs_rows (P := X.prog) (w := X.w) (L := L) (fun q hq => ⟨isT q hq, (inL q hq).2.1⟩) fun v hv => by
    rw [accL] at hv
    obtain ⟨q, hq, e⟩ := List.mem_map.mp hv
    exact ⟨q, hq, e.symm⟩
  have lL : L.length = M.length := by rw [eL, List.length_map, l2]
  have lacc : acc.toList.length = M.length := by rw [accL, List.length_map, lL]
  refine sort_end (s := { s with heap := h1, toks := tk }) (by rw [lacc]; exact z) hn1 rows fun h2 p out c q1 q2 k2 hp hcell => ?_
  rw [accL] at q1
  obtain ⟨L', e', pm⟩ := perm_back (L := L) (fun a ha b hb e => by
    injection e with e
    have h3 := isT a ha
    rw [e] at h3
    exact Prod.ext e (h3.inj (isT b hb))) q1
  have keys : out.map (intsAt h1) = L'.map (·.2) := by
    rw [e', List.map_map]
    exact List.map_congr_left fun q hq => (tupInts (isT q (pm.mem_iff.mp hq))).ints
  rw [keys] at q2
  have I1 : L2.Inv X pins σ H { s with heap := h1, toks := tk } := I.kept (t' := tk) kp
  have free : H p = none := I1.hok.fresh hp
  refine ⟨.ref p, _, I1.laid (t' := tk) (o := .lst (L'.map fun q => V.ref q.1)) k2 hp ⟨?_, out, c, by rw [e']; exact vals_of_refs L', hcell⟩, rfl, q L' p (by rw [pm.length_eq, lL]) (asc_of q2 ((pm.map (·.2)).nodup_iff.mpr ndL)) (fun k => ?_) (fun a ha => (inL a (pm.mem_iff.mp ha)).1) free⟩
  · rw [List.length_map, pm.length_eq, lL]
    exact z
  · rw [(pm.map (·.2)).mem_iff]
    constructor
    · intro hk
      obtain ⟨a, ha, rfl⟩ := List.mem_map.mp hk
      obtain ⟨b, hb, e⟩ := (inL a ha).2.2
      exact List.mem_map.mpr ⟨b, hb, e.symm⟩
    · intro hk
      obtain ⟨b, hb, rfl⟩ := List.mem_map.mp hk
      obtain ⟨x, hx, e⟩ := onto b hb
      rw [eL]
      exact List.mem_map.mpr ⟨(x.2.1, unI x.1), List.mem_map.mpr ⟨x, hx, rfl⟩, by show unI x.1 = b.1; rw [e, unI_kI]⟩
end
end TT

set_option Elab.async false
set_option linter.all false
set_option maxRecDepth 100000
set_option maxHeartbeats 8000000
/-! dicts with tuples as keys: a comprehension, pop -/
namespace TT
open PySem PySem.Spec PyProof.Rows L2 RT
section
variable {X : Cx} {pins : List (Addr × Obj)} {σ : L2.St} {H : Hp} {s : Shared}
/-- what a comprehension does with a key tuple and its value -/
theorem d_storeT {E : Value → Shared → Prop} {D b : Addr} {kvs : List (List Key × V)} {k : List Key} {v : V} {r : Value} {Q : Unit → Shared → Prop} (hu : X.A.units + 1 < cLine) (I : L2.Inv X pins σ H s) (hD : H D = some (.dT kvs)) (hb : H b = some (.tup (k.map kV)))
    (few : kvs.length < sizeLine) (rv : RelV v r) (h : ∀ s', L2.Inv X pins σ (upd H D (.dT (putK kvs k v))) s' → Q () s') : wpAny (model X.prog X.w) X.A (dictSet D (.ref b) r) Q E s := by
  obtain ⟨z, hd, xs, rel, dd⟩ := dt_of I.hok hD
  have hz : xs.length ≤ sizeLine := by rw [← Paired.length rel]; exact z
  have hl : (putK kvs k v).length ≤ sizeLine := by have := length_putK kvs k v; omega
  refine wpAny_dictSet_heap (hsz := hz) (show X.A.units < cLine from Nat.lt_of_succ_lt hu) (key_of I.hok hb) dd fun h' dd' only => h _ ?_
  obtain ⟨q, es, ep, hq, h2, h3, h4, _, h5⟩ := dd'
  refine d_write I (by rw [hD]; exact True.intro) only ⟨q, hq⟩ ⟨hl, hd, _, (rel.put k hb rv).keeps fun c ys ec => ?_, q, es, ep, hq, h2, h3, h4, h5⟩
  rw [upd_ne (ne_of ec hD (fun z => nomatch z))]
  exact ec
end
section
variable {X : Cx}
/-- {k: v for target in iter if ..}, the keys tuples: D the new dict -/
def tDcT (wi : TI) (g : TG) (tt : TT) (tk tv : TE) (vs : List Nat) : TE := fun σ H Q => wi σ H fun J H1 => ∀ D, H1 D = none → ∃ W : Nat → Nat → Hp → Prop, (∃ m, W 0 m (upd H1 D (.dT []))) ∧ ∀ i m H, W i m H →
  (J.stop i H ∧ Q (.ref D) H) ∨ (J.go i H ∧ ∃ Nx : Hp → Prop, (∀ H', Nx H' → ∃ m', m' < m ∧ W (i + 1) m' H') ∧ ∀ x H', J.yld i H x H' → g x (wipe σ vs) H' fun σ2 H2 => wipe σ2 vs = wipe σ vs ∧ tt σ2 H2 fun b H3 =>
    if b = true then tk σ2 H3 fun y H4 => tv σ2 H4 fun z H5 => ∃ kvs k c, y = .ref c ∧ H5 c = some (.tup (k.map kV)) ∧ H5 D = some (.dT kvs) ∧ kvs.length < sizeLine ∧ Nx (upd H5 D (.dT (putK kvs k z))) else Nx H3)
/-- as a value -/
theorem pe_dcT {kx vx tg iter : Expr} {ifs : List Expr} {scope : Scope} {own : List (Str × Nat)} {pos : Pos} {wi : TI} {g : TG} {tt : TT} {tk tv : TE} (hc : X.calm = true) (hu : X.A.units + 1 < cLine) (hN : X.N.Nodup) (hi : PI X tg iter wi) (ok : BlkOk X.N X.env.scope scope own)
    (hg : ∀ (s : Shared) (H : Hp) (C : Addr) (cl : List (Str × Addr)) (fp : List Addr), PG (X.blk s H scope (compEnvC scope cl C X.env) fp) tg g) (ht : ∀ (s : Shared) (H : Hp) (C : Addr) (cl : List (Str × Addr)) (fp : List Addr), PTs (X.blk s H scope (compEnvC scope cl C X.env) fp) ifs tt)
    (hk : ∀ (s : Shared) (H : Hp) (C : Addr) (cl : List (Str × Addr)) (fp : List Addr), PE (X.blk s H scope (compEnvC scope cl C X.env) fp) kx tk)
    (hv : ∀ (s : Shared) (H : Hp) (C : Addr) (cl : List (Str × Addr)) (fp : List Addr), PE (X.blk s H scope (compEnvC scope cl C X.env) fp) vx tv) (hs : ∀ x, foldedSetIterable iter X.env x = pure x := by intro _; rfl) :
    PE X (.DictComp kx vx [⟨tg, iter, ifs, 0⟩] scope pos) (tDcT wi g tt tk tv (own.map (·.2))) := by
  refine ⟨fun pins s σ H Q I h => ?_⟩
  rw [arm_eval_DictComp]
  have open1 : ∀ y ∈ scope.names, y.2 = .free → ∃ c, X.env.cells.lookup y.1 = some c := fun y hy e => (ok.free y hy e).elim (fun k => I.ok.has _ (.inl k)) fun k => I.ok.has _ (.inr k)
  refine wpAny_comprehension_free (use := none) rfl hs (closure_ok open1) ok.kind (fun y hy e => by rw [ok.uniq y hy, e]) (thn (hi.run pins s σ H _ I h) fun xv s1 hx => thn hx fun itv s2 h2 => ?_)
  obtain ⟨it, fp, tn, J, H2, rfl, I2, T, st2, f2, q⟩ := h2
  refine wpAny_newObj_type (newEnv_comp ?_)
  obtain ⟨D, hD⟩ : ∃ D, s2.heap.objs.size = D := ⟨_, rfl⟩
  rw [hD]
  obtain ⟨W, ⟨m0, w0⟩, turn⟩ := q D (I2.hok.fresh (Nat.le_of_eq hD))
  -- the new dict
  obtain ⟨s3, hs3⟩ : ∃ s3 : Shared, ({ s2 with heap := s2.heap.push { cls := .type "dict", data := .dict #[] } } : Shared) = s3 := ⟨_, rfl⟩
  have h3 : s3.heap = s2.heap.push { cls := .type "dict", data := .dict #[] } := by rw [← hs3]
  have I3 : L2.Inv X pins σ (upd H2 D (.dT [])) s3 := by
    rw [← hs3]
    exact I2.laid (t' := s2.toks) (fun b o e => Heap.get?_push_of_some _ e) (Nat.le_of_eq hD) (by rw [← hD]; exact dt_empty s2.heap I2.big)
  have below : ∀ b ∈ fp, b < s2.heap.objs.size := fun b hb => let ⟨o, e, _⟩ := T.obj _ _ st2 b hb; Heap.lt_size e
  have f3 : ∀ b ∈ fp, FpOk X pins (upd H2 D (.dT [])) b ∧ b < s3.heap.objs.size := fun b hb => by
    have lt := below b hb
    refine ⟨⟨?_, (f2 b hb).2⟩, by rw [h3, Heap.size_push]; exact Nat.lt_succ_of_lt lt⟩
    rw [upd_ne (by rw [← hD]; exact Nat.ne_of_lt lt)]
    exact (f2 b hb).1
  have st3 : tn 0 s3.heap := T.keep _ _ _ st2 fun b _ o e => by rw [h3]; exact Heap.get?_push_of_some _ e
  have I4 := block_start I3 ok hN f3
  have pg := hg s3 (upd H2 D (.dT [])) s3.heap.objs.size (cellsFrom (s3.heap.objs.size + 1) scope.names (cloFrom X.env.cells scope.names [])) fp
  have pt := ht s3 (upd H2 D (.dT [])) s3.heap.objs.size (cellsFrom (s3.heap.objs.size + 1) scope.names (cloFrom X.env.cells scope.names [])) fp
  have pk := hk s3 (upd H2 D (.dT [])) s3.heap.objs.size (cellsFrom (s3.heap.objs.size + 1) scope.names (cloFrom X.env.cells scope.names [])) fp
  have pv' := hv s3 (upd H2 D (.dT [])) s3.heap.objs.size (cellsFrom (s3.heap.objs.size + 1) scope.names (cloFrom X.env.cells scope.names [])) fp
  have off : ∀ b ∈ fp, (upd H2 D (.dT [])) b = none := fun b hb => (f3 b hb).1.1
  rw [hs3]
  show codeAny _ _ (.compStart (.DictComp kx vx [⟨tg, iter, ifs, 0⟩] scope pos) 0 (.ref it) (.ref D) (compEnvC scope (cellsFrom (s3.heap.objs.size + 1) scope.names (cloFrom X.env.cells scope.names [])) s3.heap.objs.size X.env)) (compPost (model X.prog X.w) X.A X.xe none (EP X pins σ Q) (.ref D) s3.heap.objs.size) { s3 with heap := pushCells (s3.heap.push { cls := .type "dict", data := .dict #[] }) scope.names }
  obtain ⟨ce, hce⟩ : ∃ ce, compEnvC scope (cellsFrom (s3.heap.objs.size + 1) scope.names (cloFrom X.env.cells scope.names [])) s3.heap.objs.size X.env = ce := ⟨_, rfl⟩
  rw [hce] at I4 pg pt pk pv' ⊢
  have cL : ce.locals = s3.heap.objs.size := by rw [← hce]; rfl
  obtain ⟨H3, hH3⟩ : ∃ H3, upd H2 D (.dT []) = H3 := ⟨_, rfl⟩
  rw [hH3] at I3 I4 pg pt pk pv' w0 off f3
  obtain ⟨s4, hs4⟩ : ∃ s4 : Shared, ({ s3 with heap := pushCells (s3.heap.push { cls := .type "dict", data := .dict #[] }) scope.names } : Shared) = s4 := ⟨_, rfl⟩
  rw [hs4] at I4 ⊢
  have st4 : tn 0 s4.heap := T.keep _ _ _ st3 fun b _ o e => by rw [← hs4]; exact pushCells_keeps _ _ _ _ (Heap.get?_push_of_some _ e)
  have rest : ∀ {σ' : L2.St} {H' : Hp} {s' : Shared}, L2.Inv (X.blk s3 H3 scope ce fp) [] σ' H' s' → (∀ b ∈ fp, H' b = none) → ∀ b ∈ fp, FpOk (X.blk s3 H3 scope ce fp) [] H' b := fun {σ' H' s'} I' hn b hb =>
    ⟨hn b hb, (I'.ok.exf b hb).1, I'.ok.exfs b hb, .inl hb, fun x c e => (I'.ok.exf b hb).2 x c e, fun p hp => absurd (show p ∈ ([] : List (Addr × Obj)) ++ [] from hp) (by simp)⟩
  have loop : codeAny (model X.prog X.w) X.A (.compLoop (.DictComp kx vx [⟨tg, iter, ifs, 0⟩] scope pos) 0 (.ref it) (.ref D) ce) (compPost (model X.prog X.w) X.A X.xe none (EP X pins σ Q) (.ref D) s3.heap.objs.size) s4 := by
    refine compLoop_anyD (fun n s' => ∃ i H', L2.Inv (X.blk s3 H3 scope ce fp) [] (wipe σ (own.map (·.2))) H' s' ∧ tn i s'.heap ∧ (∀ b ∈ fp, H' b = none) ∧ W i n H') ?_ m0 ⟨0, H3, I4, st4, off, w0⟩
    rintro n s5 ⟨i, H5, I5, st5, n5, w5⟩
    rcases turn i n H5 w5 with ⟨stop, qq⟩ | ⟨go, Nx, hNx, step⟩
    · refine thnF (T.done (X.blk s3 H3 scope ce fp) rfl rfl rfl hc i [] s5 _ H5 (fun _ _ => False) I5 (rest I5 n5) st5 stop) fun r s6 ⟨hr, I6⟩ => ?_
      subst hr
      have I7 : L2.Inv X pins σ H5 s6 := I3.call' (ch := fp) I6.os I6.base I6.hok I6.bare fun b hb => ⟨(f3 b hb).1.2.2.2.1, (f3 b hb).1.2.1, (f3 b hb).1.2.2.2.2.1, (f3 b hb).1.2.2.2.2.2⟩
      have nC : H5 s3.heap.objs.size = none := by
        have z : H5 ce.locals = none := I6.free
        rwa [cL] at z
      obtain ⟨m, hn, _⟩ := I6.loc
      have hn' : s6.heap.Ns ce.locals m := hn
      rw [cL] at hn'
      obtain ⟨f0, f1, f2', f3', f4, f5⟩ := I3.fpOk (Nat.le_refl _) nC
      refine ⟨m, hn', fun h'' sb => ?_⟩
      exact ⟨.ref D, H5, I7.turned (t' := s6.toks) (fun b o hb e => (sb.2 b hb).trans e) f0 f1 f3' f4 f5, rfl, qq⟩
    · refine thnF (T.item (X.blk s3 H3 scope ce fp) rfl rfl rfl hc i [] s5 _ H5 (fun _ _ => False) I5 (rest I5 n5) st5 go) fun r s6 ⟨u, hr, h6⟩ => ?_
      subst hr
      refine thnF h6 fun _ s7 ⟨x, H7, I7, r7, y7, st7, n7⟩ => ?_
      refine thnF (pg.run _ s7 _ H7 x u _ (I7.pinned (rest I7 n7) (T.obj _ _ st7)) r7 (step x H7 y7)) fun _ s8 ⟨σ8, H8, I8, hw8, q8⟩ => ?_
      refine thnF (pt.run _ s8 σ8 H8 _ I8 q8) fun b s9 ⟨H9, I9, q9⟩ => ?_
      have fin : ∀ {s' : Shared} {H' : Hp}, L2.Inv (X.blk s3 H3 scope ce fp) ([] ++ pinsAt fp s7.heap) σ8 H' s' → Nx H' → ∃ m, m < n ∧ ∃ i H', L2.Inv (X.blk s3 H3 scope ce fp) [] (wipe σ (own.map (·.2))) H' s' ∧ tn i s'.heap ∧ (∀ b ∈ fp, H' b = none) ∧ W i m H' := fun {s' H'} I' nx => by
        obtain ⟨m', hm, w'⟩ := hNx H' nx
        have held : ∀ b ∈ fp, ∀ o, s7.heap.get? b = some o → s'.heap.get? b = some o ∧ H' b = none := fun b hb o e =>
          let z := I'.pin (b, o) (List.mem_append_right _ (List.mem_append_right _ (mem_pinsAt hb e)))
          ⟨z.1, z.2.1⟩
        refine ⟨m', hm, i + 1, H', (I'.unpinned (pins := [])).weak (by rw [← hw8, wipe_length]) (fun j v e => (wipe_some (by rw [← hw8] at e; exact e)).1), T.keep _ _ _ st7 fun b hb o e => (held b hb o e).1, fun b hb => ?_, w'⟩
        obtain ⟨o, e, _⟩ := T.obj _ _ st7 b hb
        exact (held b hb o e).2
      cases b with
      | false =>
        simp only [Bool.false_eq_true, if_false] at q9 ⊢
        exact fin I9 q9
      | true =>
        simp only [if_true] at q9 ⊢
        refine thnF (pk.run _ s9 σ8 H9 _ I9 q9) fun z s10 ⟨yk, H10, I10, r10, q10⟩ => ?_
        refine thnF (pv'.run _ s10 σ8 H10 _ I10 q10) fun z2 s11 ⟨yv, H11, I11, r11, kvs, k, c, ek, hb11, hD11, hz11, nx⟩ => ?_
        subst ek
        obtain rfl : z = Value.ref c := r10
        exact d_storeT (X := X.blk s3 H3 scope ce fp) hu I11 hD11 hb11 hz11 r11 fun s12 I12 => fin I12 nx
  exact codeAny_compStart_dict loop (T.self X.A 0 _ _ _ st4 loop)
end
end TT

set_option Elab.async false
set_option linter.all false
set_option maxRecDepth 100000
set_option maxHeartbeats 8000000
/-! d.pop(k), k a tuple that is there -/
namespace TT
open PySem PySem.Spec PyProof.Rows L2 RT
section
variable {prog : Program} {w : World} {K : Type} [DecidableEq K] {knd : HeapKind prog w K}
theorem meets_pop1 {d b : Addr} {k : K} :
    MeetsIn prog w (Builtin.«dict.pop» ⟨[.ref d, .ref b], []⟩) (fun A R s => ∃ xs p, knd.room A.in1 ∧ knd.is s.heap k b ∧ s.heap.DictOfH knd d xs ∧ xs.length ≤ sizeLine ∧ atKey xs k = some p ∧
      ∀ h' tk, h'.DictOfH knd d (DT.dropH xs k) → Heap.SameBut d s.heap h' → R (.ok (.ret p.2)) { s with heap := h', toks := tk }) :=
  .of_wp fun A R s ⟨xs, p, room, key, dd, few, there, q⟩ => by
    obtain ⟨o, es, ep, ho, hc, hdat, he, _, _⟩ := id dd
    have size : es.size = xs.length := size_of_entries he
    have plain : (keyPart (Value.ref b)).isSome = false := rfl
    unfold Builtin.«dict.pop» Builtin.Dict.keyAndDefault
    refine wpAny_bind (wpAny_bind (wpAny_notOrdered_dict dd.typeIs ?_))
    show wpAny _ _ (pure (d, Value.ref b, none)) _ _ s
    refine wpAny_pure ?_
    simp only [plain, Bool.false_eq_true, if_false]
    refine wpAny_bind (wpAny_dictEntries ho hdat (wpAny_bind (wpAny_pure ?_)))
    have some1 : es.isEmpty = false := by
      cases c : es.isEmpty with
      | false => rfl
      | true =>
        have e0 : es.size = 0 := by simpa using c
        have : xs = [] := List.length_eq_zero_iff.mp (by omega)
        rw [this] at there
        cases there
    rw [some1]
    simp only [Bool.false_eq_true, if_false]
    refine wpAny_bind (DT.takeH room key dd few (fun no => by rw [no] at there; cases there) fun p' e hp hev h' dd' only => ?_)
    rw [there] at hp
    cases hp
    simp only [Option.isNone_some, Bool.false_eq_true, if_false]
    exact wpAny_bind (wpAny_letGo (wpAny_pure ⟨e.val, rfl, by rw [hev]; exact q h' _ dd' only⟩))
end
section
variable {X : Cx}
def rPop1 : V → List V → Hp → VK → Prop := fun x xs H Q => ∃ (a : Addr) (kvs : List (List Key × V)) (k : List Key) (b : Addr) (v : V), x = .ref a ∧ xs = [.ref b] ∧ H a = some (.dT kvs) ∧ H b = some (.tup (k.map kV)) ∧ valV kvs k = some v ∧ Q v (upd H a (.dT (dropK kvs k)))
theorem mt_pop1 (hu : X.A.units + 1 < cLine) : MtR X "dict.pop" rPop1 := by
  intro pins s σ H x xs v us Q I rx rxs h
  obtain ⟨a, kvs, k, b, v0, rfl, rfl, ha, hb, ev, q⟩ := h
  cases rx
  obtain ⟨u1, rfl, r1⟩ := vals1 rxs
  cases r1
  obtain ⟨z, hd, xs', rel, dd⟩ := dt_of I.hok ha
  have hz : xs'.length ≤ sizeLine := by rw [← Paired.length rel]; exact z
  obtain ⟨p, hp, rp⟩ : ∃ p, atKey xs' k = some p ∧ RelV v0 p.2 := by
    have r := rel.val k
    rw [ev] at r
    cases c : atKey xs' k with
    | none =>
      rw [c] at r
      exact (show False from r).elim
    | some p =>
      rw [c] at r
      exact ⟨p, rfl, r⟩
  refine call_meetsIn PySem.F.slot_dict_pop dd.typeIs PySem.F.entry_dict_pop (PySem.F.args_dict_pop_2 _ _) (meets_pop1 (knd := tupleKind (mixKind X.prog X.w)) (k := k))
    ⟨xs', p, tupleKind_room_in1 hu, key_of I.hok hb, dd, hz, hp, fun h' tk dd' only => ?_⟩
  obtain ⟨o, es, ep, hq, h2, h3, h4, _, h5⟩ := dd'
  have I2 : L2.Inv X pins σ (upd H a (.dT (dropK kvs k))) { s with heap := h', toks := tk } :=
    d_write I (by rw [ha]; exact True.intro) only ⟨o, hq⟩ ⟨Nat.le_trans (dropK_le kvs k) z, hd, _, (DX.KT_drop k rel).keeps (fun c ys ec => (by rw [upd_ne (ne_of ec ha (fun z => nomatch z))]; exact ec)), o, es, ep, hq, h2, h3, h4, h5⟩
  exact ⟨v0, _, I2, rp, q⟩
end
end TT

set_option Elab.async false
set_option linter.all false
set_option maxRecDepth 100000
set_option maxHeartbeats 4000000
/-! mathematics of pictures as rows: ends, degrees, tallies -/
namespace PC
open PySem PySem.Spec PyProof.Rows L2 TT
section
variable {M : List (List Int × V)}
theorem val_dI (k : List Int) : ∀ M : List (List Int × V), valV (dI M) (kI k) = valV M k
  | [] => rfl
  | p :: M => by
    show valV ((kI p.1, p.2) :: dI M) (kI k) = valV (p :: M) k
    by_cases e : p.1 = k
    · rw [valV_pos (p := (kI p.1, p.2)) (by rw [e]), valV_pos e]
    · rw [valV_neg (p := (kI p.1, p.2)) (fun z => e (kI_inj z)), valV_neg e]
      exact val_dI k M
theorem any_dI (k : List Int) : ∀ M : List (List Int × V), ((dI M).any fun kv => decide (kv.1 = kI k)) = M.any fun kv => decide (kv.1 = k) := fun M => by
  rw [valV_any, valV_any, val_dI]
theorem put_dI (M : List (List Int × V)) (k : List Int) (v : V) : putK (dI M) (kI k) v = dI (putK M k v) := by
  unfold putK
  rw [any_dI]
  split
  · unfold dI
    rw [List.map_map, List.map_map]
    refine List.map_congr_left fun p _ => ?_
    show (if kI p.1 = kI k then (kI p.1, v) else (kI p.1, p.2)) = (kI (if p.1 = k then (p.1, v) else p).1, (if p.1 = k then (p.1, v) else p).2)
    by_cases e : p.1 = k
    · rw [if_pos (by rw [e]), if_pos e]
    · rw [if_neg (fun z => e (kI_inj z)), if_neg e]
  · unfold dI
    rw [List.map_append]
    rfl
theorem drop_dI (M : List (List Int × V)) (k : List Int) : dropK (dI M) (kI k) = dI (dropK M k) := by
  unfold dropK
  rw [List.filter_map]
  congr 1
  refine List.filter_congr fun p _ => ?_
  show decide (kI p.1 ≠ kI k) = decide (p.1 ≠ k)
  by_cases e : p.1 = k
  · rw [e]
    simp
  · rw [decide_eq_true (show p.1 ≠ k from e), decide_eq_true (show kI p.1 ≠ kI k from fun z => e (kI_inj z))]
theorem val_drop (k j : List Int) : ∀ M : List (List Int × V), valV (dropK M k) j = if j = k then none else valV M j
  | [] => by split <;> rfl
  | p :: M => by
    by_cases e : p.1 = k
    · rw [dropK_pos e, val_drop k j M]
      by_cases z : j = k
      · rw [if_pos z, if_pos z]
      · rw [if_neg z, if_neg z, valV_neg (fun y => z (y.symm.trans e))]
    · rw [dropK_neg e]
      by_cases y : p.1 = j
      · rw [valV_pos y, valV_pos y, if_neg (fun z => e (y.trans z))]
      · rw [valV_neg y, valV_neg y]
        exact val_drop k j M
end
/-! ### tallies -/
/-- how often each row stands in a list, as a dict tells it -/
def Tally (M : List (List Int × V)) (vs : List (List Int)) : Prop := ∀ k, valV M k = if vs.count k = 0 then none else some (.int (vs.count k))
theorem tally_nil : Tally [] [] := fun k => rfl
theorem tally_next {M : List (List Int × V)} {vs : List (List Int)} {k : List Int} (h : Tally M vs) : Tally (putK M k (.int (vs.count k + 1 : Int))) (vs ++ [k]) := fun j => by
  rw [valV_put, List.count_append]
  by_cases e : j = k
  · rw [if_pos e, e, List.count_singleton_self, if_neg (by omega)]
    rfl
  · rw [if_neg e, h j]
    have : [k].count j = 0 := List.count_eq_zero.mpr (by rw [List.mem_singleton]; exact e)
    rw [this, Nat.add_zero]
theorem tally_get {M : List (List Int × V)} {vs : List (List Int)} {k : List Int} (h : Tally M vs) : (valV M k).getD (.int 0) = .int (vs.count k) := by
  rw [h k]
  by_cases c : vs.count k = 0
  · rw [if_pos c, c]
    rfl
  · rw [if_neg c]
    rfl
/-! ### keys -/
theorem keys_put (M : List (List Int × V)) (k : List Int) (v : V) (n : Nat) (h : ∀ p ∈ M, p.1.length = n) (hk : k.length = n) : ∀ p ∈ putK M k v, p.1.length = n := by
  intro p hp
  unfold putK at hp
  split at hp
  · obtain ⟨q, hq, rfl⟩ := List.mem_map.mp hp
    by_cases e : q.1 = k
    · rw [if_pos e]
      exact h q hq
    · rw [if_neg e]
      exact h q hq
  · rcases List.mem_append.mp hp with hp | hp
    · exact h p hp
    · rw [List.mem_singleton.mp hp]
      exact hk
theorem mem_keys {M : List (List Int × V)} {k : List Int} : k ∈ M.map (·.1) ↔ (valV M k).isSome = true := by
  rw [← valV_any, List.any_eq_true, List.mem_map]
  constructor
  · rintro ⟨p, hp, rfl⟩
    exact ⟨p, hp, decide_eq_true rfl⟩
  · rintro ⟨p, hp, e⟩
    exact ⟨p, hp, of_decide_eq_true e⟩
/-- keys that stand once -/
def Once (M : List (List Int × V)) : Prop := (M.map (·.1)).Nodup
theorem once_put {M : List (List Int × V)} {k : List Int} {v : V} (h : Once M) : Once (putK M k v) := by
  unfold Once putK
  split
  · rename_i c
    have e : (M.map fun kv => if kv.1 = k then (kv.1, v) else kv).map (·.1) = M.map (·.1) := by
      rw [List.map_map]
      refine List.map_congr_left fun p _ => ?_
      show (if p.1 = k then (p.1, v) else p).1 = p.1
      split <;> rfl
    rw [e]
    exact h
  · rename_i c
    rw [List.map_append]
    refine List.nodup_append.mpr ⟨h, List.pairwise_singleton _ _, fun a ha b hb e => ?_⟩
    have hb' : b = k := List.mem_singleton.mp hb
    rw [e, hb'] at ha
    have z := mem_keys.mp ha
    rw [← valV_any] at z
    exact c z
theorem once_drop {M : List (List Int × V)} {k : List Int} (h : Once M) : Once (dropK M k) := by
  unfold Once dropK
  exact h.sublist ((List.filter_sublist).map _)
theorem once_at {M : List (List Int × V)} (h : Once M) {i : Nat} {p : List Int × V} (e : M[i]? = some p) : valV M p.1 = some p.2 := by
  induction M generalizing i with
  | nil => cases e
  | cons q M ih =>
    have h' := List.nodup_cons.mp h
    cases i with
    | zero => cases e; exact valV_pos rfl
    | succ i =>
      have hp : p ∈ M := List.mem_of_getElem? e
      rw [valV_neg (fun z => h'.1 (List.mem_map.mpr ⟨p, hp, z.symm⟩))]
      exact ih h'.2 e
/-! ### edges, points -/
/-- an edge -/
def EdgeR (e : List Int) : Prop := ∃ x y s : Int, e = [x, y, s] ∧ (s = 0 ∨ s = 1)
theorem EdgeR.len {e : List Int} (h : EdgeR e) : e.length = 3 := by
  obtain ⟨x, y, s, rfl, _⟩ := h
  rfl
def endsR : List Int → List (List Int)
  | [x, y, s] => if s = 0 then [[x, y], [x + 1, y]] else [[x, y], [x, y + 1]]
  | _ => []
/-- the ends of edges, in turn -/
def endsAll (E : List (List Int)) : List (List Int) := E.flatMap endsR
theorem endsR_law {x y s : Int} (h : s = 0 ∨ s = 1) : endsR [x, y, s] = [[x, y], [x + 1 - s, y + s]] := by
  show (if s = 0 then [[x, y], [x + 1, y]] else [[x, y], [x, y + 1]]) = [[x, y], [x + 1 - s, y + s]]
  rcases h with rfl | rfl
  · rw [if_pos rfl, Int.sub_zero, Int.add_zero]
  · rw [if_neg (by decide), Int.add_sub_cancel]
theorem endsAll_len {E : List (List Int)} (h : ∀ e ∈ E, EdgeR e) : (endsAll E).length = 2 * E.length := by
  induction E with
  | nil => rfl
  | cons e E ih =>
    obtain ⟨x, y, s, rfl, hs⟩ := h e (List.mem_cons_self ..)
    unfold endsAll at ih ⊢
    rw [List.flatMap_cons, List.length_append, ih fun e he => h e (List.mem_cons_of_mem _ he), endsR_law hs, List.length_cons]
    show 2 + 2 * E.length = 2 * (E.length + 1)
    omega
theorem endsAll_two {E : List (List Int)} (h : ∀ e ∈ E, EdgeR e) : ∀ p ∈ endsAll E, p.length = 2 := by
  intro p hp
  obtain ⟨e, he, hp⟩ := List.mem_flatMap.mp hp
  obtain ⟨x, y, s, rfl, hs⟩ := h e he
  rw [endsR_law hs] at hp
  simp only [List.mem_cons, List.not_mem_nil, or_false] at hp
  rcases hp with rfl | rfl <;> rfl
theorem endsAll_perm {E F : List (List Int)} (h : E.Perm F) : (endsAll E).Perm (endsAll F) := List.Perm.flatMap_right endsR h
/-- the edges that may end at a point -/
def nearR (x y : Int) : List (List Int) := [[x, y, 0], [x, y, 1], [x - 1, y, 0], [x, y - 1, 1]]
theorem near_nodup (x y : Int) : (nearR x y).Nodup := by
  have iff2 : ∀ c d g e f h : Int, ([c, d, g] : List Int) = [e, f, h] ↔ c = e ∧ d = f ∧ g = h := fun c d g e f h => by simp
  unfold nearR List.Nodup
  simp only [List.pairwise_cons, List.mem_cons, List.not_mem_nil, or_false, Ne]
  refine ⟨fun b hb => ?_, fun b hb => ?_, fun b hb => ?_, fun b hb => hb.elim, List.Pairwise.nil⟩
  · rcases hb with rfl | rfl | rfl <;> rw [iff2] <;> omega
  · rcases hb with rfl | rfl <;> rw [iff2] <;> omega
  · rcases hb with rfl
    rw [iff2]
    omega
theorem count_two {p q r : List Int} (h : p ≠ q) : [p, q].count r = if r = p ∨ r = q then 1 else 0 := by
  rw [List.count_cons, List.count_cons, List.count_nil]
  by_cases c1 : p = r
  · rw [if_neg (by rw [beq_iff_eq]; exact fun z => h (c1.trans z.symm)), if_pos (beq_iff_eq.mpr c1), if_pos (.inl c1.symm)]
  · by_cases c2 : q = r
    · rw [if_pos (beq_iff_eq.mpr c2), if_neg (by rw [beq_iff_eq]; exact c1), if_pos (.inr c2.symm)]
    · rw [if_neg (by rw [beq_iff_eq]; exact c2), if_neg (by rw [beq_iff_eq]; exact c1), if_neg (fun z => z.elim (fun z => c1 z.symm) fun z => c2 z.symm)]
theorem ends_count {e : List Int} (h : EdgeR e) (x y : Int) : (endsR e).count [x, y] = if e ∈ nearR x y then 1 else 0 := by
  obtain ⟨a, b, s, rfl, hs⟩ := h
  have iff1 : ∀ c d e f : Int, ([c, d] : List Int) = [e, f] ↔ c = e ∧ d = f := fun c d e f => by simp
  have iff2 : ∀ c d g e f h : Int, ([c, d, g] : List Int) = [e, f, h] ↔ c = e ∧ d = f ∧ g = h := fun c d g e f h => by simp
  rw [endsR_law hs, count_two (by rw [Ne, iff1]; rcases hs with rfl | rfl <;> omega)]
  have same : ([x, y] = [a, b] ∨ [x, y] = [a + 1 - s, b + s]) ↔ [a, b, s] ∈ nearR x y := by
    unfold nearR
    simp only [List.mem_cons, List.not_mem_nil, or_false]
    rw [iff1, iff1, iff2, iff2, iff2, iff2]
    rcases hs with rfl | rfl <;> constructor <;> intro z <;> omega
  by_cases c : [a, b, s] ∈ nearR x y
  · rw [if_pos c, if_pos (same.2 c)]
  · rw [if_neg c, if_neg (fun z => c (same.1 z))]
/-- the degree of a point, by the edges that may end there -/
theorem degree_near {E : List (List Int)} (hE : ∀ e ∈ E, EdgeR e) (nd : E.Nodup) (x y : Int) : (endsAll E).count [x, y] = ((nearR x y).filter fun e => decide (e ∈ E)).length := by
  have h1 : (endsAll E).count [x, y] = (E.filter fun e => decide (e ∈ nearR x y)).length := by
    induction E with
    | nil => rfl
    | cons e E ih =>
      unfold endsAll at ih ⊢
      rw [List.flatMap_cons, List.count_append, ih (fun e he => hE e (List.mem_cons_of_mem _ he)) (List.nodup_cons.mp nd).2, ends_count (hE e (List.mem_cons_self ..)), List.filter_cons]
      by_cases c : e ∈ nearR x y
      · rw [if_pos c, if_pos (decide_eq_true c), List.length_cons]
        omega
      · rw [if_neg c, if_neg (by rw [decide_eq_true_eq]; exact c)]
        omega
  rw [h1]
  refine List.Perm.length_eq ((List.perm_ext_iff_of_nodup (nd.filter _) ((near_nodup x y).filter _)).mpr fun e => ?_)
  rw [List.mem_filter, List.mem_filter, decide_eq_true_eq, decide_eq_true_eq]
  exact And.comm
end PC

set_option Elab.async false
set_option linter.all false
set_option maxRecDepth 100000
set_option maxHeartbeats 4000000
namespace RT
open PySem PySem.Spec PyProof.Rows L2
theorem pick_gen : ∀ (m : Nat) (ys zs : List V), ys.length ≤ m → (List.range ((ys.length + 1) / 2)).filterMap (fun i => (zs ++ ys)[zs.length + 2 * i]?) = ev ys := by
  intro m
  induction m with
  | zero =>
    intro ys zs h
    have : ys = [] := List.length_eq_zero_iff.mp (by omega)
    subst this
    rfl
  | succ m ih =>
    intro ys zs h
    match ys, h with
    | [], _ => rfl
    | [x], _ =>
      have e1 : ([x].length + 1) / 2 = 1 := by simp
      rw [e1, show List.range 1 = [0] from rfl]
      simp [ev]
    | x :: y :: r, h =>
      have e1 : ((x :: y :: r).length + 1) / 2 = (r.length + 1) / 2 + 1 := by simp only [List.length_cons]; omega
      rw [e1, List.range_succ_eq_map, List.filterMap_cons_some (b := x) (by simp), List.filterMap_map]
      show x :: _ = x :: ev r
      congr 1
      have h2 := ih r (zs ++ [x, y]) (by simp only [List.length_cons] at h; omega)
      rw [← h2]
      congr 1
      funext i
      show (zs ++ x :: y :: r)[zs.length + 2 * (i + 1)]? = ((zs ++ [x, y]) ++ r)[(zs ++ [x, y]).length + 2 * i]?
      rw [List.append_assoc]
      have e2 : (zs ++ [x, y]).length = zs.length + 2 := by simp
      rw [e2, show zs.length + 2 * (i + 1) = zs.length + 2 + 2 * i by omega]
      rfl
/-- xs[1::2] -/
theorem pick_od (xs : List V) : pickV xs (some 1) none (some 2) = ev xs.tail := by
  cases xs with
  | nil => rfl
  | cons x r =>
    have h := pick_gen r.length r [x] (Nat.le_refl _)
    show pickV (x :: r) (some 1) none (some 2) = ev r
    rw [← h]
    unfold pickV
    have eb : sliceBounds (some 1) none (some 2) (x :: r).length = (1, ((x :: r).length : Int), 2) := by
      unfold sliceBounds
      simp
      omega
    rw [eb]
    show (sliceRange 1 ((x :: r).length : Int) 2).filterMap _ = _
    unfold sliceRange
    rw [if_pos (by decide : (2 : Int) > 0)]
    have ec : (if (1 : Int) < ((x :: r).length : Int) then (((x :: r).length : Int) - 1 + 2 - 1) / 2 else 0).toNat = (r.length + 1) / 2 := by
      rw [List.length_cons]
      split <;> omega
    dsimp only
    rw [ec, List.filterMap_map]
    refine congrArg (fun f => List.filterMap f (List.range ((r.length + 1) / 2))) ?_
    funext i
    show (x :: r)[((1 : Int) + 2 * (i : Int)).toNat]? = ([x] ++ r)[[x].length + 2 * i]?
    rw [show ((1 : Int) + 2 * (i : Int)).toNat = 1 + 2 * i by omega]
    rfl
end RT

set_option linter.all false
set_option maxRecDepth 100000
set_option maxHeartbeats 4000000
/-! integers held by intervals; windows -/
namespace SM
open RT
abbrev Iv := Int × Int
/-- how many of lo, lo + 1, .., lo + n - 1 -/
def cnt (f : Int → Bool) (lo : Int) : Nat → Nat
  | 0 => 0
  | n + 1 => cnt f lo n + (if f (lo + n) then 1 else 0)
theorem cnt_add (f : Int → Bool) (lo : Int) (n : Nat) : ∀ m, cnt f lo (n + m) = cnt f lo n + cnt f (lo + n) m
  | 0 => rfl
  | m + 1 => by
    show cnt f lo (n + m) + (if f (lo + ((n + m : Nat) : Int)) = true then 1 else 0) = cnt f lo n + (cnt f (lo + n) m + (if f (lo + (n : Int) + (m : Int)) = true then 1 else 0))
    rw [cnt_add f lo n m, show lo + ((n + m : Nat) : Int) = lo + (n : Int) + (m : Int) by omega]
    omega
theorem cnt_congr {f g : Int → Bool} {lo : Int} : ∀ {n : Nat}, (∀ x, lo ≤ x → x < lo + n → f x = g x) → cnt f lo n = cnt g lo n
  | 0, _ => rfl
  | n + 1, h => by
    show cnt f lo n + _ = cnt g lo n + _
    rw [cnt_congr fun x h1 h2 => h x h1 (by omega), h (lo + n) (by omega) (by omega)]
theorem cnt_all {f : Int → Bool} {lo : Int} : ∀ {n : Nat}, (∀ x, lo ≤ x → x < lo + n → f x = true) → cnt f lo n = n
  | 0, _ => rfl
  | n + 1, h => by
    show cnt f lo n + _ = n + 1
    rw [cnt_all fun x h1 h2 => h x h1 (by omega), h (lo + n) (by omega) (by omega)]
    rfl
theorem cnt_none {f : Int → Bool} {lo : Int} : ∀ {n : Nat}, (∀ x, lo ≤ x → x < lo + n → f x = false) → cnt f lo n = 0
  | 0, _ => rfl
  | n + 1, h => by
    show cnt f lo n + _ = 0
    rw [cnt_none fun x h1 h2 => h x h1 (by omega), h (lo + n) (by omega) (by omega)]
    rfl
theorem cnt_le (f : Int → Bool) (lo : Int) : ∀ n, cnt f lo n ≤ n
  | 0 => Nat.le_refl _
  | n + 1 => by
    have h := cnt_le f lo n
    show cnt f lo n + _ ≤ n + 1
    split <;> omega
theorem cnt_not (f : Int → Bool) (lo : Int) : ∀ n, cnt (fun x => !f x) lo n + cnt f lo n = n
  | 0 => rfl
  | n + 1 => by
    have h := cnt_not f lo n
    show (cnt (fun x => !f x) lo n + (if (!f (lo + n)) = true then 1 else 0)) + (cnt f lo n + (if f (lo + n) = true then 1 else 0)) = n + 1
    cases f (lo + n) <;> simp <;> omega
theorem cnt_xor (f g : Int → Bool) (lo : Int) : ∀ n, (cnt f lo n + cnt g lo n) % 2 = cnt (fun x => xor (f x) (g x)) lo n % 2
  | 0 => rfl
  | n + 1 => by
    have h := cnt_xor f g lo n
    show ((cnt f lo n + (if f (lo + n) = true then 1 else 0)) + (cnt g lo n + (if g (lo + n) = true then 1 else 0))) % 2 = (cnt (fun x => xor (f x) (g x)) lo n + (if xor (f (lo + n)) (g (lo + n)) = true then 1 else 0)) % 2
    cases f (lo + n) <;> cases g (lo + n) <;> simp <;> omega
theorem cnt_shift (f : Int → Bool) (lo d : Int) : ∀ n, cnt f (lo + d) n = cnt (fun x => f (x + d)) lo n
  | 0 => rfl
  | n + 1 => by
    show cnt f (lo + d) n + _ = cnt _ lo n + _
    rw [cnt_shift f lo d n, show lo + d + (n : Int) = lo + n + d by omega]
/-- how many intervals hold x -/
def held : List Iv → Int → Nat
  | [], _ => 0
  | p :: L, x => held L x + (if p.1 ≤ x ∧ x < p.2 then 1 else 0)
def pos (L : List Iv) (x : Int) : Bool := decide (0 < held L x)
def odd (L : List Iv) (x : Int) : Bool := decide (held L x % 2 = 1)
def Within (L : List Iv) (lo : Int) (n : Nat) : Prop := ∀ p ∈ L, lo ≤ p.1 ∧ p.2 ≤ lo + n
def CovOf (L : List Iv) (v : Int) : Prop := ∀ lo n, Within L lo n → v = (cnt (pos L) lo n : Int)
def OddOf (L : List Iv) (v : Int) : Prop := ∀ lo n, Within L lo n → v = (cnt (odd L) lo n : Int)
/-- windows of one length -/
def win (len : Int) (ns : List Int) : List Iv := ns.map fun a => (a, a + len)
/-- how many of the numbers are at most y -/
def upto : List Int → Int → Nat
  | [], _ => 0
  | a :: l, y => upto l y + (if a ≤ y then 1 else 0)
def gaps : List Int → List Int
  | [] => []
  | [_] => []
  | a :: b :: l => (b - a) :: gaps (b :: l)
def Asc (ns : List Int) : Prop := ns.Pairwise (· < ·)
def last : Int → List Int → Int
  | a, [] => a
  | _, b :: l => last b l
theorem last_ge : ∀ {l : List Int} {a : Int}, Asc (a :: l) → a ≤ last a l
  | [], a, _ => Int.le_refl a
  | b :: l, a, h => by
    have h1 := List.pairwise_cons.mp h
    have h2 := last_ge h1.2
    have h3 := h1.1 b (List.mem_cons_self ..)
    show a ≤ last b l
    omega
theorem le_last : ∀ {l : List Int} {a : Int}, Asc (a :: l) → ∀ b ∈ a :: l, b ≤ last a l
  | [], a, _, b, hb => by
    rw [List.mem_singleton.mp hb]
    exact Int.le_refl a
  | c :: l, a, h, b, hb => by
    rcases List.mem_cons.mp hb with rfl | hb
    · exact last_ge h
    · exact le_last (List.pairwise_cons.mp h).2 b hb
theorem upto_all : ∀ {l : List Int} {y : Int}, (∀ b ∈ l, b ≤ y) → upto l y = l.length
  | [], _, _ => rfl
  | b :: l, y, h => by
    show upto l y + _ = l.length + 1
    rw [upto_all fun c hc => h c (List.mem_cons_of_mem _ hc), if_pos (h b (List.mem_cons_self ..))]
theorem upto_none : ∀ {l : List Int} {y : Int}, (∀ b ∈ l, y < b) → upto l y = 0
  | [], _, _ => rfl
  | b :: l, y, h => by
    show upto l y + _ = 0
    rw [upto_none fun c hc => h c (List.mem_cons_of_mem _ hc), if_neg (by have := h b (List.mem_cons_self ..); omega)]
theorem upto_le : ∀ (l : List Int) (y : Int), upto l y ≤ l.length
  | [], _ => Nat.le_refl _
  | b :: l, y => by
    have := upto_le l y
    show upto l y + _ ≤ l.length + 1
    split <;> omega
def ups (l : List Int) (y : Int) : Bool := decide (upto l y % 2 = 1)
def evS : List Int → Int
  | [] => 0
  | [g] => g
  | g :: _ :: l => g + evS l
theorem ev_sum : ∀ l : List Int, (ev l).sum = evS l
  | [] => rfl
  | [g] => by simp [ev, evS]
  | g :: h :: l => by
    show (g :: ev l).sum = g + evS l
    rw [List.sum_cons, ev_sum l]
def odS : List Int → Int
  | [] => 0
  | _ :: l => evS l
theorem evS_cons (g : Int) (l : List Int) : evS (g :: l) = g + odS l := by
  cases l with
  | nil => simp [evS, odS]
  | cons h l => rfl
theorem gaps_sum : ∀ (l : List Int) (a : Int), (gaps (a :: l)).sum = last a l - a
  | [], a => by simp [gaps, last]
  | b :: l, a => by
    have h := gaps_sum l b
    show ((b - a) :: gaps (b :: l)).sum = last b l - a
    rw [List.sum_cons, h]
    omega
theorem ev_od : ∀ (l : List Int), evS l + odS l = l.sum
  | [] => rfl
  | g :: l => by
    rw [evS_cons, List.sum_cons, ← ev_od l]
    show g + odS l + evS l = _
    omega
/-- where an odd number of numbers is behind -/
theorem ups_cnt : ∀ (l : List Int) (a : Int), Asc (a :: l) → (cnt (ups (a :: l)) a (last a l - a).toNat : Int) = evS (gaps (a :: l)) ∧ (cnt (fun y => !ups (a :: l) y) a (last a l - a).toNat : Int) = odS (gaps (a :: l))
  | [], a, _ => by
    have e : (last a [] - a).toNat = 0 := by show (a - a).toNat = 0; omega
    rw [e]
    exact ⟨rfl, rfl⟩
  | b :: l, a, h => by
    have h1 := List.pairwise_cons.mp h
    have hab := h1.1 b (List.mem_cons_self ..)
    have hl := last_ge h1.2
    obtain ⟨i1, i2⟩ := ups_cnt l b h1.2
    have e : (last a (b :: l) - a).toNat = (b - a).toNat + (last b l - b).toNat := by show (last b l - a).toNat = _; omega
    have ea : a + ((b - a).toNat : Int) = b := by omega
    have front : ∀ x, a ≤ x → x < a + ((b - a).toNat : Int) → ups (a :: b :: l) x = true := fun x hx1 hx2 => by
      have z : upto (b :: l) x = 0 := upto_none fun c hc => by
        rcases List.mem_cons.mp hc with rfl | hc
        · omega
        · have := (List.pairwise_cons.mp h1.2).1 c hc
          omega
      show decide ((upto (b :: l) x + (if a ≤ x then 1 else 0)) % 2 = 1) = true
      rw [z, if_pos hx1]
      rfl
    have back : ∀ x, b ≤ x → ups (a :: b :: l) x = !ups (b :: l) x := fun x hx => by
      show decide ((upto (b :: l) x + (if a ≤ x then 1 else 0)) % 2 = 1) = !decide (upto (b :: l) x % 2 = 1)
      rw [if_pos (by omega)]
      by_cases p : upto (b :: l) x % 2 = 1
      · rw [decide_eq_true p, decide_eq_false (by omega)]
        rfl
      · rw [decide_eq_false p, decide_eq_true (by omega)]
        rfl
    rw [e, cnt_add, cnt_add, ea]
    have g1 : gaps (a :: b :: l) = (b - a) :: gaps (b :: l) := rfl
    refine ⟨?_, ?_⟩
    · rw [cnt_all front, cnt_congr (g := fun y => !ups (b :: l) y) fun x hx _ => back x hx, g1, evS_cons, ← i2]
      omega
    · rw [cnt_none fun x p q => by rw [front x p q]; rfl, cnt_congr (g := ups (b :: l)) fun x hx _ => by rw [back x hx, Bool.not_not], g1]
      show ((0 + cnt (ups (b :: l)) b (last b l - b).toNat : Nat) : Int) = evS (gaps (b :: l))
      rw [Nat.zero_add, i1]
theorem held_win_mid : ∀ (l : List Int) {len x : Int}, (∀ a ∈ l, x < a + len) → held (win len l) x = upto l x
  | [], _, _, _ => rfl
  | a :: l, len, x, h => by
    show held (win len l) x + (if a ≤ x ∧ x < a + len then 1 else 0) = upto l x + (if a ≤ x then 1 else 0)
    rw [held_win_mid l fun b hb => h b (List.mem_cons_of_mem _ hb)]
    have := h a (List.mem_cons_self ..)
    by_cases p : a ≤ x
    · rw [if_pos ⟨p, this⟩, if_pos p]
    · rw [if_neg fun q => p q.1, if_neg p]
theorem held_win_end : ∀ (l : List Int) {len x : Int}, (∀ a ∈ l, a ≤ x) → held (win len l) x + upto l (x - len) = l.length
  | [], _, _, _ => rfl
  | a :: l, len, x, h => by
    have ih := held_win_end l (len := len) (x := x) fun b hb => h b (List.mem_cons_of_mem _ hb)
    have := h a (List.mem_cons_self ..)
    show (held (win len l) x + (if a ≤ x ∧ x < a + len then 1 else 0)) + (upto l (x - len) + (if a ≤ x - len then 1 else 0)) = l.length + 1
    by_cases p : a ≤ x - len
    · rw [if_neg (by omega), if_pos p]
      omega
    · rw [if_pos (by omega), if_neg p]
      omega
theorem within_win {a : Int} {l : List Int} {len : Int} (h : Asc (a :: l)) (hl : 0 ≤ len) : Within (win len (a :: l)) a (last a l - a + len).toNat := by
  have hg := last_ge h
  intro p hp
  obtain ⟨b, hb, rfl⟩ := List.mem_map.mp hp
  have h1 := le_last h b hb
  have h2 : a ≤ b := by
    rcases List.mem_cons.mp hb with rfl | hb
    · exact Int.le_refl _
    · have := (List.pairwise_cons.mp h).1 b hb
      omega
  show a ≤ b ∧ b + len ≤ _
  omega
/-- long windows -/
theorem odd_long {a : Int} {l : List Int} {len v : Int} (h : Asc (a :: l)) (h1 : 1 ≤ len) (h2 : last a l - a ≤ len) (hv : OddOf (win len (a :: l)) v) : v = if (a :: l).length % 2 = 1 then len else 2 * evS (gaps (a :: l)) := by
  have hg := last_ge h
  have e := hv a _ (within_win h (by omega))
  obtain ⟨u1, u2⟩ := ups_cnt l a h
  have es : evS (gaps (a :: l)) + odS (gaps (a :: l)) = last a l - a := by rw [ev_od, gaps_sum]
  have en : (last a l - a + len).toNat = ((last a l - a).toNat + (len - (last a l - a)).toNat) + (last a l - a).toNat := by omega
  rw [en, cnt_add, cnt_add] at e
  have ge : ∀ b ∈ a :: l, a ≤ b := fun b hb => by
    rcases List.mem_cons.mp hb with rfl | hb
    · exact Int.le_refl _
    · have := (List.pairwise_cons.mp h).1 b hb
      omega
  have c1 : cnt (odd (win len (a :: l))) a (last a l - a).toNat = cnt (ups (a :: l)) a (last a l - a).toNat := cnt_congr fun x p q => by
    show decide (held (win len (a :: l)) x % 2 = 1) = decide (upto (a :: l) x % 2 = 1)
    rw [held_win_mid (a :: l) fun b hb => by have := ge b hb; omega]
  have c3 : ∀ d, d = a + (((last a l - a).toNat + (len - (last a l - a)).toNat : Nat) : Int) → cnt (odd (win len (a :: l))) d (last a l - a).toNat = cnt (fun y => decide (((a :: l).length - upto (a :: l) y) % 2 = 1)) a (last a l - a).toNat := fun d hd => by
    have e2 : d = a + len := by omega
    subst e2
    rw [cnt_shift]
    refine cnt_congr fun x p q => ?_
    show decide (held (win len (a :: l)) (x + len) % 2 = 1) = decide (((a :: l).length - upto (a :: l) x) % 2 = 1)
    have h3 := held_win_end (a :: l) (len := len) (x := x + len) fun b hb => by have := le_last h b hb; omega
    rw [show x + len - len = x by omega] at h3
    rw [show held (win len (a :: l)) (x + len) = (a :: l).length - upto (a :: l) x by omega]
  have mid : ∀ x, a + ((last a l - a).toNat : Int) ≤ x → x < a + ((last a l - a).toNat : Int) + ((len - (last a l - a)).toNat : Int) → odd (win len (a :: l)) x = decide ((a :: l).length % 2 = 1) := fun x p q => by
    show decide (held (win len (a :: l)) x % 2 = 1) = _
    rw [held_win_mid (a :: l) fun b hb => by have := ge b hb; omega, upto_all fun b hb => by have := le_last h b hb; omega]
  rw [c1, c3 _ rfl] at e
  by_cases hn : (a :: l).length % 2 = 1
  · rw [if_pos hn]
    have c2 : cnt (odd (win len (a :: l))) (a + ((last a l - a).toNat : Int)) (len - (last a l - a)).toNat = (len - (last a l - a)).toNat := cnt_all fun x p q => by rw [mid x p q, decide_eq_true hn]
    have c4 : cnt (fun y => decide (((a :: l).length - upto (a :: l) y) % 2 = 1)) a (last a l - a).toNat = cnt (fun y => !ups (a :: l) y) a (last a l - a).toNat := cnt_congr fun x _ _ => by
      have := upto_le (a :: l) x
      show decide _ = !decide (upto (a :: l) x % 2 = 1)
      by_cases p : upto (a :: l) x % 2 = 1
      · rw [decide_eq_true p, decide_eq_false (by omega)]
        rfl
      · rw [decide_eq_false p, decide_eq_true (by omega)]
        rfl
    rw [c2, c4] at e
    omega
  · rw [if_neg hn]
    have c2 : cnt (odd (win len (a :: l))) (a + ((last a l - a).toNat : Int)) (len - (last a l - a)).toNat = 0 := cnt_none fun x p q => by rw [mid x p q, decide_eq_false hn]
    have c4 : cnt (fun y => decide (((a :: l).length - upto (a :: l) y) % 2 = 1)) a (last a l - a).toNat = cnt (ups (a :: l)) a (last a l - a).toNat := cnt_congr fun x _ _ => by
      have := upto_le (a :: l) x
      show decide _ = decide (upto (a :: l) x % 2 = 1)
      by_cases p : upto (a :: l) x % 2 = 1
      · rw [decide_eq_true p, decide_eq_true (by omega)]
      · rw [decide_eq_false p, decide_eq_false (by omega)]
    rw [c2, c4] at e
    omega
def minS (len : Int) : List Int → Int
  | [] => 0
  | g :: l => (if len < g then len else g) + minS len l
theorem pos_win (l : List Int) (len x : Int) : pos (win len l) x = true ↔ ∃ b ∈ l, b ≤ x ∧ x < b + len := by
  induction l with
  | nil => exact ⟨fun h => by simp [pos, win, held] at h, fun ⟨b, hb, _⟩ => by cases hb⟩
  | cons a l ih =>
    show decide (0 < held (win len l) x + (if a ≤ x ∧ x < a + len then 1 else 0)) = true ↔ _
    rw [decide_eq_true_eq]
    have ih' : 0 < held (win len l) x ↔ ∃ b ∈ l, b ≤ x ∧ x < b + len := by
      rw [← ih]
      exact (decide_eq_true_iff).symm
    constructor
    · intro h
      by_cases p : a ≤ x ∧ x < a + len
      · exact ⟨a, List.mem_cons_self .., p⟩
      · rw [if_neg p] at h
        obtain ⟨b, hb, q⟩ := ih'.mp (by omega)
        exact ⟨b, List.mem_cons_of_mem _ hb, q⟩
    · rintro ⟨b, hb, q⟩
      rcases List.mem_cons.mp hb with rfl | hb
      · rw [if_pos q]
        omega
      · have := ih'.mpr ⟨b, hb, q⟩
        omega
theorem cov_cnt : ∀ (l : List Int) (a len : Int), Asc (a :: l) → 0 ≤ len → (cnt (pos (win len (a :: l))) a (last a l - a + len).toNat : Int) = len + minS len (gaps (a :: l))
  | [], a, len, _, hl => by
    have e : (last a [] - a + len).toNat = len.toNat := by show (a - a + len).toNat = _; omega
    rw [e, cnt_all fun x p q => (pos_win [a] len x).mpr ⟨a, List.mem_singleton.mpr rfl, by omega⟩]
    show ((len.toNat : Nat) : Int) = len + 0
    omega
  | b :: l, a, len, h, hl => by
    have h1 := List.pairwise_cons.mp h
    have hab := h1.1 b (List.mem_cons_self ..)
    have hg := last_ge h1.2
    have ih := cov_cnt l b len h1.2 hl
    have e : (last a (b :: l) - a + len).toNat = (b - a).toNat + (last b l - b + len).toNat := by show (last b l - a + len).toNat = _; omega
    have ea : a + ((b - a).toNat : Int) = b := by omega
    have ge : ∀ c ∈ b :: l, b ≤ c := fun c hc => by
      rcases List.mem_cons.mp hc with rfl | hc
      · exact Int.le_refl _
      · have := (List.pairwise_cons.mp h1.2).1 c hc
        omega
    rw [e, cnt_add, ea]
    have back : cnt (pos (win len (a :: b :: l))) b (last b l - b + len).toNat = cnt (pos (win len (b :: l))) b (last b l - b + len).toNat := cnt_congr fun x p _ => by
      rw [Bool.eq_iff_iff, pos_win, pos_win]
      constructor
      · rintro ⟨c, hc, q1, q2⟩
        rcases List.mem_cons.mp hc with rfl | hc
        · exact ⟨b, List.mem_cons_self .., p, by omega⟩
        · exact ⟨c, hc, q1, q2⟩
      · rintro ⟨c, hc, q⟩
        exact ⟨c, List.mem_cons_of_mem _ hc, q⟩
    have front : ∀ x, a ≤ x → x < b → pos (win len (a :: b :: l)) x = decide (x < a + len) := fun x p q => by
      rw [Bool.eq_iff_iff, pos_win, decide_eq_true_eq]
      constructor
      · rintro ⟨c, hc, q1, q2⟩
        rcases List.mem_cons.mp hc with rfl | hc
        · exact q2
        · have := ge c hc
          omega
      · intro r
        exact ⟨a, List.mem_cons_self .., p, r⟩
    rw [back]
    have g1 : minS len (gaps (a :: b :: l)) = (if len < b - a then len else b - a) + minS len (gaps (b :: l)) := rfl
    rw [g1]
    by_cases p : len < b - a
    · have e2 : (b - a).toNat = len.toNat + (b - a - len).toNat := by omega
      rw [if_pos p, e2, cnt_add, cnt_all fun x p1 p2 => by rw [front x p1 (by omega), decide_eq_true (by omega)], cnt_none fun x p1 p2 => by rw [front x (by omega) (by omega), decide_eq_false (by omega)]]
      omega
    · rw [if_neg p, cnt_all fun x p1 p2 => by rw [front x p1 (by omega), decide_eq_true (by omega)]]
      omega
theorem cov_win {a : Int} {l : List Int} {len v : Int} (h : Asc (a :: l)) (h1 : 0 ≤ len) (hv : CovOf (win len (a :: l)) v) : v = len + minS len (gaps (a :: l)) := by
  rw [hv a _ (within_win h h1)]
  exact cov_cnt l a len h h1
theorem gap_le : ∀ {l : List Int} {a : Int}, Asc (a :: l) → ∀ g ∈ gaps (a :: l), 1 ≤ g ∧ g ≤ last a l - a
  | [], _, _, g, hg => by cases hg
  | b :: l, a, h, g, hg => by
    have h1 := List.pairwise_cons.mp h
    have hab := h1.1 b (List.mem_cons_self ..)
    have hl := last_ge h1.2
    rcases List.mem_cons.mp (show g ∈ (b - a) :: gaps (b :: l) from hg) with rfl | hg
    · show 1 ≤ b - a ∧ b - a ≤ last b l - a
      omega
    · have := gap_le h1.2 g hg
      show 1 ≤ g ∧ g ≤ last b l - a
      omega
theorem minS_long {len : Int} : ∀ {gs : List Int}, (∀ g ∈ gs, g ≤ len) → minS len gs = gs.sum
  | [], _ => rfl
  | g :: gs, h => by
    show (if len < g then len else g) + minS len gs = _
    have := h g (List.mem_cons_self ..)
    rw [if_neg (by omega), minS_long fun x hx => h x (List.mem_cons_of_mem _ hx), List.sum_cons]
theorem cov_long {a : Int} {l : List Int} {len v : Int} (h : Asc (a :: l)) (h1 : 1 ≤ len) (h2 : last a l - a ≤ len) (hv : CovOf (win len (a :: l)) v) : v = (last a l - a) + len := by
  rw [cov_win h (by omega) hv, minS_long fun g hg => Int.le_trans (gap_le h g hg).2 h2, gaps_sum]
  omega
/-- parity -/
theorem odd_par (lo : Int) (n : Nat) : ∀ L : List Iv, Within L lo n → (∀ p ∈ L, p.1 ≤ p.2) → (cnt (odd L) lo n : Int) % 2 = (L.map fun p => p.2 - p.1).sum % 2
  | [], _, _ => by
    rw [cnt_none (f := odd []) fun x _ _ => rfl]
    rfl
  | p :: L, h, h2 => by
    have ih := odd_par lo n L (fun q hq => h q (List.mem_cons_of_mem _ hq)) fun q hq => h2 q (List.mem_cons_of_mem _ hq)
    have hp := h p (List.mem_cons_self ..)
    have hp2 := h2 p (List.mem_cons_self ..)
    have e : ∀ x, odd (p :: L) x = xor (odd L x) (decide (p.1 ≤ x ∧ x < p.2)) := fun x => by
      show decide ((held L x + (if p.1 ≤ x ∧ x < p.2 then 1 else 0)) % 2 = 1) = xor (decide (held L x % 2 = 1)) _
      by_cases q : p.1 ≤ x ∧ x < p.2
      · rw [if_pos q, decide_eq_true q]
        by_cases r : held L x % 2 = 1
        · rw [decide_eq_true r, decide_eq_false (by omega)]
          rfl
        · rw [decide_eq_false r, decide_eq_true (by omega)]
          rfl
      · rw [if_neg q, decide_eq_false q, Nat.add_zero]
        simp
    have c := cnt_xor (odd L) (fun x => decide (p.1 ≤ x ∧ x < p.2)) lo n
    rw [cnt_congr (f := odd (p :: L)) (g := fun x => xor (odd L x) (decide (p.1 ≤ x ∧ x < p.2))) fun x _ _ => e x]
    have c2 : cnt (fun x => decide (p.1 ≤ x ∧ x < p.2)) lo n = (p.2 - p.1).toNat := by
      have en : n = (p.1 - lo).toNat + ((p.2 - p.1).toNat + (lo + n - p.2).toNat) := by omega
      generalize hm : (lo + n - p.2).toNat = m at en
      rw [en, cnt_add, cnt_add, cnt_none fun x p1 p2 => decide_eq_false (by omega), cnt_all fun x p1 p2 => decide_eq_true (by omega), cnt_none fun x p1 p2 => decide_eq_false (by omega)]
      omega
    rw [c2] at c
    rw [List.map_cons, List.sum_cons]
    have c3 : ((cnt (fun x => xor (odd L x) (decide (p.1 ≤ x ∧ x < p.2))) lo n : Nat) : Int) % 2 = ((cnt (odd L) lo n : Int) + ((p.2 - p.1).toNat : Int)) % 2 := by omega
    rw [c3]
    omega
theorem win_sum (len : Int) : ∀ l : List Int, ((win len l).map fun p => p.2 - p.1).sum = (l.length : Int) * len
  | [] => by simp [win]
  | a :: l => by
    have ih := win_sum len l
    show ((a + len - a) :: (win len l).map fun p => p.2 - p.1).sum = ((l.length + 1 : Nat) : Int) * len
    rw [List.sum_cons, ih, show ((l.length + 1 : Nat) : Int) = (l.length : Int) + 1 by omega, Int.add_mul, Int.one_mul]
    omega
theorem odd_mod {a : Int} {l : List Int} {len v : Int} (h : Asc (a :: l)) (h1 : 0 ≤ len) (hv : OddOf (win len (a :: l)) v) : v % 2 = ((a :: l).length : Int) * len % 2 := by
  rw [hv a _ (within_win h h1), odd_par a _ _ (within_win h h1) fun p hp => ?_, win_sum]
  obtain ⟨b, hb, rfl⟩ := List.mem_map.mp hp
  show b ≤ b + len
  omega
/-- the least -/
def firstW (len a : Int) : List Int → Int
  | [] => len
  | b :: _ => if len < b - a then len else b - a
theorem odd_least {a : Int} {l : List Int} {len v : Int} (h : Asc (a :: l)) (h1 : 1 ≤ len) (hv : OddOf (win len (a :: l)) v) : firstW len a l ≤ v := by
  have e := hv a _ (within_win h (by omega))
  have hg := last_ge h
  obtain ⟨k, hk⟩ : ∃ k : Nat, k = (firstW len a l).toNat := ⟨_, rfl⟩
  have k0 : 0 ≤ firstW len a l ∧ firstW len a l ≤ last a l - a + len ∧ firstW len a l ≤ len := by
    cases l with
    | nil => exact ⟨by show 0 ≤ len; omega, by show len ≤ a - a + len; omega, Int.le_refl _⟩
    | cons b l =>
      have := (List.pairwise_cons.mp h).1 b (List.mem_cons_self ..)
      show 0 ≤ (if len < b - a then len else b - a) ∧ (if len < b - a then len else b - a) ≤ _ ∧ (if len < b - a then len else b - a) ≤ len
      split <;> omega
  have en : (last a l - a + len).toNat = k + ((last a l - a + len).toNat - k) := by omega
  rw [en, cnt_add, cnt_all fun x p q => ?_] at e
  · omega
  · show decide (held (win len (a :: l)) x % 2 = 1) = true
    have r : held (win len l) x = 0 := by
      have z : ∀ b ∈ l, x < b := by
        cases l with
        | nil => intro b hb; cases hb
        | cons b l =>
          have hb1 : x < b := by
            have : firstW len a (b :: l) = (if len < b - a then len else b - a) := rfl
            rw [this] at hk
            split at hk <;> omega
          intro c hc
          rcases List.mem_cons.mp hc with rfl | hc
          · exact hb1
          · have := (List.pairwise_cons.mp (List.pairwise_cons.mp h).2).1 c hc
            omega
      have p2 : ¬ (pos (win len l) x = true) := fun t => by
        obtain ⟨b, hb, q1, q2⟩ := (pos_win l len x).mp t
        have := z b hb
        omega
      have p3 : ¬ 0 < held (win len l) x := fun t => p2 (decide_eq_true t)
      omega
    show decide ((held (win len l) x + (if a ≤ x ∧ x < a + len then 1 else 0)) % 2 = 1) = true
    rw [r, if_pos ⟨p, by omega⟩]
    rfl
theorem held_one : ∀ {l : List Int} {x : Int}, Asc l → held (win 1 l) x ≤ 1
  | [], _, _ => Nat.zero_le _
  | a :: l, x, h => by
    have h1 := List.pairwise_cons.mp h
    have ih := held_one (x := x) h1.2
    show held (win 1 l) x + (if a ≤ x ∧ x < a + 1 then 1 else 0) ≤ 1
    by_cases p : a ≤ x ∧ x < a + 1
    · have z : ¬ (pos (win 1 l) x = true) := fun t => by
        obtain ⟨b, hb, q1, q2⟩ := (pos_win l 1 x).mp t
        have := h1.1 b hb
        omega
      have z2 : ¬ 0 < held (win 1 l) x := fun t => z (decide_eq_true t)
      rw [if_pos p]
      omega
    · rw [if_neg p]
      omega
theorem minS_one : ∀ {gs : List Int}, (∀ g ∈ gs, 1 ≤ g) → minS 1 gs = gs.length
  | [], _ => rfl
  | g :: gs, h => by
    show (if 1 < g then 1 else g) + minS 1 gs = ((gs.length + 1 : Nat) : Int)
    rw [minS_one fun x hx => h x (List.mem_cons_of_mem _ hx)]
    have := h g (List.mem_cons_self ..)
    split <;> omega
theorem gaps_len : ∀ (l : List Int) (a : Int), (gaps (a :: l)).length = l.length
  | [], _ => rfl
  | b :: l, a => by
    show (gaps (b :: l)).length + 1 = l.length + 1
    rw [gaps_len l b]
theorem odd_one {a : Int} {l : List Int} {v : Int} (h : Asc (a :: l)) (hv : OddOf (win 1 (a :: l)) v) : v = ((a :: l).length : Int) := by
  rw [hv a _ (within_win h (by omega))]
  have e : cnt (odd (win 1 (a :: l))) a (last a l - a + 1).toNat = cnt (pos (win 1 (a :: l))) a (last a l - a + 1).toNat := cnt_congr fun x _ _ => by
    have := held_one (x := x) h
    show decide (held (win 1 (a :: l)) x % 2 = 1) = decide (0 < held (win 1 (a :: l)) x)
    refine decide_eq_decide.mpr ?_
    omega
  rw [e, cov_cnt l a 1 h (by omega), minS_one fun g hg => (gap_le h g hg).1, gaps_len]
  show (1 : Int) + (l.length : Int) = ((l.length + 1 : Nat) : Int)
  omega
end SM

set_option linter.all false
set_option maxRecDepth 100000
set_option maxHeartbeats 4000000
/-! pieces between neighbouring ends -/
namespace SM
open RT
/-- the sum of the pieces at whose beginning f holds -/
def sumP (f : Int → Bool) : List Int → Int
  | [] => 0
  | [_] => 0
  | a :: b :: l => (if f a then b - a else 0) + sumP f (b :: l)
theorem cnt_pieces (f : Int → Bool) : ∀ (l : List Int) (a : Int), Asc (a :: l) → (∀ i x y, (a :: l)[i]? = some x → (a :: l)[i + 1]? = some y → ∀ z, x ≤ z → z < y → f z = f x) → (cnt f a (last a l - a).toNat : Int) = sumP f (a :: l)
  | [], a, _, _ => by
    have e : (last a [] - a).toNat = 0 := by show (a - a).toNat = 0; omega
    rw [e]
    rfl
  | b :: l, a, h, k => by
    have h1 := List.pairwise_cons.mp h
    have hab := h1.1 b (List.mem_cons_self ..)
    have hl := last_ge h1.2
    have ih := cnt_pieces f l b h1.2 fun i x y ex ey => k (i + 1) x y ex ey
    have e : (last a (b :: l) - a).toNat = (b - a).toNat + (last b l - b).toNat := by show (last b l - a).toNat = _; omega
    have ea : a + ((b - a).toNat : Int) = b := by omega
    have k0 := k 0 a b rfl rfl
    rw [e, cnt_add, ea]
    show ((cnt f a (b - a).toNat + cnt f b (last b l - b).toNat : Nat) : Int) = (if f a = true then b - a else 0) + sumP f (b :: l)
    cases hf : f a with
    | true =>
      rw [cnt_all fun x p q => by rw [k0 x p (by omega), hf], if_pos rfl, ← ih]
      omega
    | false =>
      rw [cnt_none fun x p q => by rw [k0 x p (by omega), hf], if_neg (by decide), ← ih]
      omega
/-- all ends stand in the list -/
def EndsIn (L : List Iv) (es : List Int) : Prop := ∀ p ∈ L, p.1 ∈ es ∧ p.2 ∈ es
theorem between {es : List Int} (h : Asc es) : ∀ {i : Nat} {x y : Int}, es[i]? = some x → es[i + 1]? = some y → ∀ c ∈ es, c ≤ x ∨ y ≤ c := by
  intro i x y ex ey c hc
  obtain ⟨j, hj, rfl⟩ := List.getElem_of_mem hc
  obtain ⟨hi, rfl⟩ := List.getElem?_eq_some_iff.mp ex
  obtain ⟨hi2, rfl⟩ := List.getElem?_eq_some_iff.mp ey
  have pw := List.pairwise_iff_getElem.mp h
  rcases Nat.lt_trichotomy j i with q | q | q
  · exact .inl (Int.le_of_lt (pw j i hj hi q))
  · subst q
    exact .inl (Int.le_refl _)
  · rcases Nat.lt_or_ge (i + 1) j with r | r
    · exact .inr (Int.le_of_lt (pw (i + 1) j hi2 hj r))
    · have : j = i + 1 := by omega
      subst this
      exact .inr (Int.le_refl _)
theorem held_const {es : List Int} (h : Asc es) {i : Nat} {x y : Int} (ex : es[i]? = some x) (ey : es[i + 1]? = some y) {z : Int} (z1 : x ≤ z) (z2 : z < y) : ∀ L : List Iv, EndsIn L es → held L z = held L x
  | [], _ => rfl
  | p :: L, k => by
    have ih := held_const h ex ey z1 z2 L fun q hq => k q (List.mem_cons_of_mem _ hq)
    obtain ⟨k1, k2⟩ := k p (List.mem_cons_self ..)
    have b1 := between h ex ey p.1 k1
    have b2 := between h ex ey p.2 k2
    show held L z + (if p.1 ≤ z ∧ z < p.2 then 1 else 0) = held L x + (if p.1 ≤ x ∧ x < p.2 then 1 else 0)
    rw [ih]
    by_cases q : p.1 ≤ x ∧ x < p.2
    · rw [if_pos q, if_pos (by omega)]
    · rw [if_neg q, if_neg (by omega)]
theorem within_ends {L : List Iv} {a : Int} {l : List Int} (h : Asc (a :: l)) (k : EndsIn L (a :: l)) : Within L a (last a l - a).toNat := by
  have hg := last_ge h
  intro p hp
  obtain ⟨k1, k2⟩ := k p hp
  have h1 : a ≤ p.1 := by
    rcases List.mem_cons.mp k1 with e | e
    · omega
    · have := (List.pairwise_cons.mp h).1 _ e
      omega
  have h2 := le_last h _ k2
  omega
theorem cov_pieces {L : List Iv} {es : List Int} {v : Int} (h : Asc es) (k : EndsIn L es) (hv : CovOf L v) : v = sumP (pos L) es := by
  cases es with
  | nil =>
    cases L with
    | nil => exact (hv 0 0 fun p hp => by cases hp).trans rfl
    | cons p L => exact absurd (k p (List.mem_cons_self ..)).1 (by simp)
  | cons a l =>
    rw [hv a _ (within_ends h k)]
    refine cnt_pieces (pos L) l a h fun i x y ex ey z z1 z2 => ?_
    unfold pos
    rw [held_const h ex ey z1 z2 L k]
theorem odd_pieces {L : List Iv} {es : List Int} {v : Int} (h : Asc es) (k : EndsIn L es) (hv : OddOf L v) : v = sumP (odd L) es := by
  cases es with
  | nil =>
    cases L with
    | nil => exact (hv 0 0 fun p hp => by cases hp).trans rfl
    | cons p L => exact absurd (k p (List.mem_cons_self ..)).1 (by simp)
  | cons a l =>
    rw [hv a _ (within_ends h k)]
    refine cnt_pieces (odd L) l a h fun i x y ex ey z z1 z2 => ?_
    unfold odd
    rw [held_const h ex ey z1 z2 L k]
theorem held_app (L M : List Iv) (x : Int) : held (L ++ M) x = held L x + held M x := by
  induction L with
  | nil => exact (Nat.zero_add _).symm
  | cons p L ih =>
    show held (L ++ M) x + _ = held L x + _ + held M x
    rw [ih]
    omega
theorem held_rev (L : List Iv) (x : Int) : held L.reverse x = held L x := by
  induction L with
  | nil => rfl
  | cons p L ih =>
    rw [List.reverse_cons, held_app, ih]
    show held L x + (0 + _) = held L x + _
    omega
theorem held_pos (L : List Iv) (x : Int) : 0 < held L x ↔ ∃ p ∈ L, p.1 ≤ x ∧ x < p.2 := by
  induction L with
  | nil => exact ⟨fun h => absurd h (Nat.lt_irrefl 0), fun ⟨p, hp, _⟩ => by cases hp⟩
  | cons p L ih =>
    show 0 < held L x + (if p.1 ≤ x ∧ x < p.2 then 1 else 0) ↔ _
    constructor
    · intro h
      by_cases q : p.1 ≤ x ∧ x < p.2
      · exact ⟨p, List.mem_cons_self .., q⟩
      · rw [if_neg q] at h
        obtain ⟨r, hr, e⟩ := ih.mp (by omega)
        exact ⟨r, List.mem_cons_of_mem _ hr, e⟩
    · rintro ⟨r, hr, e⟩
      rcases List.mem_cons.mp hr with rfl | hr
      · rw [if_pos e]
        omega
      · have := ih.mpr ⟨r, hr, e⟩
        omega
theorem cov_same {L M : List Iv} {v : Int} (h : ∀ p, p ∈ M ↔ p ∈ L) (hv : CovOf M v) : CovOf L v := fun lo n w => by
  rw [hv lo n fun p hp => w p ((h p).mp hp)]
  congr 1
  refine cnt_congr fun x _ _ => ?_
  unfold pos
  refine decide_eq_decide.mpr ?_
  rw [held_pos, held_pos]
  exact ⟨fun ⟨p, a, b⟩ => ⟨p, (h p).mp a, b⟩, fun ⟨p, a, b⟩ => ⟨p, (h p).mpr a, b⟩⟩
theorem odd_rev {L : List Iv} {v : Int} (hv : OddOf L.reverse v) : OddOf L v := fun lo n w => by
  rw [hv lo n fun p hp => w p (List.mem_reverse.mp hp)]
  congr 1
  refine cnt_congr fun x _ _ => ?_
  unfold odd
  rw [held_rev]
theorem span_all : ∀ L : List Iv, ∃ lo n, Within L lo n
  | [] => ⟨0, 0, fun p hp => by cases hp⟩
  | p :: L => by
    obtain ⟨lo, n, w⟩ := span_all L
    refine ⟨min lo p.1, (max (lo + n) p.2 - min lo p.1).toNat, fun q hq => ?_⟩
    rcases List.mem_cons.mp hq with rfl | hq
    · omega
    · have := w q hq
      omega
theorem odd_twice {L : List Iv} {v : Int} (hv : OddOf (L ++ L) v) : v = 0 := by
  obtain ⟨lo, n, w⟩ := span_all L
  rw [hv lo n fun p hp => w p (by rcases List.mem_append.mp hp with h | h <;> exact h), cnt_none fun x _ _ => ?_]
  · rfl
  · unfold odd
    rw [held_app]
    exact decide_eq_false (by omega)
/-- the pieces as pairs: how long, how many hold it -/
def pieces (L : List Iv) : List Int → List Iv
  | [] => []
  | [_] => []
  | a :: b :: l => (b - a, (held L a : Int)) :: pieces L (b :: l)
theorem pieces_len (L : List Iv) : ∀ es : List Int, (pieces L es).length = es.length - 1
  | [] => rfl
  | [_] => rfl
  | a :: b :: l => by
    show (pieces L (b :: l)).length + 1 = _
    rw [pieces_len L (b :: l)]
    simp
theorem pieces_at (L : List Iv) : ∀ (es : List Int) (i : Nat), (pieces L es)[i]? = (es[i]?).bind fun x => (es[i + 1]?).map fun y => (y - x, (held L x : Int))
  | [], i => by simp [pieces]
  | [a], i => by cases i <;> simp [pieces]
  | a :: b :: l, 0 => rfl
  | a :: b :: l, i + 1 => pieces_at L (b :: l) i
theorem pieces_pos (L : List Iv) : ∀ es : List Int, (((pieces L es).filter fun p => decide (p.2 > 0)).map (·.1)).sum = sumP (pos L) es
  | [] => rfl
  | [_] => rfl
  | a :: b :: l => by
    have ih := pieces_pos L (b :: l)
    show ((((b - a, (held L a : Int)) :: pieces L (b :: l)).filter fun p => decide (p.2 > 0)).map (·.1)).sum = (if pos L a = true then b - a else 0) + sumP (pos L) (b :: l)
    rw [← ih]
    by_cases q : 0 < held L a
    · rw [List.filter_cons_of_pos (by simpa using q), if_pos (by unfold pos; exact decide_eq_true q)]
      rfl
    · rw [List.filter_cons_of_neg (by simpa using q), if_neg (by unfold pos; simpa using q), Int.zero_add]
theorem pieces_odd (L : List Iv) : ∀ es : List Int, (((pieces L es).filter fun p => decide (p.2 % 2 = 1)).map (·.1)).sum = sumP (odd L) es
  | [] => rfl
  | [_] => rfl
  | a :: b :: l => by
    have ih := pieces_odd L (b :: l)
    show ((((b - a, (held L a : Int)) :: pieces L (b :: l)).filter fun p => decide (p.2 % 2 = 1)).map (·.1)).sum = (if odd L a = true then b - a else 0) + sumP (odd L) (b :: l)
    rw [← ih]
    by_cases q : held L a % 2 = 1
    · rw [List.filter_cons_of_pos (by rw [decide_eq_true_eq]; show ((held L a : Nat) : Int) % 2 = 1; omega), if_pos (by unfold odd; exact decide_eq_true q)]
      rfl
    · rw [List.filter_cons_of_neg (by rw [decide_eq_true_eq]; show ¬ ((held L a : Nat) : Int) % 2 = 1; omega), if_neg (by unfold odd; rw [decide_eq_true_eq]; exact q), Int.zero_add]
theorem held_len (L : List Iv) (x : Int) : (L.filter fun p => decide (p.1 ≤ x) && decide (x < p.2)).length = held L x := by
  induction L with
  | nil => rfl
  | cons p L ih =>
    show _ = held L x + (if p.1 ≤ x ∧ x < p.2 then 1 else 0)
    by_cases q : p.1 ≤ x ∧ x < p.2
    · rw [List.filter_cons_of_pos (by rw [decide_eq_true q.1, decide_eq_true q.2]; rfl), if_pos q, List.length_cons, ih]
    · rw [List.filter_cons_of_neg (by rw [Bool.and_eq_true, decide_eq_true_eq, decide_eq_true_eq]; exact q), if_neg q, ih]
      omega
/-- integer by integer -/
def heldL (L : List Iv) (lo : Int) (n : Nat) : List Int := (List.range n).map fun i : Nat => (held L (lo + (i : Int)) : Int)
theorem cov_small (L : List Iv) (lo : Int) : ∀ n, ((heldL L lo n).length : Int) - ((heldL L lo n).count 0 : Nat) = (cnt (pos L) lo n : Int)
  | 0 => rfl
  | n + 1 => by
    have ih := cov_small L lo n
    have e : heldL L lo (n + 1) = heldL L lo n ++ [(held L (lo + n) : Int)] := by
      unfold heldL
      rw [List.range_succ, List.map_append]
      rfl
    rw [e, List.length_append, List.count_append]
    show _ = ((cnt (pos L) lo n + (if pos L (lo + n) = true then 1 else 0) : Nat) : Int)
    have c : (List.count (0 : Int) [(held L (lo + n) : Int)]) = if 0 < held L (lo + n) then 0 else 1 := by
      by_cases q : 0 < held L (lo + n)
      · rw [if_pos q, List.count_eq_zero]
        intro z
        have := List.mem_singleton.mp z
        omega
      · rw [if_neg q, show held L (lo + n) = 0 by omega]
        rfl
    rw [c]
    by_cases q : 0 < held L (lo + n)
    · rw [if_pos q, if_pos (by unfold pos; exact decide_eq_true q)]
      simp only [List.length_singleton]
      omega
    · rw [if_neg q, if_neg (by unfold pos; rw [decide_eq_true_eq]; exact q)]
      simp only [List.length_singleton]
      omega
theorem odd_small (L : List Iv) (lo : Int) : ∀ n, ((heldL L lo n).map fun x => x % 2).sum = (cnt (odd L) lo n : Int)
  | 0 => rfl
  | n + 1 => by
    have ih := odd_small L lo n
    have e : heldL L lo (n + 1) = heldL L lo n ++ [(held L (lo + n) : Int)] := by
      unfold heldL
      rw [List.range_succ, List.map_append]
      rfl
    rw [e, List.map_append, List.sum_append, ih]
    show (cnt (odd L) lo n : Int) + ([(held L (lo + n) : Int) % 2]).sum = ((cnt (odd L) lo n + (if odd L (lo + n) = true then 1 else 0) : Nat) : Int)
    rw [List.sum_singleton]
    by_cases q : held L (lo + n) % 2 = 1
    · rw [if_pos (by unfold odd; exact decide_eq_true q)]
      omega
    · rw [if_neg (by unfold odd; rw [decide_eq_true_eq]; exact q)]
      omega
end SM

set_option linter.all false
set_option maxRecDepth 100000
set_option maxHeartbeats 4000000
/-! what a sweep over sorted intervals counts, and what sorted ends tell -/
namespace SM
open RT
theorem cnt_put {f g : Int → Bool} {lo : Int} {n : Nat} {m e : Int} (h1 : lo ≤ m) (h2 : m ≤ e) (h3 : e ≤ lo + n) (hin : ∀ x, m ≤ x → x < e → f x = false ∧ g x = true) (hout : ∀ x, x < m ∨ e ≤ x → g x = f x) :
    (cnt g lo n : Int) = cnt f lo n + (e - m) := by
  obtain ⟨a, ha⟩ : ∃ a : Nat, a = (m - lo).toNat := ⟨_, rfl⟩
  obtain ⟨b, hb⟩ : ∃ b : Nat, b = (e - m).toNat := ⟨_, rfl⟩
  obtain ⟨c, hc⟩ : ∃ c : Nat, n = a + (b + c) := ⟨n - a - b, by omega⟩
  have e1 : lo + (a : Int) = m := by omega
  have e2 : m + (b : Int) = e := by omega
  rw [hc, cnt_add, cnt_add f, e1, cnt_add, cnt_add f, e2]
  rw [cnt_congr (f := g) (g := f) (lo := lo) (n := a) fun x p q => hout x (.inl (by omega)), cnt_congr (f := g) (g := f) (lo := e) (n := c) fun x p q => hout x (.inr p),
    cnt_all (f := g) (lo := m) (n := b) fun x p q => (hin x p (by omega)).2, cnt_none (f := f) (lo := m) (n := b) fun x p q => (hin x p (by omega)).1]
  omega
theorem pos_app (L : List Iv) (p : Iv) (x : Int) : pos (L ++ [p]) x = (pos L x || decide (p.1 ≤ x ∧ x < p.2)) := by
  unfold pos
  rw [held_app]
  show decide (0 < held L x + (0 + if p.1 ≤ x ∧ x < p.2 then 1 else 0)) = _
  by_cases q : p.1 ≤ x ∧ x < p.2
  · rw [if_pos q, decide_eq_true q, Bool.or_true]
    exact decide_eq_true (by omega)
  · rw [if_neg q, decide_eq_false q, Bool.or_false]
    rfl
theorem pos_no {L : List Iv} {x b : Int} (h : ∀ q ∈ L, q.2 ≤ b) (hx : b ≤ x) : pos L x = false := by
  refine decide_eq_false fun z => ?_
  obtain ⟨q, hq, _, e⟩ := (held_pos L x).mp z
  have := h q hq
  omega
theorem within_app {L : List Iv} {p : Iv} {lo : Int} {n : Nat} (w : Within (L ++ [p]) lo n) : Within L lo n ∧ lo ≤ p.1 ∧ p.2 ≤ lo + n :=
  ⟨fun q hq => w q (List.mem_append.mpr (.inl hq)), w p (List.mem_append.mpr (.inr (List.mem_singleton.mpr rfl)))⟩
/-- an interval more, which goes beyond b -/
theorem cov_more {L : List Iv} {p : Iv} {v b : Int} (hv : CovOf L v) (h1 : p.1 ≤ b) (hle : ∀ q ∈ L, q.2 ≤ b) (hq : ∀ x, p.1 ≤ x → x < b → pos L x = true) (h2 : b < p.2) : CovOf (L ++ [p]) (v + (p.2 - b)) := fun lo n w => by
  obtain ⟨w1, w2, w3⟩ := within_app w
  rw [hv lo n w1]
  refine (cnt_put (f := pos L) (g := pos (L ++ [p])) (m := b) (e := p.2) (by omega) (by omega) w3 (fun x a c => ⟨pos_no hle a, ?_⟩) fun x hx => ?_).symm
  · rw [pos_app, decide_eq_true (show p.1 ≤ x ∧ x < p.2 by omega), Bool.or_true]
  · rw [pos_app]
    by_cases z : p.1 ≤ x ∧ x < p.2
    · rw [hq x z.1 (by omega), Bool.true_or]
    · rw [decide_eq_false z, Bool.or_false]
/-- .. which doesn't -/
theorem cov_less {L : List Iv} {p : Iv} {v b : Int} (hv : CovOf L v) (hq : ∀ x, p.1 ≤ x → x < b → pos L x = true) (h2 : p.2 ≤ b) : CovOf (L ++ [p]) v := fun lo n w => by
  obtain ⟨w1, w2, w3⟩ := within_app w
  rw [hv lo n w1]
  congr 1
  refine cnt_congr fun x _ _ => ?_
  rw [pos_app]
  by_cases z : p.1 ≤ x ∧ x < p.2
  · rw [hq x z.1 (by omega), Bool.true_or]
  · rw [decide_eq_false z, Bool.or_false]
theorem cov_zero : CovOf [] 0 := fun lo n _ => by
  rw [cnt_none (f := pos []) fun x _ _ => rfl]
  rfl
/-- every second difference -/
def alt : List Int → Int
  | a :: b :: r => (b - a) + alt r
  | _ => 0
def endsOf (L : List Iv) : List Int := L.flatMap fun p => [p.1, p.2]
theorem upto_cons (a : Int) (l : List Int) (x : Int) : upto (a :: l) x = upto l x + (if a ≤ x then 1 else 0) := rfl
theorem upto_perm {s t : List Int} (h : s.Perm t) (x : Int) : upto s x = upto t x := by
  induction h with
  | nil => rfl
  | cons a _ ih => rw [upto_cons, upto_cons, ih]
  | swap a b l =>
    rw [upto_cons, upto_cons, upto_cons, upto_cons]
    omega
  | trans _ _ h1 h2 => exact h1.trans h2
theorem held_upto : ∀ {L : List Iv}, (∀ p ∈ L, p.1 < p.2) → ∀ x : Int, held L x % 2 = upto (endsOf L) x % 2
  | [], _, x => rfl
  | p :: L, h, x => by
    have ih := held_upto (fun q hq => h q (List.mem_cons_of_mem _ hq)) x
    have hp := h p (List.mem_cons_self ..)
    show (held L x + (if p.1 ≤ x ∧ x < p.2 then 1 else 0)) % 2 = upto (p.1 :: p.2 :: endsOf L) x % 2
    rw [upto_cons, upto_cons]
    by_cases a : p.1 ≤ x
    · by_cases b : p.2 ≤ x
      · rw [if_neg (show ¬ (p.1 ≤ x ∧ x < p.2) by omega), if_pos a, if_pos b]
        omega
      · rw [if_pos (show p.1 ≤ x ∧ x < p.2 by omega), if_pos a, if_neg b]
        omega
    · rw [if_neg (show ¬ (p.1 ≤ x ∧ x < p.2) by omega), if_neg a, if_neg (show ¬ p.2 ≤ x by omega)]
      omega
theorem alt_cnt : ∀ (s : List Int) (lo : Int) (n : Nat), s.Pairwise (· ≤ ·) → s.length % 2 = 0 → (∀ x ∈ s, lo ≤ x ∧ x ≤ lo + n) → (cnt (fun x => decide (upto s x % 2 = 1)) lo n : Int) = alt s
  | [], lo, n, _, _, _ => by
    rw [cnt_none (f := fun x => decide (upto [] x % 2 = 1)) fun x _ _ => rfl]
    rfl
  | [a], lo, n, _, h, _ => by cases h
  | a :: b :: r, lo, n, hs, hl, hw => by
    have h1 := List.pairwise_cons.mp hs
    have h2 := List.pairwise_cons.mp h1.2
    have hab := h1.1 b (List.mem_cons_self ..)
    have ih := alt_cnt r lo n h2.2 (by
      have : (a :: b :: r).length = r.length + 2 := rfl
      omega) fun x hx => hw x (List.mem_cons_of_mem _ (List.mem_cons_of_mem _ hx))
    have wa := hw a (List.mem_cons_self ..)
    have wb := hw b (List.mem_cons_of_mem _ (List.mem_cons_self ..))
    show _ = (b - a) + alt r
    rw [← ih, cnt_put (f := fun x => decide (upto r x % 2 = 1)) (g := fun x => decide (upto (a :: b :: r) x % 2 = 1)) (m := a) (e := b) wa.1 hab wb.2 (fun x p q => ?_) fun x hx => ?_]
    · omega
    · have z : upto r x = 0 := upto_none fun c hc => by
        have := h2.1 c hc
        omega
      rw [upto_cons, upto_cons, z, if_pos p, if_neg (by omega)]
      exact ⟨rfl, rfl⟩
    · show decide (upto (a :: b :: r) x % 2 = 1) = decide (upto r x % 2 = 1)
      refine decide_eq_decide.mpr ?_
      rw [upto_cons, upto_cons]
      rcases hx with hx | hx
      · rw [if_neg (by omega), if_neg (by omega)]
        omega
      · rw [if_pos hx, if_pos (by omega)]
        omega
theorem endsOf_len (L : List Iv) : (endsOf L).length = 2 * L.length := by
  induction L with
  | nil => rfl
  | cons p L ih =>
    show (p.1 :: p.2 :: endsOf L).length = _
    rw [List.length_cons, List.length_cons, ih, List.length_cons]
    omega
theorem odd_alt {L : List Iv} {s : List Int} (h : ∀ p ∈ L, p.1 < p.2) (hp : s.Perm (endsOf L)) (hs : s.Pairwise (· ≤ ·)) : OddOf L (alt s) := fun lo n w => by
  rw [← alt_cnt s lo n hs (by rw [hp.length_eq, endsOf_len]; omega) fun x hx => ?_]
  · congr 1
    refine cnt_congr fun x _ _ => ?_
    unfold odd
    rw [held_upto h, upto_perm hp]
  · obtain ⟨p, hpL, hxp⟩ := List.mem_flatMap.mp (hp.mem_iff.mp hx)
    have h1 := w p hpL
    have h2 := h p hpL
    rcases List.mem_cons.mp hxp with rfl | hxp
    · omega
    · rw [List.mem_singleton.mp hxp]
      omega
theorem alt_zip : ∀ s : List Int, s.length % 2 = 0 → (List.zipWith (fun a b => b - a) (ev s) (ev s.tail)).sum = alt s
  | [], _ => rfl
  | [a], h => by cases h
  | a :: b :: r, h => by
    have ih := alt_zip r (by
      have : (a :: b :: r).length = r.length + 2 := rfl
      omega)
    cases r with
    | nil => rfl
    | cons c r =>
      show (List.zipWith (fun a b => b - a) (a :: ev (c :: r)) (b :: ev r)).sum = (b - a) + alt (c :: r)
      rw [List.zipWith_cons_cons, List.sum_cons, ← ih]
      rfl
end SM

set_option linter.all false
set_option maxRecDepth 100000
set_option maxHeartbeats 4000000
/-! the values that stand an odd number of times -/
namespace SM
open RT
def tog (a : Int) (l : List Int) : List Int := if a ∈ l then l.erase a else a :: l
def odds : List Int → List Int
  | [] => []
  | a :: l => tog a (odds l)
theorem tog_nodup {a : Int} {l : List Int} (h : l.Nodup) : (tog a l).Nodup := by
  unfold tog
  by_cases q : a ∈ l
  · rw [if_pos q]
    exact h.erase a
  · rw [if_neg q]
    exact List.nodup_cons.mpr ⟨q, h⟩
theorem odds_nodup : ∀ l : List Int, (odds l).Nodup
  | [] => List.nodup_nil
  | a :: l => tog_nodup (odds_nodup l)
theorem mem_tog {a k : Int} {l : List Int} (h : l.Nodup) : k ∈ tog a l ↔ if k = a then ¬ a ∈ l else k ∈ l := by
  unfold tog
  by_cases q : a ∈ l
  · rw [if_pos q]
    by_cases e : k = a
    · subst e
      rw [if_pos rfl]
      exact ⟨fun z => absurd rfl ((List.Nodup.mem_erase_iff h).mp z).1, fun z => absurd q z⟩
    · rw [if_neg e]
      exact ⟨fun z => ((List.Nodup.mem_erase_iff h).mp z).2, fun z => (List.Nodup.mem_erase_iff h).mpr ⟨e, z⟩⟩
  · rw [if_neg q]
    by_cases e : k = a
    · subst e
      rw [if_pos rfl]
      exact ⟨fun _ => q, fun _ => List.mem_cons_self ..⟩
    · rw [if_neg e, List.mem_cons]
      exact ⟨fun z => z.resolve_left e, .inr⟩
theorem mem_odds (k : Int) : ∀ l : List Int, k ∈ odds l ↔ l.count k % 2 = 1
  | [] => by simp [odds]
  | a :: l => by
    have ih := mem_odds k l
    show k ∈ tog a (odds l) ↔ _
    rw [mem_tog (odds_nodup l)]
    by_cases e : k = a
    · subst e
      rw [if_pos rfl, ih, List.count_cons_self]
      omega
    · rw [if_neg e, ih, List.count_cons_of_ne (fun z => e z.symm)]
theorem upto_tog (a : Int) (l : List Int) (x : Int) : upto (tog a l) x % 2 = (upto l x + (if a ≤ x then 1 else 0)) % 2 := by
  unfold tog
  by_cases q : a ∈ l
  · rw [if_pos q, upto_perm (List.perm_cons_erase q) x, upto_cons]
    split <;> omega
  · rw [if_neg q, upto_cons]
theorem upto_odds (x : Int) : ∀ l : List Int, upto (odds l) x % 2 = upto l x % 2
  | [] => rfl
  | a :: l => by
    have ih := upto_odds x l
    show upto (tog a (odds l)) x % 2 = _
    rw [upto_tog, upto_cons]
    omega
theorem len_tog (a : Int) (l : List Int) : (tog a l).length % 2 = (l.length + 1) % 2 := by
  unfold tog
  by_cases q : a ∈ l
  · have h1 := List.length_erase_of_mem q
    have h2 := List.length_pos_of_mem q
    rw [if_pos q]
    omega
  · rw [if_neg q, List.length_cons]
theorem len_odds : ∀ l : List Int, (odds l).length % 2 = l.length % 2
  | [] => rfl
  | a :: l => by
    have ih := len_odds l
    show (tog a (odds l)).length % 2 = (l.length + 1) % 2
    rw [len_tog]
    omega
theorem len_tog_le (a : Int) (l : List Int) : (tog a l).length ≤ l.length + 1 := by
  unfold tog
  split
  · have := List.length_erase_le (a := a) (l := l)
    omega
  · exact Nat.le_refl _
theorem odds_le : ∀ l : List Int, (odds l).length ≤ l.length
  | [] => Nat.le_refl _
  | a :: l => Nat.le_trans (len_tog_le a _) (Nat.succ_le_succ (odds_le l))
/-- sorted values that stand an odd number of times among the ends: every second difference -/
theorem odd_alt2 {L : List Iv} {s : List Int} (h : ∀ p ∈ L, p.1 < p.2) (nd : s.Nodup) (hm : ∀ k, k ∈ s ↔ (endsOf L).count k % 2 = 1) (hs : s.Pairwise (· ≤ ·)) : OddOf L (alt s) ∧ s.length % 2 = 0 ∧ s.length ≤ 2 * L.length := by
  have perm : s.Perm (odds (endsOf L)) := (List.perm_ext_iff_of_nodup nd (odds_nodup _)).mpr fun k => (hm k).trans (mem_odds k _).symm
  have even : s.length % 2 = 0 := by
    rw [perm.length_eq, len_odds, endsOf_len]
    omega
  refine ⟨fun lo n w => ?_, even, ?_⟩
  · rw [← alt_cnt s lo n hs even fun x hx => ?_]
    · congr 1
      refine cnt_congr fun x _ _ => ?_
      unfold odd
      rw [held_upto h, upto_perm perm, upto_odds]
    · have hc : 0 < (endsOf L).count x := by
        have := (hm x).mp hx
        omega
      obtain ⟨p, hpL, hxp⟩ := List.mem_flatMap.mp (List.count_pos_iff.mp hc)
      have h1 := w p hpL
      have h2 := h p hpL
      rcases List.mem_cons.mp hxp with rfl | hxp
      · omega
      · rw [List.mem_singleton.mp hxp]
        omega
  · have h1 := odds_le (endsOf L)
    rw [endsOf_len] at h1
    rw [perm.length_eq]
    exact h1
end SM

set_option Elab.async false
set_option linter.all false
set_option maxRecDepth 100000
set_option maxHeartbeats 8000000
set_option exponentiation.threshold 600
namespace K45
open PySem PySem.Spec PyProof.Rows L2 RT TT PC
variable {P : Program} {w : World} {K : PySem.W.Frag} {mg : Str → Option Value} {base : Heap}
theorem big2 : 2 ≤ sizeLine := by decide
theorem big3 : 3 ≤ sizeLine := by decide
theorem same_new {H : Hp} {p : Addr} {o : HO} (h : H p = none) : Same H (upd H p o) := fun b x e => by
  rw [upd_ne (ne_of_none e h)]
  exact e
theorem tupT {K : PySem.W.Frag} {H : Hp} {a : Addr} {xs : List V} (h : H a = some (.tup xs)) : SqT K H a xs := .inl (.inl h)
theorem lstL {K : PySem.W.Frag} {H : Hp} {a : Addr} {xs : List V} (h : H a = some (.lst xs)) : SqL K H a xs := .inl (.inl h)
theorem Same.sqt {K : PySem.W.Frag} {H H' : Hp} {a : Addr} {xs : List V} (e : Same H H') (h : SqT K H a xs) : SqT K H' a xs := by
  rcases h with (h | ⟨o, h⟩) | h
  · exact .inl (.inl (e _ _ h))
  · exact .inl (.inr ⟨o, e _ _ h⟩)
  · exact .inr h
theorem same_sql {K : PySem.W.Frag} {H H' : Hp} {a : Addr} {xs : List V} (e : Same H H') (h : SqL K H a xs) : SqL K H' a xs := by
  rcases h with (h | ⟨o, h⟩) | h
  · exact .inl (.inl (e _ _ h))
  · exact .inl (.inr ⟨o, e _ _ h⟩)
  · exact .inr h
/-- all but the thing at t is as it was -/
def Keep (t : Addr) (H H' : Hp) : Prop := ∀ b o, b ≠ t → H b = some o → H' b = some o
theorem Keep.refl (t : Addr) (H : Hp) : Keep t H H := fun _ _ _ h => h
theorem Keep.trans {t : Addr} {H H1 H2 : Hp} (a : Keep t H H1) (b : Keep t H1 H2) : Keep t H H2 := fun c o n h => b c o n (a c o n h)
theorem Same.keep {t : Addr} {H H' : Hp} (e : Same H H') : Keep t H H' := fun b o _ h => e b o h
theorem keep_upd {t : Addr} {H : Hp} {o : HO} : Keep t H (upd H t o) := fun b u n h => by
  rw [upd_ne n]
  exact h
theorem kit_ii {K : PySem.W.Frag} : PySem.W.kitOne K (.type "int") (.type "int") = some true := kit_ty (by decide +kernel)
theorem kit_ib {K : PySem.W.Frag} : PySem.W.kitOne K (.type "int") (.type "bool") = some false := kit_ty (by decide +kernel)
theorem kit_tt {K : PySem.W.Frag} : PySem.W.kitOne K (.type "tuple") (.type "tuple") = some true := kit_ty (by decide +kernel)
theorem kit_ll {K : PySem.W.Frag} : PySem.W.kitOne K (.type "list") (.type "list") = some true := kit_ty (by decide +kernel)
theorem ty_list {H : Hp} {a : Addr} {xs : List V} (h : SqL K H a xs) : TyY K H (.ref a) (.type "list") := by
  rcases h with (h | ⟨o, h⟩) | ⟨o, its, n, hk, hc, _⟩
  · exact .base (.base (.lst h))
  · exact .base (.base (.frz h))
  · exact .base (.kList hk hc)
/-- a row at an address -/
abbrev Row (H : Hp) (a : Addr) (k : List Int) : Prop := H a = some (.tup (k.map V.int))
theorem dec_i (a b : Int) : decide (V.int a = V.int b) = decide (a = b) := by
  refine decide_eq_decide.mpr ⟨fun h => ?_, fun h => by rw [h]⟩
  injection h with h
theorem ite_t {c : Bool} {A B : Prop} (e : c = true) (h : A) : if c = true then A else B := by
  rw [e]
  exact iteT h
theorem ite_f {c : Bool} {A B : Prop} (e : c = false) (h : B) : if c = true then A else B := by
  rw [e]
  exact iteF h
theorem row_k {H : Hp} {a : Addr} {k : List Int} (h : Row H a k) : H a = some (.tup ((kI k).map kV)) := by
  rw [kI_V]
  exact h
/-- a list of rows at a -/
def Rws (K : PySem.W.Frag) (H : Hp) (a : Addr) (L : List (Addr × List Int)) : Prop := SqL K H a (L.map fun q => V.ref q.1) ∧ ∀ q ∈ L, Row H q.1 q.2
theorem Rws.same {K : PySem.W.Frag} {H H' : Hp} {a : Addr} {L : List (Addr × List Int)} (h : Rws K H a L) (e : Same H H') : Rws K H' a L := ⟨same_sql e h.1, fun q hq => e _ _ (h.2 q hq)⟩
theorem Rws.at {K : PySem.W.Frag} {H : Hp} {a : Addr} {L : List (Addr × List Int)} (h : Rws K H a L) {i : Nat} {x : V} (hx : (L.map fun q => V.ref q.1)[i]? = some x) : ∃ q, L[i]? = some q ∧ x = .ref q.1 ∧ Row H q.1 q.2 := by
  rw [List.getElem?_map] at hx
  obtain ⟨q, hq, rfl⟩ := Option.map_eq_some_iff.mp hx
  exact ⟨q, hq, rfl, h.2 q (List.mem_of_getElem? hq)⟩
theorem take_row {L : List (Addr × List Int)} {i : Nat} {q : Addr × List Int} (h : L[i]? = some q) : L.take (i + 1) = L.take i ++ [q] := by
  rw [List.take_succ, h]
  rfl
theorem size_lt {n m : Nat} (h : n ≤ m) (hm : m < 100000) : n < sizeLine := Nat.lt_of_lt_of_le (show n < 100001 by omega) (by decide)
theorem put_len {α : Type} [DecidableEq α] (M : List (α × V)) (k : α) (v : V) : (putK M k v).length ≤ M.length + 1 := by
  unfold putK
  split
  · rw [List.length_map]
    omega
  · rw [List.length_append]
    exact Nat.le_refl _
theorem dI_len (M : List (List Int × V)) : (dI M).length = M.length := List.length_map ..
/-- a list of rows that is new -/
def NewRws (H' : Hp) (p : Addr) (L : List (Addr × List Int)) : Prop := H' p = some (.lst (L.map fun q => V.ref q.1)) ∧ ∀ q ∈ L, Row H' q.1 q.2
theorem NewRws.rws {K : PySem.W.Frag} {H' : Hp} {p : Addr} {L : List (Addr × List Int)} (h : NewRws H' p L) : Rws K H' p L := ⟨lstL h.1, h.2⟩
theorem kit_tu {K : PySem.W.Frag} : PySem.W.kitOne K (.type "tuple") (.type "tuple") = some true := kit_ty (by decide +kernel)
/-- a dict comprehension over a walk -/
theorem dcT_it {J : It} {n : Nat} {G : Hp → Prop} {Y : Nat → Hp → V → Hp → Prop} (w : Walk J n G Y) {g : TG} {tt : TT} {tk tv : TE} {vs : List Nat} {σ : L2.St} {H1 : Hp} {D : Addr} {Qd : Hp → Prop} (Pv : Nat → Hp → Prop) (h0 : Pv 0 (upd H1 D (.dT []))) (hG : ∀ i H, i ≤ n → Pv i H → G H)
    (hs : ∀ i x H H', i < n → Pv i H → Y i H x H' → g x (wipe σ vs) H' fun σ2 H2 => wipe σ2 vs = wipe σ vs ∧ tt σ2 H2 fun b H3 =>
      if b = true then tk σ2 H3 fun y H4 => tv σ2 H4 fun z H5 => ∃ kvs k c, y = .ref c ∧ H5 c = some (.tup (k.map kV)) ∧ H5 D = some (.dT kvs) ∧ kvs.length < sizeLine ∧ Pv (i + 1) (upd H5 D (.dT (putK kvs k z))) else Pv (i + 1) H3) (hd : ∀ H, Pv n H → Qd H) :
    ∃ W : Nat → Nat → Hp → Prop, (∃ m, W 0 m (upd H1 D (.dT []))) ∧ ∀ i m H, W i m H →
      (J.stop i H ∧ Qd H) ∨ (J.go i H ∧ ∃ Nx : Hp → Prop, (∀ H', Nx H' → ∃ m', m' < m ∧ W (i + 1) m' H') ∧ ∀ x H', J.yld i H x H' → g x (wipe σ vs) H' fun σ2 H2 => wipe σ2 vs = wipe σ vs ∧ tt σ2 H2 fun b H3 =>
        if b = true then tk σ2 H3 fun y H4 => tv σ2 H4 fun z H5 => ∃ kvs k c, y = .ref c ∧ H5 c = some (.tup (k.map kV)) ∧ H5 D = some (.dT kvs) ∧ kvs.length < sizeLine ∧ Nx (upd H5 D (.dT (putK kvs k z))) else Nx H3) := by
  refine ⟨fun i m H => m = n - i ∧ i ≤ n ∧ Pv i H, ⟨n, by simp, Nat.zero_le _, h0⟩, ?_⟩
  rintro i m H ⟨rfl, hi, p⟩
  have q := hG i H hi p
  by_cases hlt : i < n
  · refine .inr ⟨w.goes i H hlt q, Pv (i + 1), fun H' p' => ⟨n - (i + 1), by omega, rfl, hlt, p'⟩, fun x H' y => hs i x H H' hlt p (w.yields i H x H' hlt q y)⟩
  · have e : i = n := by omega
    subst e
    exact .inl ⟨w.stops H q, hd H p⟩
/-- edges, each once -/
def Edges (L : List (Addr × List Int)) : Prop := (∀ q ∈ L, EdgeR q.2) ∧ (L.map (·.2)).Nodup ∧ L.length ≤ 1228
/-- a Picture at a, its edges L ascending -/
def IsPic (K : PySem.W.Frag) (H : Hp) (a : Addr) (L : List (Addr × List Int)) : Prop := ∃ d t h M, H a = some (.ins (He.ga K "Picture") d [("_edges", .ref t), ("_has", .ref h)]) ∧ H t = some (.tup (L.map fun q => V.ref q.1)) ∧ (∀ q ∈ L, Row H q.1 q.2) ∧
  Asc (L.map (·.2)) ∧ Edges L ∧ H h = some (.dT (dI M)) ∧ ∀ k, (valV M k).isSome = true ↔ k ∈ L.map (·.2)
theorem IsPic.same {K : PySem.W.Frag} {H H' : Hp} {a : Addr} {L : List (Addr × List Int)} (p : IsPic K H a L) (e : Same H H') : IsPic K H' a L := by
  obtain ⟨d, t, h, M, h1, h2, h3, h4, h5, h6, h7⟩ := p
  exact ⟨d, t, h, M, e _ _ h1, e _ _ h2, fun q hq => e _ _ (h3 q hq), h4, h5, e _ _ h6, h7⟩
/-- any body over a walk -/
theorem walk_it {J : It} {n : Nat} {G : Hp → Prop} {Y : Nat → Hp → V → Hp → Prop} (w : Walk J n G Y) {Bd : V → Hp → (Hp → Prop) → Prop} {H0 : Hp} {Qd : Hp → Prop} (Pv : Nat → Hp → Prop) (h0 : Pv 0 H0) (hG : ∀ i H, i ≤ n → Pv i H → G H)
    (hs : ∀ i x H H', i < n → Pv i H → Y i H x H' → Bd x H' (Pv (i + 1))) (hd : ∀ H, Pv n H → Qd H) :
    ∃ W : Nat → Nat → Hp → Prop, (∃ m, W 0 m H0) ∧ ∀ i m H, W i m H → (J.stop i H ∧ Qd H) ∨ (J.go i H ∧ ∃ Nx : Hp → Prop, (∀ H', Nx H' → ∃ m', m' < m ∧ W (i + 1) m' H') ∧ ∀ x H', J.yld i H x H' → Bd x H' Nx) := by
  refine ⟨fun i m H => m = n - i ∧ i ≤ n ∧ Pv i H, ⟨n, by simp, Nat.zero_le _, h0⟩, ?_⟩
  rintro i m H ⟨rfl, hi, p⟩
  have q := hG i H hi p
  by_cases hlt : i < n
  · refine .inr ⟨w.goes i H hlt q, Pv (i + 1), fun H' p' => ⟨n - (i + 1), by omega, rfl, hlt, p'⟩, fun x H' y => hs i x H H' hlt p (w.yields i H x H' hlt q y)⟩
  · have e : i = n := by omega
    subst e
    exact .inl ⟨w.stops H q, hd H p⟩
/-- the state of a cell's draws: digits, a number, a counter -/
def Tk (H : Hp) (t : Addr) (c : Nat) : Prop := ∃ A B : Int, H t = some (.lst [.int A, .int B, .int c]) ∧ 0 ≤ A ∧ 0 ≤ B ∧ B < 10000000000000000000000000000000000000000000000
theorem Tk.same {H H' : Hp} {t : Addr} {c : Nat} (h : Tk H t c) (e : Same H H') : Tk H' t c := by
  obtain ⟨A, B, h1, h2⟩ := h
  exact ⟨A, B, e _ _ h1, h2⟩
theorem p18 : (10 : Int) ^ ((18 : Int).toNat) = 1000000000000000000 := by decide
theorem p42 : (10 : Int) ^ ((42 : Int).toNat) = 1000000000000000000000000000000000000000000 := by decide
theorem p45 : (10 : Int) ^ ((45 : Int).toNat) = 1000000000000000000000000000000000000000000000 := by decide
theorem p46 : (10 : Int) ^ ((46 : Int).toNat) = 10000000000000000000000000000000000000000000000 := by decide
theorem pw_ok {j : Int} (h0 : 0 ≤ j) (h : j ≤ 1000000) : CPow 10 j := ⟨h0, h, by decide⟩
theorem bits_le {i : Int} {n : Nat} (hn : 0 < n) (h : i.natAbs < 2 ^ n) : Builtin.Int.intBits i ≤ n := by
  have h2 := PySem.Flt.log2_lt_of hn h
  unfold Builtin.Int.intBits
  split <;> omega
theorem cube_ok {i : Int} (h0 : 0 ≤ i) (h : i < 2 ^ 200) : CPowW i 3 := by
  have b : Builtin.Int.intBits i ≤ 200 := bits_le (by decide) (by omega)
  refine ⟨by decide, ?_⟩
  have e : ((Builtin.Int.intBits i : Nat) : Int) ≤ 200 := by omega
  omega
theorem mem_put {M : List (List Int × V)} {k : List Int} {v : V} {Pk : List Int → Prop} (h : ∀ p ∈ M, Pk p.1) (hk : Pk k) : ∀ p ∈ putK M k v, Pk p.1 := fun p hp => by
  unfold putK at hp
  split at hp
  · obtain ⟨r, hr, rfl⟩ := List.mem_map.mp hp
    by_cases e : r.1 = k
    · rw [if_pos e]
      exact h r hr
    · rw [if_neg e]
      exact h r hr
  · rcases List.mem_append.mp hp with hp | hp
    · exact h p hp
    · rw [List.mem_singleton.mp hp]
      exact hk
theorem mem_drop {M : List (List Int × V)} {k : List Int} {Pk : List Int → Prop} (h : ∀ p ∈ M, Pk p.1) : ∀ p ∈ dropK M k, Pk p.1 := fun p hp => by
  unfold dropK at hp
  exact h p (List.mem_filter.mp hp).1
theorem Keep.rws {K : PySem.W.Frag} {d : Addr} {H H' : Hp} {a : Addr} {L : List (Addr × List Int)} (k : Keep d H H') (hd : ∀ xs, H d ≠ some (.tup xs) ) (ha : ∀ xs, H d ≠ some (.lst xs)) (hf : ∀ o u, H d ≠ some (.frz o u)) (h : Rws K H a L) : Rws K H' a L := by
  refine ⟨?_, fun r hr => ?_⟩
  · rcases h.1 with (h | ⟨o, h⟩) | h
    · exact .inl (.inl (k _ _ (fun z => ha _ (z ▸ h)) h))
    · exact .inl (.inr ⟨o, k _ _ (fun z => hf _ _ (z ▸ h)) h⟩)
    · exact .inr h
  · have z : H r.1 = some (.tup (r.2.map V.int)) := h.2 r hr
    exact k _ _ (fun y => hd _ (y ▸ z)) z
/-- a if x == j else b, both the same value -/
theorem tIf_eq {σ : L2.St} {H : Hp} {Q : VK} {i : Nat} {n j : Int} {ta tb : TE} (hv : σ[i]? = some (some (.int n))) (Gd : VK → Prop) (h1 : n = j → ∀ Q, Gd Q → ta σ H Q) (h2 : n ≠ j → ∀ Q, Gd Q → tb σ H Q) (q : Gd Q) : tIf (tTest (tOp rEq (tVar i) (tC (.int j)))) ta tb σ H Q := by
  refine ⟨_, hv, rfl, _, rfl, ite2 (fun e => ?_) (fun e => ?_)⟩
  · have e2 := of_decide_eq_true e
    injection e2 with e3
    exact h1 e3 Q q
  · exact h2 (fun z => e (by rw [z]; exact decide_eq_true rfl)) Q q
/-- if x == j: .. -/
theorem sIf_eq {σ : L2.St} {H : Hp} {D : Ends} {i : Nat} {n j : Int} {tb : TS} (hv : σ[i]? = some (some (.int n))) (Post : L2.St → Hp → Prop) (h1 : n = j → ∀ D' : Ends, (∀ σ' H', Post σ' H' → D'.nx σ' H') → tb D' σ H) (h2 : n ≠ j → Post σ H) (q : ∀ σ' H', Post σ' H' → D.nx σ' H') :
    tIfS (tTest (tOp rEq (tVar i) (tC (.int j)))) tb tNext D σ H := by
  refine ⟨_, hv, rfl, _, rfl, ite2 (fun e => ?_) (fun e => ?_)⟩
  · have e2 := of_decide_eq_true e
    injection e2 with e3
    exact h1 e3 D q
  · exact q _ _ (h2 (fun z => e (by rw [z]; exact decide_eq_true rfl)))
/-- an edge not far out -/
def Ek (k : List Int) : Prop := EdgeR k ∧ ∀ n ∈ k, n.natAbs ≤ 2000
theorem ek_of {x y s : Int} (hs : s = 0 ∨ s = 1) (hx : x.natAbs ≤ 2000) (hy : y.natAbs ≤ 2000) : Ek [x, y, s] := by
  refine ⟨⟨x, y, s, rfl, hs⟩, fun n hn => ?_⟩
  simp only [List.mem_cons, List.not_mem_nil, or_false] at hn
  rcases hn with rfl | rfl | rfl
  · exact hx
  · exact hy
  · omega
theorem Keep.fresh {t f : Addr} {H H' H'' : Hp} (hf : H f = none) (a : Keep t H H') (b : Keep f H' H'') : Keep t H H'' := fun c o n h => b c o (ne_of_none h hf) (a c o n h)
theorem Keep.tk {t f : Addr} {H H' : Hp} {c : Nat} (h : Tk H t c) (n : t ≠ f) (k : Keep f H H') : Tk H' t c := by
  obtain ⟨A, B, h1, h2⟩ := h
  exact ⟨A, B, k _ _ n h1, h2⟩
theorem Keep.back {t f : Addr} {H H' : Hp} (k : Keep t H H') (ht : H' t ≠ none) (hf : H' f = none) : H f = none := by
  cases c : H f with
  | none => rfl
  | some o =>
    by_cases e : f = t
    · rw [e] at hf
      exact absurd hf ht
    · have z := k f o e c
      rw [hf] at z
      cases z
theorem Tk.some {H : Hp} {t : Addr} {c : Nat} (h : Tk H t c) : H t ≠ none := by
  obtain ⟨A, B, h1, _⟩ := h
  rw [h1]
  exact fun z => nomatch z
theorem Tk.ne {H : Hp} {t p : Addr} {c : Nat} (h : Tk H t c) (hp : H p = none) : t ≠ p := fun z => h.some (z ▸ hp)
theorem big4 : 4 ≤ sizeLine := by decide
theorem big5 : 5 ≤ sizeLine := by decide
def LcP (K : PySem.W.Frag) (a : Addr) (g : TG) (tt : TT) (te : TE) (vs : List Nat) (σ : L2.St) (H1 : Hp) (D : Addr) (Qd : Hp → Prop) : Prop := ∃ W : Nat → Nat → Hp → Prop, (∃ m, W 0 m (upd H1 D (.lst []))) ∧ ∀ i m H, W i m H → ((Itl K a).stop i H ∧ Qd H) ∨ ((Itl K a).go i H ∧ ∃ Nx : Hp → Prop, (∀ H', Nx H' → ∃ m', m' < m ∧ W (i + 1) m' H') ∧ ∀ x H', (Itl K a).yld i H x H' → g x (wipe σ vs) H' fun σ2 H2 => wipe σ2 vs = wipe σ vs ∧ tt σ2 H2 fun b H3 => if b = true then te σ2 H3 fun y H4 => ∃ acc, H4 D = some (.lst acc) ∧ acc.length < sizeLine ∧ Nx (upd H4 D (.lst (acc ++ [y]))) else Nx H3)
/-- over rows of three: new rows -/
theorem lc_rows {K : PySem.W.Frag} {a D : Addr} {L : List (Addr × List Int)} {te : TE} {vs : List Nat} {σ : L2.St} {H1 : Hp} {i j k : Nat} {Qd : Hp → Prop} (f : List Int → List Int) (hS : Rws K H1 a L) (h3 : ∀ r ∈ L, EdgeR r.2) (hn : L.length ≤ 10000) (hD : H1 D = none)
    (hw : ∀ x y z, wipe ((((wipe σ vs).set i (some x)).set j (some y)).set k (some z)) vs = wipe σ vs)
    (hte : ∀ (x y s : Int) (H : Hp) (Q : VK), (∀ p H', Same H H' → Row H' p (f [x, y, s]) → Q (.ref p) H') → te ((((wipe σ vs).set i (some (.int x))).set j (some (.int y))).set k (some (.int s))) H Q)
    (hd : ∀ L' H', Same H1 H' → NewRws H' D L' → L'.map (·.2) = (L.map (·.2)).map f → Qd H') :
    LcP K a (gTup K 3 (gCons (gName i) (gCons (gName j) (gCons (gName k) gNil)))) tYes te vs σ H1 D Qd := by
  refine walk_it (walk_list (K := K) (a := a) (xs := L.map fun q => V.ref q.1)) (fun n H' => Same H1 H' ∧ ∃ L', NewRws H' D L' ∧ L'.map (·.2) = ((L.take n).map (·.2)).map f)
    ⟨same_new hD, [], ⟨upd_same, fun _ z => nomatch z⟩, rfl⟩ (fun n H' hn p => same_sql p.1 hS.1) (fun n x H2 H3 hn1 p y => ?_) fun H2 p => ?_
  · obtain ⟨sm, L', nr, eL⟩ := p
    obtain ⟨rfl, hx⟩ := y
    obtain ⟨r, hr', rfl, er⟩ := (hS.same sm).at hx
    have hi' : n < L.length := (List.getElem?_eq_some_iff.mp hr').1
    obtain ⟨x, y, s, ek, hs⟩ := h3 r (List.mem_of_getElem? hr')
    have er3 : Row H3 r.1 [x, y, s] := by
      rw [← ek]
      exact er
    refine ⟨r.1, _, rfl, tupT er3, rfl, _, _, rfl, _, _, rfl, _, _, rfl, rfl, hw _ _ _, hte x y s H3 _ fun p H4 s4 ep => ?_⟩
    have lL : L'.length = n := by
      have z := congrArg List.length eL
      rw [List.length_map, List.length_map, List.length_map, List.length_take] at z
      omega
    have nD : ∀ {b : Addr} {xs : List V}, H4 b = some (.tup xs) → b ≠ D := fun {b xs} z y => by
      rw [y, s4 _ _ nr.1] at z
      cases z
    refine ⟨_, s4 _ _ nr.1, ?_, fun b o hb => ?_, L' ++ [(p, f r.2)], ⟨?_, fun u hu => ?_⟩, ?_⟩
    · rw [List.length_map, lL]
      exact size_lt (m := 10000) (by omega) (by decide)
    · rw [upd_ne (ne_of_none hb hD)]
      exact s4 _ _ (sm _ _ hb)
    · rw [upd_same, List.map_append]
      rfl
    · have z : Row H4 u.1 u.2 := (List.mem_append.mp hu).elim (fun z => s4 _ _ (nr.2 u z)) fun z => by
        rw [List.mem_singleton.mp z, ek]
        exact ep
      show upd _ _ _ _ = _
      rw [upd_ne (nD z)]
      exact z
    · rw [List.map_append, eL, take_row hr', List.map_append, List.map_append]
      rfl
  · obtain ⟨sm, L', nr, eL⟩ := p
    rw [List.length_map, List.take_length] at eL
    exact hd L' H2 sm nr eL
/-- a slice of rows -/
def cutR (L : List (Addr × List Int)) (lo hi : Option Int) : List (Addr × List Int) := (L.drop (HT.sIx L.length 0 lo)).take (HT.sIx L.length L.length hi - HT.sIx L.length 0 lo)
theorem cutR_map (L : List (Addr × List Int)) (lo hi : Option Int) : cutV (L.map fun q => V.ref q.1) lo hi = (cutR L lo hi).map fun q => V.ref q.1 := by
  unfold cutV cutR
  rw [List.length_map, List.map_take, List.map_drop]
theorem cutR_sub {L : List (Addr × List Int)} {lo hi : Option Int} : ∀ r ∈ cutR L lo hi, r ∈ L := fun r hr => List.mem_of_mem_drop (List.mem_of_mem_take hr)
theorem cutR_len {L : List (Addr × List Int)} {lo hi : Option Int} : (cutR L lo hi).length ≤ L.length := by
  unfold cutR
  rw [List.length_take, List.length_drop]
  omega
/-- a row, moved -/
def mvR (dx dy : Int) : List Int → List Int
  | [x, y, s] => [x + dx, y + dy, s]
  | k => k
theorem mvR_inj {dx dy : Int} {k l : List Int} (hk : EdgeR k) (hl : EdgeR l) (h : mvR dx dy k = mvR dx dy l) : k = l := by
  obtain ⟨x, y, s, rfl, _⟩ := hk
  obtain ⟨u, v, t, rfl, _⟩ := hl
  have h : [x + dx, y + dy, s] = [u + dx, v + dy, t] := h
  injection h with h1 h
  injection h with h2 h
  injection h with h3 h
  rw [show x = u by omega, show y = v by omega, h3]
theorem mvR_edge {dx dy : Int} {k : List Int} (hk : EdgeR k) : EdgeR (mvR dx dy k) := by
  obtain ⟨x, y, s, rfl, hs⟩ := hk
  exact ⟨_, _, _, rfl, hs⟩
theorem mvR_far {dx dy : Int} {k : List Int} {B C : Nat} (hk : EdgeR k) (h : ∀ n ∈ k, n.natAbs ≤ B) (hx : dx.natAbs + B < C) (hy : dy.natAbs + B < C) : ∀ n ∈ mvR dx dy k, n.natAbs < C := by
  obtain ⟨x, y, s, rfl, hs⟩ := hk
  have h1 := h x (by simp)
  have h2 := h y (by simp)
  have h3 := h s (by simp)
  intro n hn
  have hn : n ∈ [x + dx, y + dy, s] := hn
  simp only [List.mem_cons, List.not_mem_nil, or_false] at hn
  rcases hn with rfl | rfl | rfl <;> omega
/-- repr(b) -/
theorem call_reprB : CallR X (.builtin "repr") (fun xs H Q => ∃ b, xs = [.bl b] ∧ Q (.str (if b = true then "True" else "False")) H) := by
  intro pins s σ H xs us Q I r h
  obtain ⟨b, rfl, q⟩ := h
  obtain ⟨u, rfl, e⟩ := RT.vals1' r
  obtain rfl : u = Value.bool b := e
  exact PySem.P.repr_of_bool ⟨.str _, H, I.tok _, ⟨_, rfl⟩, q⟩
theorem log_of {i : Int} (h : i.natAbs < 2 ^ 600) : i.natAbs.log2 < 1920 := by
  by_cases z : i.natAbs = 0
  · rw [z]; decide
  · have := (Nat.log2_lt z).mpr h
    omega
theorem it_len {i : Int} (h : i.natAbs.log2 < 1920) : (PySem.Str.ofString (toString i)).length ≤ 1921 := int_text_len_1921 h
abbrev rowD (k : List Int) : PyData := .tuple (k.map PyData.int)
abbrev rowsD (rs : List (List Int)) : PyData := .list (rs.map rowD)
abbrev tupsD (rs : List (List Int)) : PyData := .tuple (rs.map rowD)
/-- a point that can be shown -/
def Show (k : List Int) : Prop := ∃ x y : Int, k = [x, y] ∧ x.natAbs.log2 < 1920 ∧ y.natAbs.log2 < 1920
theorem rowD_len {k : List Int} (h : Show k) : (rowD k).shown.length ≤ 4000 := by
  obtain ⟨x, y, rfl, hx, hy⟩ := h
  have h1 := it_len hx
  have h2 := it_len hy
  have e : (PyData.tuple [.int x, .int y]).shown = tupleText [Str.ofString (toString x), Str.ofString (toString y)] := by
    simp only [PyData.shown, PyData.shownAll]
  show (PyData.tuple [.int x, .int y]).shown.length ≤ 4000
  rw [e]
  unfold tupleText
  rw [strLen_append, strLen_append]
  show _ + (Str.ofString (toString x) ++ (", " : Str) ++ Str.ofString (toString y)).length + _ ≤ _
  rw [strLen_append, strLen_append]
  have l1 : (("(" : String) : Str).length = 1 := rfl
  have l2 : ((", " : String) : Str).length = 2 := rfl
  have l3 : ((if ([Str.ofString (toString x), Str.ofString (toString y)] : List Str).length == 1 then ",)" else ")" : String) : Str).length = 1 := rfl
  omega
theorem textFrom_le (c : Nat) : ∀ (ts : List Str) (k : Nat) (acc : Str), (∀ t ∈ ts, t.length ≤ c) → (textFrom k acc ts).length ≤ acc.length + ts.length * (c + 2)
  | [], _, _, _ => by show _ ≤ _ + 0 * _; rw [Nat.zero_mul]; exact Nat.le_refl _
  | t :: r, k, acc, h => by
    have ih := textFrom_le c r (k + 1) (acc ++ (if k > 0 then ", " else "" : String) ++ t) fun u hu => h u (List.mem_cons_of_mem _ hu)
    have e : (acc ++ (if k > 0 then ", " else "" : String) ++ t).length = acc.length + (if k > 0 then 2 else 0) + t.length := by
      rw [strLen_append, strLen_append]
      split <;> rfl
    rw [e] at ih
    have ht := h t (List.mem_cons_self ..)
    show (textFrom (k + 1) _ r).length ≤ acc.length + (r.length + 1) * (c + 2)
    rw [Nat.add_mul, Nat.one_mul]
    have d : (if k > 0 then 2 else 0 : Nat) ≤ 2 := by split <;> omega
    omega
theorem listText_le (c : Nat) (ts : List Str) (h : ∀ t ∈ ts, t.length ≤ c) : (listText ts).length ≤ 2 + ts.length * (c + 2) := by
  have h1 := textFrom_le c ts 0 "[" h
  have l1 : (("[" : String) : Str).length = 1 := rfl
  have l3 : (("]" : String) : Str).length = 1 := rfl
  show (textFrom 0 "[" ts ++ "]").length ≤ _
  rw [strLen_append]
  omega
theorem shownAll_map : ∀ ds : List PyData, PyData.shownAll ds = ds.map PyData.shown
  | [] => by rw [PyData.shownAll]; rfl
  | d :: ds => by rw [PyData.shownAll, shownAll_map ds]; rfl
theorem shown_list (ds : List PyData) : (PyData.list ds).shown = listText (ds.map PyData.shown) := by
  rw [PyData.shown, shownAll_map]
theorem rowsD_len {L : List (List Int)} (h : ∀ p ∈ L, Show p) (hn : L.length ≤ 4000) : (rowsD L).shown.length ≤ sizeLine := by
  rw [shown_list]
  have h1 := listText_le 4000 ((L.map rowD).map PyData.shown) fun t ht => by
    obtain ⟨d, hd, rfl⟩ := List.mem_map.mp ht
    obtain ⟨p, hp, rfl⟩ := List.mem_map.mp hd
    exact rowD_len (h p hp)
  rw [List.length_map, List.length_map] at h1
  have : L.length * (4000 + 2) ≤ 4000 * 4002 := Nat.mul_le_mul_right _ hn
  rw [sizeLine_eq]
  omega
theorem rowsD_showable : ∀ {L : List (List Int)}, (∀ p ∈ L, Show p) → PyData.showableAll (L.map rowD) = true
  | [], _ => by simp [PyData.showableAll]
  | p :: L, h => by
    have ih := rowsD_showable fun q hq => h q (List.mem_cons_of_mem _ hq)
    obtain ⟨x, y, rfl, hx, hy⟩ := h p (List.mem_cons_self ..)
    rw [List.map_cons, PyData.showableAll, ih, Bool.and_true]
    simp only [rowD, List.map_cons, List.map_nil, PyData.showable, PyData.showableAll, decide_eq_true hx, decide_eq_true hy, Bool.and_self]
theorem ints_noDict : ∀ ns : List Int, PyData.hasDictAll (ns.map PyData.int) = false
  | [] => by simp [PyData.hasDictAll]
  | n :: ns => by
    rw [List.map_cons, PyData.hasDictAll, ints_noDict ns]
    simp only [PyData.hasDict, Bool.or_self]
theorem rowsD_noDict : ∀ L : List (List Int), PyData.hasDictAll (L.map rowD) = false
  | [] => by simp [PyData.hasDictAll]
  | p :: L => by
    rw [List.map_cons, PyData.hasDictAll, rowsD_noDict L]
    simp only [PyData.hasDict, ints_noDict, Bool.or_self]
theorem rowsD_depth : ∀ L : List (List Int), PyData.depthAll (L.map rowD) ≤ 2
  | [] => by simp [PyData.depthAll]
  | p :: L => by
    have := rowsD_depth L
    have h2 := RT.depth_ints p
    simp only [List.map_cons, PyData.depthAll, PyData.depth]
    omega
theorem ints_canLay : ∀ ns : List Int, PyData.canLayAll0 (ns.map PyData.int) = true
  | [] => by simp [PyData.canLayAll0]
  | n :: ns => by
    have := ints_canLay ns
    simp only [List.map_cons, PyData.canLayAll0, PyData.canLay0, this, Bool.and_self]
theorem rowsD_canLay : ∀ L : List (List Int), PyData.canLayAll0 (L.map rowD) = true
  | [] => by simp [PyData.canLayAll0]
  | p :: L => by
    have := rowsD_canLay L
    simp only [List.map_cons, PyData.canLayAll0, PyData.canLay0, this, ints_canLay, Bool.and_self]
theorem rowsD_ok {L : List (List Int)} (h : ∀ p ∈ L, Show p) (hn : L.length ≤ 4000) : (rowsD L).showable = true ∧ (rowsD L).hasDict = false ∧ (rowsD L).depth ≤ 40 ∧ (rowsD L).shown.length ≤ sizeLine := by
  refine ⟨?_, ?_, ?_, rowsD_len h hn⟩
  · rw [PyData.showable]
    exact rowsD_showable h
  · rw [PyData.hasDict]
    exact rowsD_noDict L
  · have := rowsD_depth L
    simp only [PyData.depth]
    omega
theorem shaped_rows (L : List (List Int)) : SeqAt.shaped (rowsD L) = true := by
  have h1 := rowsD_depth L
  have h2 : PyData.depth (rowsD L) ≤ 64 := by simp only [PyData.depth]; omega
  show (PyData.canLay0 (rowsD L) && decide (PyData.depth (rowsD L) ≤ 64)) = true
  rw [Bool.and_eq_true]
  exact ⟨by simp only [PyData.canLay0]; exact rowsD_canLay L, decide_eq_true h2⟩
theorem shaped_tups (L : List (List Int)) : SeqAt.shaped (tupsD L) = true := by
  have h1 := rowsD_depth L
  have h2 : PyData.depth (tupsD L) ≤ 64 := by simp only [PyData.depth]; omega
  show (PyData.canLay0 (tupsD L) && decide (PyData.depth (tupsD L) ≤ 64)) = true
  rw [Bool.and_eq_true]
  exact ⟨by simp only [PyData.canLay0]; exact rowsD_canLay L, decide_eq_true h2⟩
theorem eqv_empty (L : List (List Int)) : PyData.eqv (rowsD L) (.list []) = L.isEmpty := by
  rw [PyData.eqv]
  cases L with
  | nil => rfl
  | cons p L => rfl
theorem eqv_ints : ∀ ns : List Int, PyData.eqvAll (ns.map PyData.int) (ns.map PyData.int) = true
  | [] => by simp [PyData.eqvAll]
  | n :: ns => by
    have := eqv_ints ns
    simp only [List.map_cons, PyData.eqvAll, PyData.eqv, this, Bool.and_true]
    simp
theorem eqv_rowsA : ∀ L : List (List Int), PyData.eqvAll (L.map rowD) (L.map rowD) = true
  | [] => by simp [PyData.eqvAll]
  | p :: L => by
    have := eqv_rowsA L
    simp only [List.map_cons, PyData.eqvAll, PyData.eqv, eqv_ints, this, Bool.and_self]
theorem eqv_tups (L : List (List Int)) : PyData.eqv (tupsD L) (tupsD L) = true := by
  rw [PyData.eqv]
  exact eqv_rowsA L
theorem eqv_rows (L : List (List Int)) : PyData.eqv (rowsD L) (rowsD L) = true := by
  rw [PyData.eqv]
  exact eqv_rowsA L
theorem dp_ints {K : PySem.W.Frag} {H : Hp} : ∀ ns : List Int, DpAll K H (ns.map V.int) (ns.map PyData.int)
  | [] => .nil
  | n :: ns => .cons (.int n) (dp_ints ns)
theorem dp_rowsA {K : PySem.W.Frag} {H : Hp} : ∀ {L : List (Addr × List Int)}, (∀ q ∈ L, Row H q.1 q.2) → DpAll K H (L.map fun q => V.ref q.1) ((L.map (·.2)).map rowD)
  | [], _ => .nil
  | q :: L, h => .cons (.tup (tupT (h q (List.mem_cons_self ..))) (dp_ints q.2)) (dp_rowsA fun r hr => h r (List.mem_cons_of_mem _ hr))
theorem dp_rows {K : PySem.W.Frag} {H : Hp} {a : Addr} {L : List (Addr × List Int)} (h : Rws K H a L) : Dp K H (.ref a) (rowsD (L.map (·.2))) := .lst h.1 (dp_rowsA h.2)
theorem dp_tups {K : PySem.W.Frag} {H : Hp} {a : Addr} {L : List (Addr × List Int)} (h : H a = some (.tup (L.map fun q => V.ref q.1))) (hr : ∀ q ∈ L, Row H q.1 q.2) : Dp K H (.ref a) (tupsD (L.map (·.2))) := .tup (tupT h) (dp_rowsA hr)
theorem str_ne (a : Str) : (!decide (V.str a = V.str a)) = false := by rw [decide_eq_true rfl]; rfl
/-- what is no cell's state stays -/
theorem Keep.obj {t : Addr} {H H' : Hp} {c : Nat} {b : Addr} {o : HO} (k : Keep t H H') (tk : Tk H t c) (h : H b = some o) (ho : ∀ x y z : Int, o ≠ .lst [.int x, .int y, .int z]) : H' b = some o := by
  refine k b o (fun e => ?_) h
  obtain ⟨A, B, h1, _⟩ := tk
  rw [e, h1] at h
  exact ho _ _ _ (Option.some.inj h).symm
theorem Keep.row {t : Addr} {H H' : Hp} {c : Nat} {b : Addr} {x : List Int} (k : Keep t H H') (tk : Tk H t c) (h : Row H b x) : Row H' b x := k.obj tk h fun _ _ _ z => nomatch z
theorem refs_not {L : List (Addr × List Int)} {x y z : Int} : (L.map fun q => V.ref q.1) ≠ [.int x, .int y, .int z] := fun e => by
  cases L with
  | nil => cases e
  | cons q L => cases e
theorem Keep.new {t : Addr} {H H' : Hp} {c : Nat} {b : Addr} {L : List (Addr × List Int)} (k : Keep t H H') (tk : Tk H t c) (h : NewRws H b L) : NewRws H' b L :=
  ⟨k.obj tk h.1 fun x y z e => by injection e with e; exact refs_not e, fun r hr => k.row tk (h.2 r hr)⟩
theorem Keep.pic {K : PySem.W.Frag} {t : Addr} {H H' : Hp} {c : Nat} {b : Addr} {L : List (Addr × List Int)} (k : Keep t H H') (tk : Tk H t c) (h : IsPic K H b L) : IsPic K H' b L := by
  obtain ⟨d, u, v, M, h1, h2, h3, h4, h5, h6, h7⟩ := h
  exact ⟨d, u, v, M, k.obj tk h1 (fun _ _ _ z => nomatch z), k.obj tk h2 (fun _ _ _ z => nomatch z), fun q hq => k.row tk (h3 q hq), h4, h5, k.obj tk h6 (fun _ _ _ z => nomatch z), h7⟩
theorem cut_take {L : List (Addr × List Int)} {lo hi : Option Int} : ∀ r ∈ cutR L lo hi, r ∈ L := cutR_sub
/-- a point whose numbers are not too far out -/
def Pt (k : List Int) : Prop := ∃ x y : Int, k = [x, y] ∧ x.natAbs < 2 ^ 396 ∧ y.natAbs < 2 ^ 396
theorem Pt.show {k : List Int} (h : Pt k) : Show k := by
  obtain ⟨x, y, e, hx, hy⟩ := h
  exact ⟨x, y, e, log_of (by omega), log_of (by omega)⟩
theorem big0 : 0 ≤ sizeLine := by decide
end K45

set_option Elab.async false
set_option linter.all false
set_option maxRecDepth 100000
set_option maxHeartbeats 4000000
set_option exponentiation.threshold 600
namespace K45
open PySem PySem.Spec PyProof.Rows L2 RT TT PC
/-- values of kinds, no tuples -/
inductive Typ (H : Hp) : V → String → Prop where
  | non : Typ H .non "NoneType"
  | bl (b : Bool) : Typ H (.bl b) "bool"
  | int (i : Int) : Typ H (.int i) "int"
  | str (x : Str) : Typ H (.str x) "str"
  | lst {a : Addr} {xs : List V} (e : H a = some (.lst xs)) : Typ H (.ref a) "list"
  | dT {a : Addr} {kvs : List (List L2.Key × V)} (e : H a = some (.dT kvs)) : Typ H (.ref a) "dict"
  | tup {a : Addr} {xs : List V} (e : H a = some (.tup xs)) : Typ H (.ref a) "tuple"
theorem Typ.same {H H' : Hp} {v : V} {t : String} (h : Typ H v t) (e : Same H H') : Typ H' v t := by
  cases h with
  | non => exact .non
  | bl b => exact .bl b
  | int i => exact .int i
  | str x => exact .str x
  | lst h => exact .lst (e _ _ h)
  | dT h => exact .dT (e _ _ h)
  | tup h => exact .tup (e _ _ h)
theorem Typ.ty {K : PySem.W.Frag} {H : Hp} {v : V} {t : String} (h : Typ H v t) : TyY K H v (.type t) := by
  cases h with
  | non => exact .base (.base .non)
  | bl b => exact .base (.base (.bl b))
  | int i => exact .base (.base (.int i))
  | str x => exact .base (.base (.str x))
  | lst h => exact .base (.base (.lst h))
  | dT h => exact .base (.base (.dT h))
  | tup h => exact .base (.base (.tup h))
theorem Typ.kit_int {K : PySem.W.Frag} {H : Hp} {v : V} {t : String} (h : Typ H v t) : PySem.W.kitOne K (.type t) (.type "int") = some (t == "int" || t == "bool") := by
  cases h <;> exact kit_ty (by decide +kernel)
theorem Typ.kit_bool {K : PySem.W.Frag} {H : Hp} {v : V} {t : String} (h : Typ H v t) : PySem.W.kitOne K (.type t) (.type "bool") = some (t == "bool") := by
  cases h <;> exact kit_ty (by decide +kernel)
theorem Typ.kit_tuple {K : PySem.W.Frag} {H : Hp} {v : V} {t : String} (h : Typ H v t) : PySem.W.kitOne K (.type t) (.type "tuple") = some (t == "tuple") := by
  cases h <;> exact kit_ty (by decide +kernel)
theorem Typ.kit_list {K : PySem.W.Frag} {H : Hp} {v : V} {t : String} (h : Typ H v t) : PySem.W.kitOne K (.type t) (.type "list") = some (t == "list") := by
  cases h <;> exact kit_ty (by decide +kernel)
/-- an item of a tuple: a number, or none -/
def iOf : V → Option Int
  | .int i => some i
  | _ => none
theorem Typ.isI {H : Hp} {v : V} {t : String} (h : Typ H v t) : (t == "int") = (iOf v).isSome := by
  cases h <;> rfl
def Sc (H : Hp) (v : V) : Prop := ∃ t, Typ H v t
theorem Sc.same {H H' : Hp} {v : V} (h : Sc H v) (e : Same H H') : Sc H' v := h.elim fun t h => ⟨t, h.same e⟩
theorem sc_i {H : Hp} {i : Int} : Sc H (.int i) := ⟨_, .int i⟩
section
variable {P : Program} {w : World} {K : PySem.W.Frag} {mg : Str → Option Value} {base : Heap}
def spIsInt : Sp := fun vs H Q _ => ∃ v : V, vs = [v] ∧ Sc H v ∧ Q (.bl (iOf v).isSome) H
theorem ok_isint (D : Ds K) (T : Tx K mg) : FnOk P w K mg base CX0 1 (dis_integer.adr K) D.fd_is_integer ["value"] spIsInt := by
  refine D.F_is_integer.ok scis_integer (fun vs H Q E h => ?_) (fun cdv A outer s H vs Q E hr h => ?_)
  · obtain ⟨v, rfl, _⟩ := h
    rfl
  · obtain ⟨v, rfl, ⟨t, ht⟩, q⟩ := h
    refine ⟨_, PSs.nox (pss_one (ps_ret (pe_and (pe_callB call_isiY (by rfl) T.z_isinstance (by decide +kernel) (pa_cons (pv 0) (pa_cons (pe_bltn (v := .ty "int") (by rfl) T.z_int (by decide +kernel) rfl) pa_nil)))
      (pe_one (pe_not (pe_callB call_isiY (by rfl) T.z_isinstance (by decide +kernel) (pa_cons (pv 0) (pa_cons (pe_bltn (v := .ty "bool") (by rfl) T.z_bool (by decide +kernel) rfl) pa_nil)))))))), ?_⟩
    refine ⟨_, rfl, _, .ty "int", _, _, _, rfl, .ty "int", ht.ty, ht.kit_int, _, rfl, ?_⟩
    by_cases c : (t == "int" || t == "bool") = true
    · refine ite_t c ⟨_, rfl, _, .ty "bool", _, _, _, rfl, .ty "bool", ht.ty, ht.kit_bool, _, rfl, ?_⟩
      rw [show (!(t == "bool")) = (iOf v).isSome from by
        rw [← ht.isI]
        cases ht <;> first | rfl | (exact absurd c (by decide))]
      exact q
    · refine ite_f (Bool.not_eq_true _ ▸ c : (t == "int" || t == "bool") = false) ?_
      have e : (iOf v).isSome = false := by
        rw [← ht.isI]
        cases ht <;> first | rfl | (exact absurd rfl c)
      rw [e] at q
      exact q
def spTupOf : Sp := fun vs H Q _ => ∃ (v : V) (n : Int) (t : String), vs = [v, .int n] ∧ Typ H v t ∧ (t ≠ "tuple" → Q (.bl false) H) ∧ (∀ a xs, v = .ref a → H a = some (.tup xs) → Q (.bl (decide (V.int (xs.length : Int) = V.int n))) H)
theorem ok_tupof (D : Ds K) (T : Tx K mg) : FnOk P w K mg base CX0 1 (dis_tuple_of.adr K) D.fd_is_tuple_of ["value", "many"] spTupOf := by
  refine D.F_is_tuple_of.ok scis_tuple_of (fun vs H Q E h => ?_) (fun cdv A outer s H vs Q E hr h => ?_)
  · obtain ⟨a, n, t, rfl, _⟩ := h
    rfl
  · obtain ⟨v, n, t, rfl, ht, q1, q2⟩ := h
    refine ⟨_, PSs.nox (pss_one (ps_ret (pe_and (pe_callB call_isiY (by rfl) T.z_isinstance (by decide +kernel) (pa_cons (pv 0) (pa_cons (pe_bltn (v := .ty "tuple") (by rfl) T.z_tuple (by decide +kernel) rfl) pa_nil)))
      (pe_one (pe_cmpR op_eq (pe_callB call_len_seq (by rfl) T.z_len PySem.boot_len (pa_cons (pv 0) pa_nil)) (pv 1) (nomark _)))))), ?_⟩
    refine ⟨_, rfl, _, .ty "tuple", _, _, _, rfl, .ty "tuple", ht.ty, ht.kit_tuple, _, rfl, ?_⟩
    cases ht with
    | @tup a xs e => exact iteT ⟨_, rfl, a, _, rfl, .inr (tupT e), _, rfl, rfl, q2 a xs rfl e⟩
    | _ => exact iteF (q1 (by decide))
def spIsPt : Sp := fun vs H Q _ => ∃ (a : Addr) (x y : V), vs = [.ref a] ∧ H a = some (.tup [x, y]) ∧ Sc H x ∧ Sc H y ∧ Q (.bl ((iOf x).isSome && (iOf y).isSome)) H
theorem ok_ispt (D : Ds K) (T : Tx K mg) : FnOk P w K mg base CX0 2 (dis_point.adr K) D.fd_is_point ["value"] spIsPt := by
  have G1 : FnOk P w K mg base CX0 1 _ _ _ spIsInt := ok_isint D T
  have G2 : FnOk P w K mg base CX0 1 _ _ _ spTupOf := ok_tupof D T
  refine D.F_is_point.ok scis_point (fun vs H Q E h => ?_) (fun cdv A outer s H vs Q E hr h => ?_)
  · obtain ⟨a, x, y, rfl, _⟩ := h
    rfl
  · obtain ⟨a, x, y, rfl, ea, sx, sy, q⟩ := h
    refine ⟨_, PSs.nox (pss_one (ps_ret (pe_and (pe_call G2 hr (by rfl) T.g_is_tuple_of D.F_is_tuple_of.kp (b_is_tuple_of D) .nil pass0 (pa_cons (pv 0) (pa_cons pe_int pa_nil)))
      (pe_and (pe_call G1 hr (by rfl) T.g_is_integer D.F_is_integer.kp (b_is_integer D) .nil pass0 (pa_cons (pe_ix ix_tup (pv 0) pe_int (fun _ _ => rfl)) pa_nil))
      (pe_one (pe_call G1 hr (by rfl) T.g_is_integer D.F_is_integer.kp (b_is_integer D) .nil pass0 (pa_cons (pe_ix ix_tup (pv 0) pe_int (fun _ _ => rfl)) pa_nil))))))), ?_⟩
    refine ⟨_, rfl, _, _, _, rfl, .tup ea, fun z => absurd rfl z, fun a' xs e1 e2 => ?_⟩
    cases e1
    rw [ea] at e2
    cases e2
    refine ⟨true, rfl, iteT ?_⟩
    refine ⟨_, rfl, a, _, 0, _, rfl, rfl, tupT ea, atI_nat (j := 0) rfl, x, rfl, sx, _, rfl, ?_⟩
    cases hx : (iOf x).isSome with
    | false =>
      rw [hx] at q
      exact iteF q
    | true =>
      rw [hx, Bool.true_and] at q
      exact iteT ⟨_, rfl, a, _, 1, _, rfl, rfl, tupT ea, atI_nat (j := 1) rfl, y, rfl, sy, q⟩
def spWithin : Sp := fun vs H Q _ => ∃ (v : V) (l m : Int), vs = [v, .int l, .int m] ∧ Sc H v ∧ Q (.bl (match iOf v with | some i => decide (l ≤ i) && decide (i ≤ m) | none => false)) H
theorem ok_within (D : Ds K) (T : Tx K mg) : FnOk P w K mg base CX0 2 (dis_integer_within.adr K) D.fd_is_integer_within ["value", "least", "most"] spWithin := by
  have G1 : FnOk P w K mg base CX0 1 _ _ _ spIsInt := ok_isint D T
  refine D.F_is_integer_within.ok scis_integer_within (fun vs H Q E h => ?_) (fun cdv A outer s H vs Q E hr h => ?_)
  · obtain ⟨v, l, m, rfl, _⟩ := h
    rfl
  · obtain ⟨v, l, m, rfl, sv, q⟩ := h
    refine ⟨_, PSs.nox (pss_one (ps_ret (pe_and (pe_call G1 hr (by rfl) T.g_is_integer D.F_is_integer.kp (b_is_integer D) .nil pass0 (pa_cons (pv 0) pa_nil))
      (pe_one (pe_chain op_le op_le (pv 1) (pv 0) (pv 2)))))), ?_⟩
    refine ⟨_, rfl, v, rfl, sv, _, rfl, ?_⟩
    cases v with
    | int i =>
      refine iteT ⟨_, rfl, _, rfl, l, i, rfl, rfl, _, rfl, ?_⟩
      have q : Q (.bl (decide (l ≤ i) && decide (i ≤ m))) H := q
      by_cases h1 : l ≤ i
      · rw [decide_eq_true h1] at q ⊢
        exact iteT ⟨_, rfl, i, m, rfl, rfl, q⟩
      · rw [decide_eq_false h1] at q ⊢
        exact iteF q
    | _ => exact iteF q
/-- a value that may be asked whether it is an edge: the edge, or none -/
inductive Item (H : Hp) : V → Option (List Int) → Prop where
  | edge {a : Addr} {k : List Int} (h : Row H a k) (e : EdgeR k) : Item H (.ref a) (some k)
  | tup3 {a : Addr} {x y z : V} (h : H a = some (.tup [x, y, z])) (hx : Sc H x) (hy : Sc H y) (hz : Sc H z) (no : ((iOf x).isSome && ((iOf y).isSome && (match iOf z with | some i => decide (0 ≤ i) && decide (i ≤ 1) | none => false))) = false) : Item H (.ref a) none
  | tupN {a : Addr} {xs : List V} (h : H a = some (.tup xs)) (n : xs.length ≠ 3) : Item H (.ref a) none
  | oth {v : V} {t : String} (h : Typ H v t) (n : t ≠ "tuple") : Item H v none
theorem Item.same {H H' : Hp} {v : V} {o : Option (List Int)} (h : Item H v o) (e : Same H H') : Item H' v o := by
  cases h with
  | edge h k => exact .edge (e _ _ h) k
  | tup3 h hx hy hz no => exact .tup3 (e _ _ h) (hx.same e) (hy.same e) (hz.same e) no
  | tupN h n => exact .tupN (e _ _ h) n
  | oth h n => exact .oth (h.same e) n
theorem Item.kinds {H : Hp} {v : V} {o : Option (List Int)} (h : Item H v o) : (∃ (a : Addr) (x y z : V), v = .ref a ∧ H a = some (.tup [x, y, z]) ∧ Sc H x ∧ Sc H y ∧ Sc H z ∧ ((iOf x).isSome && ((iOf y).isSome && (match iOf z with | some i => decide (0 ≤ i) && decide (i ≤ 1) | none => false))) = o.isSome) ∨
    (o = none ∧ ((∃ (a : Addr) (xs : List V), v = .ref a ∧ H a = some (.tup xs) ∧ xs.length ≠ 3) ∨ ∃ t, Typ H v t ∧ t ≠ "tuple")) := by
  cases h with
  | @edge a k h e =>
    obtain ⟨x, y, z, rfl, hz⟩ := e
    exact .inl ⟨a, .int x, .int y, .int z, rfl, h, sc_i, sc_i, sc_i, by show (decide (0 ≤ z) && decide (z ≤ 1)) = true; rw [decide_eq_true (by omega), decide_eq_true (by omega)]; rfl⟩
  | @tup3 a x y z h hx hy hz no => exact .inl ⟨a, x, y, z, rfl, h, hx, hy, hz, no⟩
  | @tupN a xs h n => exact .inr ⟨rfl, .inl ⟨a, xs, rfl, h, n⟩⟩
  | @oth v t h n => exact .inr ⟨rfl, .inr ⟨t, h, n⟩⟩
def spIsEdge : Sp := fun vs H Q _ => ∃ (v : V) (o : Option (List Int)), vs = [v] ∧ Item H v o ∧ ∀ H', Same H H' → Q (.bl o.isSome) H'
theorem three_ne {xs : List V} (h : xs.length ≠ 3) : decide (V.int (xs.length : Int) = V.int 3) = false := by
  rw [dec_i]
  exact decide_eq_false fun z => h (by omega)
theorem ok_isedge (D : Ds K) (T : Tx K mg) : FnOk P w K mg base CX0 3 (dis_edge.adr K) D.fd_is_edge ["value"] spIsEdge := by
  have G1 : FnOk P w K mg base CX0 1 _ _ _ spTupOf := ok_tupof D T
  have G2 : FnOk P w K mg base CX0 2 _ _ _ spIsPt := ok_ispt D T
  have G3 : FnOk P w K mg base CX0 2 _ _ _ spWithin := ok_within D T
  refine D.F_is_edge.ok scis_edge (fun vs H Q E h => ?_) (fun cdv A outer s H vs Q E hr h => ?_)
  · obtain ⟨v, o, rfl, _⟩ := h
    rfl
  · obtain ⟨v, o, rfl, it, q⟩ := h
    refine ⟨_, PSs.nox (pss_one (ps_ret (pe_and (pe_call G1 (hr.mono (by decide)) (by rfl) T.g_is_tuple_of D.F_is_tuple_of.kp (b_is_tuple_of D) .nil pass0 (pa_cons (pv 0) (pa_cons pe_int pa_nil)))
      (pe_and (pe_call G2 hr (by rfl) T.g_is_point D.F_is_point.kp (b_is_point D) .nil pass0 (pa_cons (pe_slice sl_tup (pv 0) po_none (po_some pe_int)) pa_nil))
      (pe_one (pe_call G3 hr (by rfl) T.g_is_integer_within D.F_is_integer_within.kp (b_is_integer_within D) .nil pass0 (pa_cons (pe_ix ix_tup (pv 0) pe_int (fun _ _ => rfl)) (pa_cons pe_int (pa_cons pe_int pa_nil))))))))), ?_⟩
    rcases it.kinds with ⟨a, x, y, z, rfl, ea, sx, sy, sz, e⟩ | ⟨rfl, ⟨a, xs, rfl, h, n⟩ | ⟨t, h, n⟩⟩
    · refine ⟨_, rfl, _, _, _, rfl, .tup ea, fun z => absurd rfl z, fun a' xs e1 e2 => ?_⟩
      cases e1
      rw [ea] at e2
      cases e2
      refine ⟨true, rfl, iteT ?_⟩
      refine ⟨_, rfl, 2, rfl, a, _, rfl, tupT ea, (by show ¬(0 = 0 ∧ 2 = 3); decide), fun p hp => ?_⟩
      have s1 : Same H (upd H p (.tup (cutV [x, y, z] none (some 2)))) := same_new hp
      refine ⟨p, x, y, rfl, upd_same, sx.same s1, sy.same s1, _, rfl, ?_⟩
      have q1 := q _ s1
      rw [← e] at q1
      cases hx : (iOf x).isSome with
      | false =>
        rw [hx] at q1
        exact iteF q1
      | true =>
        cases hy : (iOf y).isSome with
        | false =>
          rw [hx, hy] at q1
          exact iteF q1
        | true =>
          rw [hx, hy, Bool.true_and, Bool.true_and] at q1
          exact iteT ⟨_, rfl, a, _, 2, _, rfl, rfl, tupT (s1 _ _ ea), atI_nat (j := 2) rfl, z, 0, 1, rfl, sz.same s1, q1⟩
    · refine ⟨_, rfl, _, _, _, rfl, .tup h, fun z => absurd rfl z, fun a' ys e1 e2 => ?_⟩
      cases e1
      rw [h] at e2
      cases e2
      rw [three_ne n]
      exact ⟨false, rfl, iteF (q H fun _ _ h => h)⟩
    · refine ⟨_, rfl, _, _, _, rfl, h, fun _ => ⟨false, rfl, iteF (q H fun _ _ h => h)⟩, fun a xs e1 e2 => ?_⟩
      subst e1
      cases h with
      | lst e => rw [e] at e2; cases e2
      | dT e => rw [e] at e2; cases e2
      | tup e => exact absurd rfl n
def spCkPt : Sp := fun vs H Q _ => ∃ (a : Addr) (x y : Int), vs = [.ref a] ∧ Row H a [x, y] ∧ Q .non H
theorem ok_ckpt (D : Ds K) (T : Tx K mg) : FnOk P w K mg base CX0 3 (dcheck_point.adr K) D.fd_check_point ["point"] spCkPt := by
  have G2 : FnOk P w K mg base CX0 2 _ _ _ spIsPt := ok_ispt D T
  refine D.F_check_point.ok sccheck_point (fun vs H Q E h => ?_) (fun cdv A outer s H vs Q E hr h => ?_)
  · obtain ⟨a, x, y, rfl, _⟩ := h
    rfl
  · obtain ⟨a, x, y, rfl, ea, q⟩ := h
    refine ⟨_, PSs.nox (pss_one (ps_if (pt_not (pt_val (pe_call G2 hr (by rfl) T.g_is_point D.F_is_point.kp (b_is_point D) .nil pass0 (pa_cons (pv 0) pa_nil)))) (pss_one ps_never) pss_nil)), ?_⟩
    exact ⟨_, rfl, a, .int x, .int y, rfl, ea, sc_i, sc_i, _, rfl, iteF q⟩
end
end K45

set_option Elab.async false
set_option linter.all false
set_option maxRecDepth 100000
set_option maxHeartbeats 4000000
set_option exponentiation.threshold 600
namespace K45
open PySem PySem.Spec PyProof.Rows L2 RT TT PC
theorem row_dec (a b : List Int) : PyData.eqvAll (a.map PyData.int) (b.map PyData.int) = decide (a = b) := PySem.W.ked_eqvAll a b
theorem rows_dec : ∀ A B : List (List Int), PyData.eqvAll (A.map rowD) (B.map rowD) = decide (A = B)
  | [], [] => by simp [PyData.eqvAll]
  | [], _ :: _ => by simp [PyData.eqvAll]
  | _ :: _, [] => by simp [PyData.eqvAll]
  | a :: A, b :: B => by
    have ih := rows_dec A B
    simp only [List.map_cons, PyData.eqvAll, PyData.eqv, ih, row_dec]
    rw [Bool.eq_iff_iff]
    simp
theorem tups_dec (A B : List (List Int)) : PyData.eqv (tupsD A) (tupsD B) = decide (A = B) := by
  rw [PyData.eqv]
  exact rows_dec A B
theorem rowsD_dec (A B : List (List Int)) : PyData.eqv (rowsD A) (rowsD B) = decide (A = B) := by
  rw [PyData.eqv]
  exact rows_dec A B
section
variable {P : Program} {w : World} {K : PySem.W.Frag} {mg : Str → Option Value} {base : Heap}
abbrev NCk : List Str := Ncheck_edges ++ [("edge" : Str)]
theorem scCk : FnScope NCk ["edges"] (defScope scheck_edges) := ⟨rfl, rfl, rfl, by decide +kernel, rfl, by decide +kernel, by decide +kernel⟩
def spCkEd (K : PySem.W.Frag) : Sp := fun vs H Q _ => ∃ (a : Addr) (L : List (Addr × List Int)), vs = [.ref a] ∧ Rws K H a L ∧ Edges L ∧ ∀ H', Same H H' → Q .non H'
theorem ok_cked (D : Ds K) (T : Tx K mg) : FnOk P w K mg base CX0 4 (dcheck_edges.adr K) D.fd_check_edges ["edges"] (spCkEd K) := by
  have G : FnOk P w K mg base CX0 3 _ _ _ spIsEdge := ok_isedge D T
  refine D.F_check_edges.ok scCk (fun vs H Q E h => ?_) (fun cdv A outer s H vs Q E hr h => ?_)
  · obtain ⟨a, L, rfl, _⟩ := h
    rfl
  · obtain ⟨a, L, rfl, ss, fine, q⟩ := h
    have nd := scCk.nd
    refine ⟨_, PSs.nox (pss_cons (ps_if (PW.pt (pw_or (pt_not (pt_val (pe_callB call_isiY (by rfl) T.z_isinstance (by decide +kernel) (pa_cons (pv 0) (pa_cons (pe_bltn (v := .ty "list") (by rfl) T.z_list (by decide +kernel) rfl) pa_nil)))))
      (pw_or1 (pt_not (pt_val (pe_callB (cr_all rfl) (by rfl) T.z_all (by decide +kernel) (pa_cons (pe_lc (own := [(("edge" : Str), 1)]) (g := gName 1) (tt := tYes) (te := tCall spIsEdge [] E0 (tCons (tVar 1) tNil)) rfl nd (pi_list (pv 0))
        (blkOk_by (own := [(("edge" : Str), 1)]) (N := NCk) (sc := defScope scheck_edges) (by decide +kernel)) (fun _ _ _ _ _ => pg_name (i := 1) nd rfl (Or.inl rfl)) (fun _ _ _ _ _ => pts_nil)
        (fun _ _ _ _ _ => pe_call G hr (by rfl) T.g_is_edge D.F_is_edge.kp (b_is_edge D) .nil pass0 (pa_cons (pv 1) pa_nil))) pa_nil))))))) (pss_one ps_never) pss_nil)
      (pss_one (ps_if (pt_cmpR op_lt (pe_callB cr_lenT (by rfl) T.z_len PySem.boot_len (pa_cons (pe_callTy (cr_setT rfl hr.units) (by rfl) T.z_set (by decide +kernel) (pa_cons (pv 0) pa_nil)) pa_nil)) (pe_callB call_len_seq (by rfl) T.z_len PySem.boot_len (pa_cons (pv 0) pa_nil)) (nomark _)) (pss_one ps_never) pss_nil))), ?_⟩
    refine ⟨_, rfl, _, .ty "list", _, _, true, rfl, .ty "list", ty_list ss.1, kit_ll, true, rfl, iteF ?_⟩
    refine ⟨_, rfl, a, rfl, ⟨_, ss.1⟩, fun D1 hD => ?_⟩
    refine lc_list (K := K) (a := a) (xs := L.map fun q => V.ref q.1) (fun n H' => Same H H' ∧ H' D1 = some (.lst ((List.replicate n true).map V.bl))) ⟨same_new hD, upd_same⟩ (fun n H' hi p => same_sql p.1 ss.1) (fun n x H' hx p => ?_) fun H' p => ?_
    · obtain ⟨s, eD⟩ := p
      obtain ⟨r, hr', rfl, er⟩ := (ss.same s).at hx
      have hn : n < L.length := (List.getElem?_eq_some_iff.mp hr').1
      refine ⟨rfl, _, rfl, _, some r.2, rfl, .edge er (fine.1 r (List.mem_of_getElem? hr')), fun H2 s2 => ?_⟩
      refine ⟨_, s2 _ _ eD, ?_, ?_, ?_⟩
      · rw [List.length_map, List.length_replicate]
        have h1 := fine.2.2
        exact size_lt (m := 1228) (by omega) (by decide)
      · intro b o h
        rw [upd_ne (ne_of_none h hD)]
        exact s2 _ _ (s _ _ h)
      · rw [upd_same, List.replicate_succ', List.map_append]
        rfl
    · obtain ⟨s, eD⟩ := p
      refine ⟨D1, _, rfl, lstL eD, true, by rw [show ∀ m, (List.replicate m true).all id = true from fun m => by simp [List.all_replicate]], iteF ?_⟩
      have s3 := ss.same s
      refine ⟨_, rfl, a, L, rfl, s3.1, fun p hp => tupT (s3.2 p hp), fine.2.2, fun b L2 hb h1 h2 h3 => ?_⟩
      have s4 := same_new (o := SetW P w b L2) hb
      refine ⟨b, L2, rfl, upd_same, _, rfl, a, _, rfl, .inl (same_sql s4 s3.1), _, _, rfl, rfl, ?_⟩
      have len : L2.length = L.length := by
        have pm : (L2.map (·.2)).Perm (L.map (·.2)) := (List.perm_ext_iff_of_nodup h3 fine.2.1).mpr fun k => ⟨fun hk => by
          obtain ⟨p, hp, rfl⟩ := List.mem_map.mp hk
          exact List.mem_map.mpr ⟨p, h1 p hp, rfl⟩, fun hk => by
          obtain ⟨p, hp, rfl⟩ := List.mem_map.mp hk
          exact h2 p hp⟩
        have z := pm.length_eq
        rwa [List.length_map, List.length_map] at z
      refine ⟨_, rfl, ?_⟩
      rw [List.length_map, len, decide_eq_false (Int.lt_irrefl _)]
      exact iteF (q _ (s.trans s4))
abbrev NIn : List Str := NPicture_init ++ [("edge" : Str)]
theorem scIn : FnScope NIn ["self", "edges"] (defScope sPicture_init) := ⟨rfl, rfl, rfl, by decide +kernel, rfl, by decide +kernel, by decide +kernel⟩
def spInit (K : PySem.W.Frag) : Sp := fun vs H Q _ => ∃ (a d e : Addr) (L : List (Addr × List Int)), vs = [.ref a, .ref e] ∧ H a = some (.ins (He.ga K "Picture") d []) ∧ Rws K H e L ∧ Edges L ∧
  ∀ H' L', (∀ b o, b ≠ a → H b = some o → H' b = some o) → IsPic K H' a L' → (L'.map (·.2)).Perm (L.map (·.2)) → Q .non H'
theorem ok_init (D : Ds K) (T : Tx K mg) : FnOk P w K mg base CX0 5 (dPicture_init.adr K) D.fd_Picture_init ["self", "edges"] (spInit K) := by
  have G : FnOk P w K mg base CX0 4 _ _ _ (spCkEd K) := ok_cked D T
  refine D.F_Picture_init.ok scIn (fun vs H Q E h => ?_) (fun cdv A outer s H vs Q E hr h => ?_)
  · obtain ⟨a, d, e, L, rfl, _⟩ := h
    rfl
  · obtain ⟨a, d, e, L, rfl, ea, ss, fine, q⟩ := h
    have nd := scIn.nd
    refine ⟨_, PSs.nox (pss_cons (ps_expr (pe_call G hr (by rfl) T.g_check_edges D.F_check_edges.kp (b_check_edges D) .nil pass0 (pa_cons (pv 1) pa_nil)))
      (pss_cons (ps_fld (pv 0) (pe_callTy call_tuple_of (by rfl) T.z_tuple (by decide +kernel) (pa_cons (pe_callB cr_sortR (by rfl) T.z_sorted (by decide +kernel) (pa_cons (pv 1) pa_nil)) pa_nil)) rfl)
      (pss_one (ps_fld (pv 0) (pe_dcT (own := [(("edge" : Str), 2)]) (g := gName 2) (tt := tYes) (tk := tVar 2) (tv := tC (.bl true)) rfl (hu_of hr) nd (pi_list (pv 1))
        (blkOk_by (own := [(("edge" : Str), 2)]) (N := NIn) (sc := defScope sPicture_init) (by decide +kernel)) (fun _ _ _ _ _ => pg_name (i := 2) nd rfl (Or.inl rfl)) (fun _ _ _ _ _ => pts_nil) (fun _ _ _ _ _ => pv 2) (fun _ _ _ _ _ => pe_bl)) rfl)))), ?_⟩
    refine ⟨_, rfl, e, L, rfl, ss, fine, fun H1 s1 => ?_⟩
    have ss1 := ss.same s1
    refine ⟨_, rfl, e, L, 3, rfl, ss1.1, by decide, fun p hp => ⟨ss1.2 p hp, (fine.1 p hp).len⟩, fun L2 p perm srt hp => ?_⟩
    have s2 := same_new (o := .lst (L2.map fun q => V.ref q.1)) hp
    refine ⟨p, _, rfl, .inl ⟨lstL upd_same, fun t ht => ?_⟩⟩
    have s3 := same_new (o := .tup (L2.map fun q => V.ref q.1)) ht
    have s13 := s1.trans (s2.trans s3)
    refine ⟨_, rfl, a, _, d, _, rfl, s13 _ _ ea, T.c_Picture, T.n_Picture__edges, by show 0 < 1000; decide, ?_⟩
    generalize eH : upd (upd H1 p (.lst (L2.map fun q => V.ref q.1))) t (.tup (L2.map fun q => V.ref q.1)) = H3 at *
    have et : H3 t = some (.tup (L2.map fun q => V.ref q.1)) := by
      rw [← eH]
      exact upd_same
    have ea3 := s13 _ _ ea
    have ss3 := ss1.same (s2.trans s3)
    have nta : t ≠ a := fun z => by
      rw [z, ea3] at et
      cases et
    obtain ⟨H4, e4⟩ : ∃ H4, upd H3 a (.ins (He.ga K "Picture") d [("_edges", .ref t)]) = H4 := ⟨_, rfl⟩
    have ea4 : H4 a = some (.ins (He.ga K "Picture") d [("_edges", .ref t)]) := by
      rw [← e4]
      exact upd_same
    have k4 : ∀ b o, b ≠ a → H3 b = some o → H4 b = some o := fun b o hb h => by
      rw [← e4, upd_ne hb]
      exact h
    have nin : ∀ {b : Addr} {o : HO}, H3 b = some o → (∀ d fs, o ≠ .ins (He.ga K "Picture") d fs) → b ≠ a := fun {b o} h n z => by
      rw [z, ea3] at h
      exact n _ _ (Option.some.inj h).symm
    have rowa : ∀ {b : Addr} {k : List Int}, Row H3 b k → Row H4 b k := fun {b k} h => k4 _ _ (nin (show H3 b = some (.tup (k.map V.int)) from h) fun _ _ z => nomatch z) h
    have ss4 : Rws K H4 e L := by
      refine ⟨?_, fun r hr1 => rowa (ss3.2 r hr1)⟩
      rcases ss3.1 with (h | ⟨o, h⟩) | h
      · exact .inl (.inl (k4 _ _ (nin h fun _ _ z => nomatch z) h))
      · exact .inl (.inr ⟨o, k4 _ _ (nin h fun _ _ z => nomatch z) h⟩)
      · exact .inr h
    rw [show putF ("_edges" : Str) (V.ref t) [] = ([("_edges", V.ref t)] : List (Str × V)) from rfl, e4]
    refine ⟨_, rfl, e, rfl, ⟨_, ss4.1⟩, fun h hh => ?_⟩
    refine dcT_it (walk_list (K := K) (a := e) (xs := L.map fun q => V.ref q.1)) (fun i H' => Same H4 H' ∧ ∃ M, H' h = some (.dT (dI M)) ∧ (∀ k, (valV M k).isSome = true ↔ k ∈ (L.take i).map (·.2)) ∧ M.length ≤ i)
      ⟨same_new hh, [], upd_same, fun k => ⟨fun z => (by cases z), fun z => (by cases z)⟩, Nat.le_refl _⟩ (fun i H' hi p => same_sql p.1 ss4.1) (fun i x H5 H6 hi p y => ?_) fun H5 p => ?_
    · obtain ⟨sm, M, em, hm, lm⟩ := p
      obtain ⟨rfl, hx⟩ := y
      obtain ⟨r, hr', rfl, er⟩ := (ss4.same sm).at hx
      have h1 := fine.2.2
      have hi' : i < L.length := (List.getElem?_eq_some_iff.mp hr').1
      refine ⟨rfl, _, rfl, _, kI r.2, _, rfl, row_k er, em, ?_, fun b o hb => ?_, putK M r.2 (.bl true), ?_, fun k => ?_, Nat.le_trans (put_len ..) (by omega)⟩
      · rw [dI_len]
        exact size_lt (m := 1228) (by omega) (by decide)
      · rw [upd_ne (ne_of_none hb hh)]
        exact sm _ _ hb
      · rw [upd_same, put_dI]
      · rw [valV_put, take_row hr', List.map_append, List.mem_append]
        by_cases ek : k = r.2
        · rw [if_pos ek]
          exact ⟨fun _ => .inr (by rw [ek]; exact List.mem_singleton.mpr rfl), fun _ => rfl⟩
        · rw [if_neg ek, hm k]
          exact ⟨.inl, fun z => z.elim id fun y => absurd (List.mem_singleton.mp y) ek⟩
    · obtain ⟨sm, M, em, hm, lm⟩ := p
      rw [List.length_map, List.take_length] at hm
      have ea5 := sm _ _ ea4
      refine ⟨_, rfl, a, _, d, _, rfl, ea5, T.c_Picture, T.n_Picture__has, by show 1 < 1000; decide, ?_⟩
      have nh : h ≠ a := fun z => by
        rw [z, ea5] at em
        cases em
      refine q _ L2 (fun b o hb h0 => ?_) ⟨d, t, h, M, upd_same, ?_, fun r hr1 => ?_, asc_of srt ((perm.map (·.2)).nodup_iff.mpr fine.2.1), ⟨fun r hr1 => fine.1 r (perm.mem_iff.mp hr1), (perm.map (·.2)).nodup_iff.mpr fine.2.1, by rw [perm.length_eq]; exact fine.2.2⟩, ?_, fun k => ?_⟩ (perm.map (·.2))
      · rw [upd_ne hb]
        exact sm _ _ (k4 _ _ hb (s13 _ _ h0))
      · rw [upd_ne nta]
        exact sm _ _ (k4 _ _ nta et)
      · have z : Row H5 r.1 r.2 := sm _ _ (rowa (ss3.2 r (perm.mem_iff.mp hr1)))
        show upd _ _ _ _ = _
        rw [upd_ne (fun y => ?_)]
        · exact z
        · have z' : H5 r.1 = some (.tup (r.2.map V.int)) := z
          rw [y, ea5] at z'
          cases z'
      · rw [upd_ne nh]
        exact em
      · rw [hm k, (perm.map (·.2)).mem_iff]

theorem make_q {K : PySem.W.Frag} {H : Hp} {e x d : Addr} {L : List (Addr × List Int)} {Qv : VK} {E : XK} (hL : Rws K H e L) (fine : Edges L) (hx : H x = none) (hd : H d = none) (q : ∀ H' L', Same H H' → IsPic K H' x L' → (L'.map (·.2)).Perm (L.map (·.2)) → Qv .non H') :
    spInit K (.ref x :: ([.ref e] ++ [])) (upd (upd H d (.own x)) x (.ins (He.ga K "Picture") d [])) Qv E := by
  have up : Same H (upd (upd H d (.own x)) x (.ins (He.ga K "Picture") d [])) := fun b o e => by
    rw [upd_ne (ne_of_none e hx), upd_ne (ne_of_none e hd)]
    exact e
  exact ⟨x, d, e, L, rfl, upd_same, hL.same up, fine, fun H' L' k m pm => q H' L' (fun b o e => k b o (ne_of_none e hx) (up _ _ e)) m pm⟩
def spEdges (K : PySem.W.Frag) : Sp := fun vs H Q _ => ∃ (a : Addr) (L : List (Addr × List Int)), vs = [.ref a] ∧ IsPic K H a L ∧ ∀ t, H t = some (.tup (L.map fun q => V.ref q.1)) → Q (.ref t) H
theorem ok_edges (D : Ds K) (T : Tx K mg) : FnOk P w K mg base CX0 1 (dPicture_edges.adr K) D.fd_Picture_edges ["self"] (spEdges K) := by
  refine D.F_Picture_edges.ok scPicture_edges (fun vs H Q E h => ?_) (fun cdv A outer s H vs Q E hr h => ?_)
  · obtain ⟨a, L, rfl, _⟩ := h
    rfl
  · obtain ⟨a, L, rfl, ⟨d, t, h, M, h1, h2, h3, _⟩, q⟩ := h
    refine ⟨_, PSs.nox (pss_one (ps_ret (pe_fld (pv 0) rfl))), ?_⟩
    exact ⟨_, rfl, a, _, d, _, _, rfl, h1, T.c_Picture, T.n_Picture__edges, rfl, q t h2⟩
def spLen (K : PySem.W.Frag) : Sp := fun vs H Q _ => ∃ (a : Addr) (L : List (Addr × List Int)), vs = [.ref a] ∧ IsPic K H a L ∧ Q (.int (L.length : Nat)) H
theorem ok_len (D : Ds K) (T : Tx K mg) : FnOk P w K mg base CX0 1 (dPicture_len.adr K) D.fd_Picture_len ["self"] (spLen K) := by
  refine D.F_Picture_len.ok scPicture_len (fun vs H Q E h => ?_) (fun cdv A outer s H vs Q E hr h => ?_)
  · obtain ⟨a, L, rfl, _⟩ := h
    rfl
  · obtain ⟨a, L, rfl, ⟨d, t, h, M, h1, h2, h3, _⟩, q⟩ := h
    refine ⟨_, PSs.nox (pss_one (ps_ret (pe_callB call_len_seq (by rfl) T.z_len PySem.boot_len (pa_cons (pe_fld (pv 0) rfl) pa_nil)))), ?_⟩
    refine ⟨_, rfl, a, _, d, _, _, rfl, h1, T.c_Picture, T.n_Picture__edges, rfl, t, _, rfl, .inr (tupT h2), ?_⟩
    rw [List.length_map]
    exact q
def spCon (K : PySem.W.Frag) : Sp := fun vs H Q _ => ∃ (a : Addr) (v : V) (L : List (Addr × List Int)) (o : Option (List Int)), vs = [.ref a, v] ∧ IsPic K H a L ∧ Item H v o ∧ ∀ H', Same H H' → Q (.bl (match o with | some k => decide (k ∈ L.map (·.2)) | none => false)) H'
theorem ok_con (D : Ds K) (T : Tx K mg) : FnOk P w K mg base CX0 4 (dPicture_contains.adr K) D.fd_Picture_contains ["self", "x"] (spCon K) := by
  have G : FnOk P w K mg base CX0 3 _ _ _ spIsEdge := ok_isedge D T
  refine D.F_Picture_contains.ok scPicture_contains (fun vs H Q E h => ?_) (fun cdv A outer s H vs Q E hr h => ?_)
  · obtain ⟨a, b, L, k, rfl, _⟩ := h
    rfl
  · obtain ⟨a, v, L, o, rfl, hp, it, q⟩ := h
    refine ⟨_, PSs.nox (pss_one (ps_ret (pe_and (pe_call G hr (by rfl) T.g_is_edge D.F_is_edge.kp (b_is_edge D) .nil pass0 (pa_cons (pv 1) pa_nil)) (pe_one (pe_cmp (pc_din (hu_of hr) (pv 1) (pe_fld (pv 0) rfl))))))), ?_⟩
    refine ⟨_, rfl, v, o, rfl, it, fun H1 s1 => ⟨_, rfl, ?_⟩⟩
    cases o with
    | none => exact iteF (q H1 s1)
    | some k =>
      refine iteT ?_
      cases it with
      | @edge b _ hb he =>
        obtain ⟨d, t, h, M, h1, h2, h3, h4, h5, h6, h7⟩ := hp.same s1
        refine ⟨_, rfl, _, rfl, a, _, d, _, _, rfl, h1, T.c_Picture, T.n_Picture__has, rfl, h, _, rfl, DGet.t h6 (row_k (s1 _ _ hb)), ?_⟩
        have e : (valV (dI M) (kI k)).isSome = decide (k ∈ L.map (·.2)) := by
          rw [val_dI, Bool.eq_iff_iff, decide_eq_true_eq]
          exact h7 k
        rw [e]
        exact q H1 s1
def spEq (K : PySem.W.Frag) : Sp := fun vs H Q _ => ∃ (a : Addr) (y : V) (L : List (Addr × List Int)), vs = [.ref a, y] ∧ IsPic K H a L ∧ ((∃ b L2, y = .ref b ∧ IsPic K H b L2 ∧ Q (.bl (decide (L.map (·.2) = L2.map (·.2)))) H) ∨ ∃ t, Typ H y t ∧ Q (.bl false) H)
theorem Typ.kit_pic {H : Hp} {v : V} {t : String} (h : Typ H v t) (T : Tx K mg) : PySem.W.kitOne K (.type t) (.ref (He.ga K "Picture")) = some false := by
  cases h with
  | non => exact T.kt_none
  | bl => exact T.kt_bool
  | int => exact T.kt_int
  | str => exact T.kt_str
  | lst => exact T.kt_list
  | dT => exact T.kt_dict
  | tup => exact T.kt_tuple
theorem Typ.not_first {H : Hp} {v : V} {t : String} (h : Typ H v t) (T : Tx K mg) : PySem.W.notFirst K (He.ga K "Picture") (.type t) = true := by
  cases h with
  | non => exact T.nf_none
  | bl => exact T.nf_bool
  | int => exact T.nf_int
  | str => exact T.nf_str
  | lst => exact T.nf_list
  | dT => exact T.nf_dict
  | tup => exact T.nf_tuple
theorem ok_eq (D : Ds K) (T : Tx K mg) : FnOk P w K mg base CX0 1 (dPicture_eq.adr K) D.fd_Picture_eq ["self", "other"] (spEq K) := by
  refine D.F_Picture_eq.ok scPicture_eq (fun vs H Q E h => ?_) (fun cdv A outer s H vs Q E hr h => ?_)
  · obtain ⟨a, y, L, rfl, _⟩ := h
    rfl
  · obtain ⟨a, y, L, rfl, hp, q⟩ := h
    obtain ⟨d, t, h, M, h1, h2, h3, _⟩ := id hp
    refine ⟨_, PSs.nox (pss_one (ps_ret (pe_and (pe_callB call_isiY (by rfl) T.z_isinstance (by decide +kernel) (pa_cons (pv 1) (pa_cons (pe_glob (v := .ref (He.ga K "Picture")) rfl T.g_Picture rfl) pa_nil)))
      (pe_one (pe_cmpR (op_eqD hr.units) (pe_fld (pv 0) rfl) (pe_fld (pv 1) rfl) (nomark _)))))), ?_⟩
    rcases q with ⟨b, L2, rfl, hp2, q⟩ | ⟨t, ht, q⟩
    · obtain ⟨d', t', h', M', g1, g2, g3, _⟩ := id hp2
      refine ⟨_, rfl, _, .ref (He.ga K "Picture"), _, _, true, rfl, .own _, .base (.base (.ins g1 T.c_Picture T.i_Picture.ha T.i_Picture.hn T.i_Picture.ht T.i_Picture.hm)), T.t_Picture, true, rfl, iteT ?_⟩
      refine ⟨_, rfl, a, _, d, _, _, rfl, h1, T.c_Picture, T.n_Picture__edges, rfl, _, rfl, b, _, d', _, _, rfl, g1, T.c_Picture, T.n_Picture__edges, rfl, _, _, dp_tups h2 h3, dp_tups g2 g3, shaped_tups _, shaped_tups _, ?_⟩
      rw [tups_dec]
      exact q
    · exact ⟨_, rfl, _, .ref (He.ga K "Picture"), _, _, false, rfl, .own _, ht.ty, ht.kit_pic T, false, rfl, iteF q⟩
end
end K45

set_option Elab.async false
set_option linter.all false
set_option maxRecDepth 100000
set_option maxHeartbeats 4000000
namespace PySem
open PySem.SeqAt PyProof.Rows PySem.W
section
variable {prog : Program} {w : World} {A : Around} {E : Value → Shared → Prop} {s : Shared}
theorem call_min_twoH {a b : Value} {Q : Value → Shared → Prop}
    (h : wpAny (model prog w) A.in1 (pyIter (.ref s.heap.objs.size)) (fun it s₂ => ∃ I fp wr G n P St H bt, it = .ref I ∧ WalksS prog w A.in1 I fp wr G n P St ∧ St 0 s₂ ∧ (∀ b ∈ fp, b < s₂.heap.objs.size) ∧ 0 < n ∧
      (∀ b o, H.get? b = some o → b ∉ wr) ∧ (∀ b o, H.get? b = some o → s₂.heap.get? b = some o) ∧ CmpIn prog w A.in1 .Lt H P bt ∧ ∀ v s', P (argBest bt (n - 1)) v → Moved wr G s₂ s' → Q v s') E
      { s with heap := s.heap.push { cls := .type "tuple", data := .seq #[a, b] } }) :
    wpAny (model prog w) A (call (.builtin "min") [a, b]) Q E s := by
  have hname : (toString "min" ++ toString ".loop" : String) = "min.loop" := by decide
  refine call_function_tree F.kind_min F.plain_min F.entry_min (F.args_min2 _ _) ?_
  show wpAny _ A.in1 (Builtin.Builtins.bindParams "min" ["key", "default"] 0 ⟨[], []⟩ >>= _) _ _ s
  refine wpAny_bind (wpAny_of_eq (show Builtin.Builtins.bindParams "min" ["key", "default"] 0 ⟨[], []⟩ = pure [none, none] from rfl) ?_)
  show wpAny _ A.in1 (newTuple [a, b] >>= _) _ _ s
  refine wpAny_bind (wpAny_newObj_type ?_)
  refine wpAny_bind (wpAny_mono h (fun it s₂ h₂ => ?_) fun _ _ e => e)
  obtain ⟨I, fp, wr, G, n, P, St, H, bt, rfl, W, hst, hfp, hn, hw, hkeep, hcmp, hQ⟩ := h₂
  refine wpAny_bind (wpAny_newObj_type ?_)
  have hSf : s₂.heap.objs.size ∉ fp := fun hm => Nat.lt_irrefl _ (hfp _ hm)
  rw [hname]
  refine wpAny_pure ⟨plainId_quiet F.plain_min_loop _, codeAny_min_loop_firstH W H hw bt hcmp s₂.heap.objs.size hSf (fresh_in hkeep) _ hn (fun b o e => Heap.get?_push_of_some _ (hkeep b o e)) (W.frame 0 s₂ _ s₂.toks hst (Nat.le_refl _) fun b _ o e => Heap.get?_push_of_some _ e) (Heap.get?_push_size _ rfl) fun v s' hP hm => ?_⟩
  exact hQ v s' hP (Moved.drop_new (tk := s₂.toks) hm (Nat.le_refl _))
/-- min(a, b) of data -/
theorem call_min_data {a b : Value} {da db : PyData} {as bs : List Addr} {Q : Value → Shared → Prop} (hh : A.handled = none) (ra : Reads s.heap a da as) (rb : Reads s.heap b db bs) (al : AlikeAll [da, db]) (hu : A.units + 1 + PyData.depthAll [da, db] < cLine)
    (h : ∀ h' tk, (∀ c o, s.heap.get? c = some o → h'.get? c = some o) → Q (if dataLt db da = true then b else a) { s with heap := h', toks := tk }) :
    wpAny (model prog w) A (call (.builtin "min") [a, b]) Q E s := by
  have up : ∀ c o, s.heap.get? c = some o → (s.heap.push { cls := .type "tuple", data := .seq #[a, b] }).get? c = some o := fun c o e => Heap.get?_push_of_some _ e
  have hT : (s.heap.push { cls := .type "tuple", data := .seq #[a, b] }).IsTuple s.heap.objs.size #[a, b] := ⟨_, Heap.get?_push_size _ rfl, rfl, 0, rfl⟩
  have hr : ReadsAll (s.heap.push { cls := .type "tuple", data := .seq #[a, b] }) #[a, b].toList [da, db] (as ++ (bs ++ [])) := .cons (W.reads_keeps up ra) (.cons (W.reads_keeps up rb) .nil)
  refine call_min_twoH (W.iter_tupleW (A := A.in1) (s := { s with heap := s.heap.push { cls := .type "tuple", data := .seq #[a, b] } }) hh hT fun s₂ e WW st hfp hw hk => ?_)
  refine ⟨_, _, _, _, _, _, _, s.heap.push { cls := .type "tuple", data := .seq #[a, b] }, _, rfl, WW, st, hfp, by show 0 < 2; decide, hw, hk, W.cmpIn_lt (A := A.in1) (s := { s with heap := s.heap.push { cls := .type "tuple", data := .seq #[a, b] } }) hr al (by show A.units + 1 + _ < _; exact hu), fun v s' hP m => ?_⟩
  obtain ⟨h', tk, rfl, hk'⟩ := W.moved_old (s := { s with heap := s.heap.push { cls := .type "tuple", data := .seq #[a, b] } }) e rfl m
  have hv : v = if dataLt db da = true then b else a := by
    have hP : #[a, b][argBest (fun i j => dataLt ([da, db].getD i .none) ([da, db].getD j .none)) 1]? = some v := hP
    cases hc : dataLt db da <;> simp [argBest, hc] at hP <;> simp [hP]
  rw [hv]
  exact h h' tk fun c o e => hk' c o (up c o e)
theorem call_max_twoH {a b : Value} {Q : Value → Shared → Prop}
    (h : wpAny (model prog w) A.in1 (pyIter (.ref s.heap.objs.size)) (fun it s₂ => ∃ I fp wr G n P St H bt, it = .ref I ∧ WalksS prog w A.in1 I fp wr G n P St ∧ St 0 s₂ ∧ (∀ b ∈ fp, b < s₂.heap.objs.size) ∧ 0 < n ∧
      (∀ b o, H.get? b = some o → b ∉ wr) ∧ (∀ b o, H.get? b = some o → s₂.heap.get? b = some o) ∧ CmpIn prog w A.in1 .Gt H P bt ∧ ∀ v s', P (argBest bt (n - 1)) v → Moved wr G s₂ s' → Q v s') E
      { s with heap := s.heap.push { cls := .type "tuple", data := .seq #[a, b] } }) :
    wpAny (model prog w) A (call (.builtin "max") [a, b]) Q E s := by
  have hname : (toString "max" ++ toString ".loop" : String) = "max.loop" := by decide
  refine call_function_tree F.kind_max F.plain_max F.entry_max (F.args_max2 _ _) ?_
  show wpAny _ A.in1 (Builtin.Builtins.bindParams "max" ["key", "default"] 0 ⟨[], []⟩ >>= _) _ _ s
  refine wpAny_bind (wpAny_of_eq (show Builtin.Builtins.bindParams "max" ["key", "default"] 0 ⟨[], []⟩ = pure [none, none] from rfl) ?_)
  show wpAny _ A.in1 (newTuple [a, b] >>= _) _ _ s
  refine wpAny_bind (wpAny_newObj_type ?_)
  refine wpAny_bind (wpAny_mono h (fun it s₂ h₂ => ?_) fun _ _ e => e)
  obtain ⟨I, fp, wr, G, n, P, St, H, bt, rfl, W, hst, hfp, hn, hw, hkeep, hcmp, hQ⟩ := h₂
  refine wpAny_bind (wpAny_newObj_type ?_)
  have hSf : s₂.heap.objs.size ∉ fp := fun hm => Nat.lt_irrefl _ (hfp _ hm)
  rw [hname]
  refine wpAny_pure ⟨plainId_quiet F.plain_max_loop _, codeAny_max_loop_firstH W H hw bt hcmp s₂.heap.objs.size hSf (fresh_in hkeep) _ hn (fun b o e => Heap.get?_push_of_some _ (hkeep b o e)) (W.frame 0 s₂ _ s₂.toks hst (Nat.le_refl _) fun b _ o e => Heap.get?_push_of_some _ e) (Heap.get?_push_size _ rfl) fun v s' hP hm => ?_⟩
  exact hQ v s' hP (Moved.drop_new (tk := s₂.toks) hm (Nat.le_refl _))
/-- max(a, b) of data -/
theorem call_max_data {a b : Value} {da db : PyData} {as bs : List Addr} {Q : Value → Shared → Prop} (hh : A.handled = none) (ra : Reads s.heap a da as) (rb : Reads s.heap b db bs) (al : AlikeAll [da, db]) (hu : A.units + 1 + PyData.depthAll [da, db] < cLine)
    (h : ∀ h' tk, (∀ c o, s.heap.get? c = some o → h'.get? c = some o) → Q (if dataLt da db = true then b else a) { s with heap := h', toks := tk }) :
    wpAny (model prog w) A (call (.builtin "max") [a, b]) Q E s := by
  have up : ∀ c o, s.heap.get? c = some o → (s.heap.push { cls := .type "tuple", data := .seq #[a, b] }).get? c = some o := fun c o e => Heap.get?_push_of_some _ e
  have hT : (s.heap.push { cls := .type "tuple", data := .seq #[a, b] }).IsTuple s.heap.objs.size #[a, b] := ⟨_, Heap.get?_push_size _ rfl, rfl, 0, rfl⟩
  have hr : ReadsAll (s.heap.push { cls := .type "tuple", data := .seq #[a, b] }) #[a, b].toList [da, db] (as ++ (bs ++ [])) := .cons (W.reads_keeps up ra) (.cons (W.reads_keeps up rb) .nil)
  refine call_max_twoH (W.iter_tupleW (A := A.in1) (s := { s with heap := s.heap.push { cls := .type "tuple", data := .seq #[a, b] } }) hh hT fun s₂ e WW st hfp hw hk => ?_)
  refine ⟨_, _, _, _, _, _, _, s.heap.push { cls := .type "tuple", data := .seq #[a, b] }, _, rfl, WW, st, hfp, by show 0 < 2; decide, hw, hk, W.cmpIn_gt (A := A.in1) (s := { s with heap := s.heap.push { cls := .type "tuple", data := .seq #[a, b] } }) hr al (by show A.units + 1 + _ < _; exact hu), fun v s' hP m => ?_⟩
  obtain ⟨h', tk, rfl, hk'⟩ := W.moved_old (s := { s with heap := s.heap.push { cls := .type "tuple", data := .seq #[a, b] } }) e rfl m
  have hv : v = if dataLt da db = true then b else a := by
    have hP : #[a, b][argBest (fun i j => dataLt ([da, db].getD j .none) ([da, db].getD i .none)) 1]? = some v := hP
    cases hc : dataLt da db <;> simp [argBest, hc] at hP <;> simp [hP]
  rw [hv]
  exact h h' tk fun c o e => hk' c o (up c o e)
end
end PySem
namespace TT
open PySem PySem.Spec PyProof.Rows L2 RT
theorem alike_pts (x y x' y' : Int) : PySem.W.AlikeAll [.tuple [.int x, .int y], .tuple [.int x', .int y']] := by
  refine ⟨fun u hu v hv => ?_, fun u hu => ?_⟩
  · simp only [List.mem_cons, List.not_mem_nil, or_false] at hu hv
    rcases hu with rfl | rfl <;> rcases hv with rfl | rfl <;> rfl
  · simp only [List.mem_cons, List.not_mem_nil, or_false] at hu
    rcases hu with rfl | rfl <;> exact fun z => nomatch z
theorem depth_pts (x y x' y' : Int) : PyData.depthAll [.tuple [.int x, .int y], .tuple [.int x', .int y']] ≤ 2 := by
  simp [PyData.depthAll, PyData.depth]
section
variable {X : Cx}
def rPick (less : Int × Int → Int × Int → Prop) [∀ p q, Decidable (less p q)] : List V → Hp → VK → Prop := fun xs H Q => ∃ (a b : Addr) (x y x' y' : Int), xs = [.ref a, .ref b] ∧ H a = some (.tup [.int x, .int y]) ∧ H b = some (.tup [.int x', .int y']) ∧
  Q (if less (x, y) (x', y') then .ref b else .ref a) H
abbrev ltPt (p q : Int × Int) : Prop := p.1 < q.1 ∨ (p.1 = q.1 ∧ p.2 < q.2)
theorem dp_pt {K : PySem.W.Frag} {H : Hp} {a : Addr} {x y : Int} (h : H a = some (.tup [.int x, .int y])) : Dp K H (.ref a) (.tuple [.int x, .int y]) := .tup (.inl (.inl h)) (.cons (.int _) (.cons (.int _) .nil))
theorem cr_min2 (hc : X.calm = true) (hu : X.A.units + 64 < cLine) : CallR X (.builtin "min") (rPick fun p q => ltPt q p) := by
  intro pins s σ H xs us Q I r h
  obtain ⟨a, b, x, y, x', y', rfl, ha, hb, q⟩ := h
  obtain ⟨u, v, rfl, r1, r2⟩ := RT.vals2' r
  obtain ⟨as, d1⟩ := Dp.reads I _ _ _ (dp_pt (K := X.K) ha) r1
  obtain ⟨bs, d2⟩ := Dp.reads I _ _ _ (dp_pt (K := X.K) hb) r2
  have dp := depth_pts x y x' y'
  refine call_min_data (I.ok.hd hc) d1 d2 (alike_pts ..) (by omega) fun h' tk k => ⟨_, H, I.kept k, ?_, q⟩
  rw [PySem.W.dataLt_ii]
  by_cases c : ltPt (x', y') (x, y)
  · rw [if_pos c, if_pos (decide_eq_true c)]
    exact r2
  · rw [if_neg c, if_neg (by rw [decide_eq_true_eq]; exact c)]
    exact r1
theorem cr_max2 (hc : X.calm = true) (hu : X.A.units + 64 < cLine) : CallR X (.builtin "max") (rPick fun p q => ltPt p q) := by
  intro pins s σ H xs us Q I r h
  obtain ⟨a, b, x, y, x', y', rfl, ha, hb, q⟩ := h
  obtain ⟨u, v, rfl, r1, r2⟩ := RT.vals2' r
  obtain ⟨as, d1⟩ := Dp.reads I _ _ _ (dp_pt (K := X.K) ha) r1
  obtain ⟨bs, d2⟩ := Dp.reads I _ _ _ (dp_pt (K := X.K) hb) r2
  have dp := depth_pts x y x' y'
  refine call_max_data (I.ok.hd hc) d1 d2 (alike_pts ..) (by omega) fun h' tk k => ⟨_, H, I.kept k, ?_, q⟩
  rw [PySem.W.dataLt_ii]
  by_cases c : ltPt (x, y) (x', y')
  · rw [if_pos c, if_pos (decide_eq_true c)]
    exact r2
  · rw [if_neg c, if_neg (by rw [decide_eq_true_eq]; exact c)]
    exact r1
end
end TT

set_option Elab.async false
set_option linter.all false
set_option maxRecDepth 100000
set_option maxHeartbeats 4000000
set_option exponentiation.threshold 600
namespace K45
open PySem PySem.Spec PyProof.Rows L2 RT TT PC
/-- the edge between two points, if there is one -/
def btw (x y x' y' : Int) : Option (List Int) := if ((x - x').natAbs : Int) + ((y - y').natAbs : Int) = 1 then some [if x' < x then x' else x, if y' < y then y' else y, ((y - y').natAbs : Int)] else none
def BtwAt (H : Hp) : V → Option (List Int) → Prop
  | v, none => v = .non
  | v, some k => ∃ r, v = .ref r ∧ Row H r k
theorem BtwAt.same {H H' : Hp} {v : V} {o : Option (List Int)} (h : BtwAt H v o) (e : Same H H') : BtwAt H' v o := by
  cases o with
  | none => exact h
  | some k =>
    obtain ⟨r, e1, e2⟩ := h
    exact ⟨r, e1, e _ _ e2⟩
theorem btw_swap (x y x' y' : Int) : btw x' y' x y = btw x y x' y' := by
  unfold btw
  by_cases c : ((x - x').natAbs : Int) + ((y - y').natAbs : Int) = 1
  · rw [if_pos c, if_pos (by omega)]
    have e1 : (if x < x' then x else x') = if x' < x then x' else x := by split <;> split <;> omega
    have e2 : (if y < y' then y else y') = if y' < y then y' else y := by split <;> split <;> omega
    have e3 : ((y' - y).natAbs : Int) = ((y - y').natAbs : Int) := by omega
    rw [e1, e2, e3]
  · rw [if_neg c, if_neg (by omega)]
section
variable {P : Program} {w : World} {K : PySem.W.Frag} {mg : Str → Option Value} {base : Heap}
def spBtw : Sp := fun vs H Q _ => ∃ (a b : Addr) (x y x' y' : Int), vs = [.ref a, .ref b] ∧ Row H a [x, y] ∧ Row H b [x', y'] ∧ ∀ v H', Same H H' → BtwAt H' v (btw x y x' y') → Q v H'
theorem ok_btw0 (D : Ds K) (T : Tx K mg) : FnOk P w K mg base CX0 1 (d_edge_between.adr K) D.fd__edge_between ["point", "other_point"] spBtw := by
  refine D.F__edge_between.ok sc_edge_between (fun vs H Q E h => ?_) (fun cdv A outer s H vs Q E hr h => ?_)
  · obtain ⟨a, b, x, y, x', y', rfl, _⟩ := h
    rfl
  · obtain ⟨a, b, x, y, x', y', rfl, ha, hb, q⟩ := h
    have nd := sc_edge_between.nd
    refine ⟨_, PSs.nox (pss_cons (ps_asg (pe_callB (cr_min2 rfl hr.units) (by rfl) T.z_min (by decide +kernel) (pa_cons (pv 0) (pa_cons (pv 1) pa_nil))) (pg_tup (by rfl) (pgs_cons (pg_name (i := 2) nd rfl (.inl rfl)) (pgs_cons (pg_name (i := 3) nd rfl (.inl rfl)) pgs_nil))))
      (pss_cons (ps_set (i := 4) nd rfl (.inl rfl) (pe_callB (cr_max2 rfl hr.units) (by rfl) T.z_max (by decide +kernel) (pa_cons (pv 0) (pa_cons (pv 1) pa_nil))))
      (pss_cons (ps_if (pt_cmpR (op_eqD hr.units) (pv 4) (pe_tup (pa_cons (pe_op op_add (pv 2) pe_int) (pa_cons (pv 3) pa_nil))) (nomark _)) (pss_one (ps_ret (pe_tup (pa_cons (pv 2) (pa_cons (pv 3) (pa_cons pe_int pa_nil)))))) pss_nil)
      (pss_cons (ps_if (pt_cmpR (op_eqD hr.units) (pv 4) (pe_tup (pa_cons (pv 2) (pa_cons (pe_op op_add (pv 3) pe_int) pa_nil))) (nomark _)) (pss_one (ps_ret (pe_tup (pa_cons (pv 2) (pa_cons (pv 3) (pa_cons pe_int pa_nil)))))) pss_nil)
      (pss_one (ps_ret pe_non)))))), ?_⟩
    obtain ⟨lo, u, v, hi, r, s', elo, ehi, hlo, hhi, hmin, hmax⟩ : ∃ (lo : Addr) (u v : Int) (hi : Addr) (r s' : Int), (if ltPt (x', y') (x, y) then V.ref b else V.ref a) = .ref lo ∧ (if ltPt (x, y) (x', y') then V.ref b else V.ref a) = .ref hi ∧ Row H lo [u, v] ∧ Row H hi [r, s'] ∧
        ((ltPt (x', y') (x, y) ∧ u = x' ∧ v = y' ∧ r = x ∧ s' = y) ∨ (¬ ltPt (x', y') (x, y) ∧ u = x ∧ v = y ∧ ((ltPt (x, y) (x', y') ∧ r = x' ∧ s' = y') ∨ (¬ ltPt (x, y) (x', y') ∧ r = x ∧ s' = y)))) ∧ True := by
      by_cases c : ltPt (x', y') (x, y)
      · have c2 : ¬ ltPt (x, y) (x', y') := by
          have c : x' < x ∨ (x' = x ∧ y' < y) := c
          show ¬ (x < x' ∨ (x = x' ∧ y < y'))
          omega
        exact ⟨b, x', y', a, x, y, if_pos c, if_neg c2, hb, ha, .inl ⟨c, rfl, rfl, rfl, rfl⟩, trivial⟩
      · by_cases c2 : ltPt (x, y) (x', y')
        · exact ⟨a, x, y, b, x', y', if_neg c, if_pos c2, ha, hb, .inr ⟨c, rfl, rfl, .inl ⟨c2, rfl, rfl⟩⟩, trivial⟩
        · exact ⟨a, x, y, a, x, y, if_neg c, if_neg c2, ha, ha, .inr ⟨c, rfl, rfl, .inr ⟨c2, rfl, rfl⟩⟩, trivial⟩
    refine ⟨_, rfl, _, rfl, a, b, x, y, x', y', rfl, ha, hb, ?_⟩
    rw [elo]
    refine ⟨lo, _, rfl, tupT hlo, rfl, _, _, rfl, _, _, rfl, rfl, ?_⟩
    refine ⟨_, rfl, _, rfl, a, b, x, y, x', y', rfl, ha, hb, ?_⟩
    rw [ehi]
    refine ⟨_, rfl, _, rfl, _, _, rfl, rfl, _, rfl, big2, fun p1 hp1 => ?_⟩
    have s1 := same_new (o := .tup [.int (u + 1), .int v]) hp1
    have q1 : Row (upd H p1 (.tup [.int (u + 1), .int v])) p1 [u + 1, v] := upd_same
    refine ⟨rowD [r, s'], rowD [u + 1, v], .tup (tupT (s1 _ _ hhi)) (dp_ints [r, s']), .tup (tupT q1) (dp_ints [u + 1, v]), rfl, rfl, ?_⟩
    rw [show PyData.eqv (rowD [r, s']) (rowD [u + 1, v]) = decide (([r, s'] : List Int) = [u + 1, v]) from by rw [PyData.eqv]; exact row_dec [r, s'] [u + 1, v]]
    have two : ∀ i j m n : Int, ([i, j] : List Int) = [m, n] ↔ i = m ∧ j = n := fun i j m n => by simp
    simp only [ltPt] at hmin
    refine ⟨_, rfl, ?_⟩
    by_cases e : ([r, s'] : List Int) = [u + 1, v]
    · refine ite_t (decide_eq_true e) ?_
      rw [two] at e
      refine ⟨_, rfl, _, rfl, big3, fun p hp => q _ _ (s1.trans (same_new hp)) ?_⟩
      have eb : btw x y x' y' = some [u, v, 0] := by
        unfold btw
        rw [if_pos (by omega)]
        have e1 : (if x' < x then x' else x) = u := by split <;> omega
        have e2 : (if y' < y then y' else y) = v := by split <;> omega
        have e3 : ((y - y').natAbs : Int) = 0 := by omega
        rw [e1, e2, e3]
      rw [eb]
      exact ⟨p, rfl, upd_same⟩
    · refine ite_f (decide_eq_false e) ?_
      rw [two] at e
      refine ⟨_, rfl, _, rfl, _, rfl, _, _, rfl, rfl, big2, fun p2 hp2 => ?_⟩
      have s2 := same_new (o := .tup [.int u, .int (v + 1)]) hp2
      have q2 : Row (upd (upd H p1 (.tup [.int (u + 1), .int v])) p2 (.tup [.int u, .int (v + 1)])) p2 [u, v + 1] := upd_same
      refine ⟨rowD [r, s'], rowD [u, v + 1], .tup (tupT (s2 _ _ (s1 _ _ hhi))) (dp_ints [r, s']), .tup (tupT q2) (dp_ints [u, v + 1]), rfl, rfl, ?_⟩
      rw [show PyData.eqv (rowD [r, s']) (rowD [u, v + 1]) = decide (([r, s'] : List Int) = [u, v + 1]) from by rw [PyData.eqv]; exact row_dec [r, s'] [u, v + 1]]
      refine ⟨_, rfl, ?_⟩
      by_cases e2 : ([r, s'] : List Int) = [u, v + 1]
      · refine ite_t (decide_eq_true e2) ?_
        rw [two] at e2
        refine ⟨_, rfl, _, rfl, big3, fun p hp => q _ _ (s1.trans (s2.trans (same_new hp))) ?_⟩
        have eb : btw x y x' y' = some [u, v, 1] := by
          unfold btw
          rw [if_pos (by omega)]
          have e1 : (if x' < x then x' else x) = u := by split <;> omega
          have e3 : (if y' < y then y' else y) = v := by split <;> omega
          have e4 : ((y - y').natAbs : Int) = 1 := by omega
          rw [e1, e3, e4]
        rw [eb]
        exact ⟨p, rfl, upd_same⟩
      · refine ite_f (decide_eq_false e2) ?_
        rw [two] at e2
        refine q _ _ (s1.trans s2) ?_
        have eb : btw x y x' y' = none := by
          unfold btw
          rw [if_neg (by omega)]
        rw [eb]
        rfl
theorem ok_btw (D : Ds K) (T : Tx K mg) : FnOk P w K mg base CX0 4 (dedge_between.adr K) D.fd_edge_between ["point", "other_point"] spBtw := by
  have G1 : FnOk P w K mg base CX0 3 _ _ _ spCkPt := ok_ckpt D T
  have G2 : FnOk P w K mg base CX0 1 _ _ _ spBtw := ok_btw0 D T
  refine D.F_edge_between.ok scedge_between (fun vs H Q E h => ?_) (fun cdv A outer s H vs Q E hr h => ?_)
  · obtain ⟨a, b, x, y, x', y', rfl, _⟩ := h
    rfl
  · obtain ⟨a, b, x, y, x', y', rfl, ha, hb, q⟩ := h
    refine ⟨_, PSs.nox (pss_cons (ps_expr (pe_call G1 hr (by rfl) T.g_check_point D.F_check_point.kp (b_check_point D) .nil pass0 (pa_cons (pv 0) pa_nil)))
      (pss_cons (ps_expr (pe_call G1 hr (by rfl) T.g_check_point D.F_check_point.kp (b_check_point D) .nil pass0 (pa_cons (pv 1) pa_nil)))
      (pss_one (ps_ret (pe_call G2 (hr.mono (by decide)) (by rfl) T.g__edge_between D.F__edge_between.kp (b__edge_between D) .nil pass0 (pa_cons (pv 0) (pa_cons (pv 1) pa_nil))))))), ?_⟩
    exact ⟨_, rfl, a, x, y, rfl, ha, _, rfl, b, x', y', rfl, hb, _, rfl, _, rfl, a, b, x, y, x', y', rfl, ha, hb, q⟩
end
end K45

set_option Elab.async false
set_option linter.all false
set_option maxRecDepth 100000
set_option maxHeartbeats 8000000
set_option exponentiation.threshold 600
namespace K45
open PySem PySem.Spec PyProof.Rows L2 RT TT PC
theorem p38 : (10 : Int) ^ ((38 : Int).toNat) = 100000000000000000000000000000000000000 := by decide
theorem p43 : (10 : Int) ^ ((43 : Int).toNat) = 10000000000000000000000000000000000000000000 := by decide
theorem p41 : (10 : Int) ^ ((41 : Int).toNat) = 100000000000000000000000000000000000000000 := by decide
theorem p30 : (10 : Int) ^ ((30 : Int).toNat) = 1000000000000000000000000000000 := by decide
theorem p29 : (10 : Int) ^ ((29 : Int).toNat) = 100000000000000000000000000000 := by decide
section
variable {P : Program} {w : World} {K : PySem.W.Frag} {mg : Str → Option Value} {base : Heap}
def spWell (K : PySem.W.Frag) : Sp := fun vs H Q _ => ∃ (a : Addr) (ns : List Int) (k : Nat), vs = [.ref a, .int k] ∧ SqL K H a (ns.map V.int) ∧ k ≤ 100 ∧ ∀ t H', Same H H' → H t = none → Tk H' t 0 → Q (.ref t) H'
theorem ok_well (D : Ds K) (T : Tx K mg) : FnOk P w K mg base CX0 1 (d_law_fount.adr K) D.fd__law_fount ["script", "k"] (spWell K) := by
  refine D.F__law_fount.ok sc_law_fount (fun vs H Q E h => ?_) (fun cdv A outer s H vs Q E hr h => ?_)
  · obtain ⟨a, ns, k, rfl, _⟩ := h
    rfl
  · obtain ⟨a, ns, k, rfl, hS, hk, q⟩ := h
    have nd := sc_law_fount.nd
    refine ⟨_, PSs.nox (pss_cons (ps_set (i := 2) nd rfl (.inl rfl) pe_int)
      (pss_cons (ps_if (pt_cmpR op_lt (pv 1) (pe_callB call_len_seq (by rfl) T.z_len PySem.boot_len (pa_cons (pv 0) pa_nil)) (nomark _)) (pss_one (ps_set (i := 2) nd rfl (.inl rfl) (pe_ix ix_list (pv 0) (pv 1) (fun _ _ => rfl)))) pss_nil)
      (pss_one (ps_ret (pe_lst (pa_cons (pe_callB (call_max2 rfl) (by rfl) T.z_max (by decide +kernel) (pa_cons pe_int (pa_cons (pe_op op_sub (pv 2) (pe_op op_pow pe_int pe_int)) pa_nil)))
        (pa_cons (pe_op op_add (pe_op op_mul (pe_op op_mod (pv 2) (pe_op op_add (pe_op op_pow pe_int pe_int) pe_int)) pe_int) (pv 1)) (pa_cons pe_int pa_nil)))))))), ?_⟩
    refine ⟨_, rfl, _, rfl, a, _, rfl, .inl hS, _, _, rfl, rfl, _, rfl, ite2 (fun e => ?_) (fun e => ?_)⟩
    · have hk2 : k < ns.length := by
        have e2 := of_decide_eq_true e
        rw [List.length_map] at e2
        omega
      have g : (ns.map V.int)[k]? = some (.int ns[k]) := by
        rw [List.getElem?_map, List.getElem?_eq_getElem hk2]
        rfl
      refine ⟨_, rfl, _, rfl, a, _, _, _, rfl, rfl, hS, atI_nat g, ?_⟩
      refine ⟨_, rfl, _, _, rfl, rfl, pw_ok (by decide) (by decide), _, _, rfl, rfl, _, _, rfl, ?_⟩
      refine ⟨_, rfl, _, _, rfl, rfl, pw_ok (by decide) (by decide), _, _, rfl, rfl, _, _, rfl, rfl, (by show (0 : Int) < _; rw [p38]; decide), _, _, rfl, rfl, .inr ⟨by decide, by decide⟩, _, rfl, _, _, rfl, rfl, by show 3 ≤ sizeLine; decide, fun p hp => ?_⟩
      exact q p _ (same_new hp) hp ⟨_, _, upd_same, by split <;> omega, by rw [p38]; omega, by rw [p38]; omega⟩
    · refine ⟨_, rfl, _, _, rfl, rfl, pw_ok (by decide) (by decide), _, _, rfl, rfl, _, _, rfl, ?_⟩
      refine ⟨_, rfl, _, _, rfl, rfl, pw_ok (by decide) (by decide), _, _, rfl, rfl, _, _, rfl, rfl, (by show (0 : Int) < _; rw [p38]; decide), _, _, rfl, rfl, .inr ⟨by decide, by decide⟩, _, rfl, _, _, rfl, rfl, by show 3 ≤ sizeLine; decide, fun p hp => ?_⟩
      exact q p _ (same_new hp) hp ⟨_, _, upd_same, by split <;> omega, by rw [p38]; omega, by rw [p38]; omega⟩
def spDip : Sp := fun vs H Q _ => ∃ (t : Addr) (b : Int) (c : Nat), vs = [.ref t, .int b] ∧ Tk H t c ∧ c ≤ 100000 ∧ 1 ≤ b ∧ b.natAbs < 2 ^ 400 ∧
  ∀ (v : Int) (c' : Nat) H', Keep t H H' → Tk H' t c' → c ≤ c' → c' ≤ c + 1 → 0 ≤ v → v < b → Q (.int v) H'
theorem ok_dip (D : Ds K) (T : Tx K mg) : FnOk P w K mg base CX0 1 (d_law_sip.adr K) D.fd__law_sip ["fount", "many"] spDip := by
  refine D.F__law_sip.ok sc_law_sip (fun vs H Q E h => ?_) (fun cdv A outer s H vs Q E hr h => ?_)
  · obtain ⟨t, b, c, rfl, _⟩ := h
    rfl
  · obtain ⟨t, b, c, rfl, ⟨A1, B, et, hA, hB, hB2⟩, hc, hb, hb2, q⟩ := h
    have nd := sc_law_sip.nd
    refine ⟨_, PSs.nox (pss_cons (ps_if (pt_cmpR op_gt (pe_ix ix_list (pv 0) pe_int (fun _ _ => rfl)) pe_int (nomark _))
        (pss_cons (ps_set (i := 2) nd rfl (.inl rfl) (pe_op op_mod (pe_ix ix_list (pv 0) pe_int (fun _ _ => rfl)) (pv 1)))
          (pss_cons (ps_asg (pe_op op_fdivW (pe_ix ix_list (pv 0) pe_int (fun _ _ => rfl)) (pv 1)) (pg_sub (pv 0) pe_int set_list)) (pss_one (ps_ret (pv 2))))) pss_nil)
      (pss_cons (ps_asg (pe_op op_add (pe_ix ix_list (pv 0) pe_int (fun _ _ => rfl)) pe_int) (pg_sub (pv 0) pe_int set_list))
      (pss_cons (ps_set (i := 3) nd rfl (.inl rfl) (pe_op op_mod (pe_op op_powW (pe_op op_add (pe_ix ix_list (pv 0) pe_int (fun _ _ => rfl)) (pe_op op_mul pe_int (pe_ix ix_list (pv 0) pe_int (fun _ _ => rfl)))) pe_int) (pe_op op_add (pe_op op_pow pe_int pe_int) pe_int)))
      (pss_cons (ps_set (i := 3) nd rfl (.inl rfl) (pe_op op_mod (pe_op op_powW (pe_op op_add (pv 3) (pe_op op_mul pe_int (pe_ix ix_list (pv 0) pe_int (fun _ _ => rfl)))) pe_int) (pe_op op_add (pe_op op_pow pe_int pe_int) pe_int)))
      (pss_one (ps_ret (pe_op op_mod (pe_op op_fdivW (pv 3) pe_int) (pv 1)))))))), ?_⟩
    have g0 : atI [V.int A1, V.int B, V.int c] 0 = some (.int A1) := atI_nat (j := 0) rfl
    refine ⟨_, rfl, t, _, 0, _, rfl, rfl, lstL et, g0, _, _, rfl, rfl, _, rfl, ite2 (fun e => ?_) (fun e => ?_)⟩
    · have e0 : 0 < A1 := of_decide_eq_true e
      refine ⟨_, rfl, t, _, 0, _, rfl, rfl, lstL et, g0, _, rfl, _, _, rfl, rfl, hb, ?_⟩
      refine ⟨_, rfl, t, _, 0, _, rfl, rfl, lstL et, g0, _, rfl, _, _, rfl, rfl, wide_div (b := 400) (by omega) hb2 (by decide) (by decide), ?_⟩
      refine ⟨_, rfl, t, _, 0, 0, rfl, rfl, et, rfl, _, rfl, ?_⟩
      exact q _ c _ keep_upd ⟨_, B, upd_same, Int.ediv_nonneg hA (by omega), hB, hB2⟩ (Nat.le_refl _) (by omega) (Int.emod_nonneg _ (by omega)) (Int.emod_lt_of_pos _ (by omega))
    · have g2 : atI [V.int A1, V.int B, V.int c] 2 = some (.int c) := atI_nat (j := 2) rfl
      refine ⟨_, rfl, t, _, 2, _, rfl, rfl, lstL et, g2, _, _, rfl, rfl, _, rfl, t, _, 2, 2, rfl, rfl, et, rfl, ?_⟩
      have et2 : upd H t (.lst ([V.int A1, V.int B, V.int c].set 2 (.int ((c : Int) + 1)))) t = some (.lst [.int A1, .int B, .int ((c : Int) + 1)]) := upd_same
      have k1 : atI [V.int A1, V.int B, V.int ((c : Int) + 1)] 1 = some (.int B) := atI_nat (j := 1) rfl
      have k2 : atI [V.int A1, V.int B, V.int ((c : Int) + 1)] 2 = some (.int ((c : Int) + 1)) := atI_nat (j := 2) rfl
      refine ⟨_, rfl, t, _, 1, _, rfl, rfl, lstL et2, k1, _, rfl, t, _, 2, _, rfl, rfl, lstL et2, k2, _, _, rfl, rfl, .inl ⟨by decide, by decide⟩, _, _, rfl, rfl, _, _, rfl, rfl, cube_ok (by omega) (by omega), _, _, rfl, rfl, pw_ok (by decide) (by decide), _, _, rfl, rfl, _, _, rfl, rfl, (by show (0 : Int) < _; rw [p43]; decide), ?_⟩
      have m0 : 0 ≤ (B + 122949823 * ((c : Int) + 1)) ^ (3 : Int).toNat % (10 ^ (43 : Int).toNat + 57) := Int.emod_nonneg _ (by rw [p43]; decide)
      have m1 : (B + 122949823 * ((c : Int) + 1)) ^ (3 : Int).toNat % (10 ^ (43 : Int).toNat + 57) < 10000000000000000000000000000000000000000057 := by
        rw [p43]
        exact Int.emod_lt_of_pos _ (by decide)
      refine ⟨_, rfl, _, rfl, t, _, 2, _, rfl, rfl, lstL et2, k2, _, _, rfl, rfl, .inl ⟨by decide, by decide⟩, _, _, rfl, rfl, _, _, rfl, rfl, cube_ok (by omega) (by omega), _, _, rfl, rfl, pw_ok (by decide) (by decide), _, _, rfl, rfl, _, _, rfl, rfl, (by show (0 : Int) < _; rw [p41]; decide), ?_⟩
      refine ⟨_, rfl, _, _, rfl, rfl, wide_div (b := 200) (by decide) (by decide) (by decide) (by decide), _, rfl, _, _, rfl, rfl, hb, ?_⟩
      exact q _ (c + 1) _ keep_upd ⟨A1, B, by rw [et2]; rfl, hA, hB, hB2⟩ (by omega) (Nat.le_refl _) (Int.emod_nonneg _ (by omega)) (Int.emod_lt_of_pos _ (by omega))
def spNum : Sp := fun vs H Q _ => ∃ (t : Addr) (c : Nat), vs = [.ref t] ∧ Tk H t c ∧ c ≤ 90000 ∧ ∀ (n : Int) (c' : Nat) H', Keep t H H' → Tk H' t c' → c ≤ c' → c' ≤ c + 4 → n.natAbs ≤ 1000000000000000000000000000000 → Q (.int n) H'
theorem ok_num (D : Ds K) (T : Tx K mg) : FnOk P w K mg base CX0 2 (d_law_number.adr K) D.fd__law_number ["fount"] spNum := by
  have GD : FnOk P w K mg base CX0 1 _ _ _ spDip := ok_dip D T
  refine D.F__law_number.ok sc_law_number (fun vs H Q E h => ?_) (fun cdv A outer s H vs Q E hr h => ?_)
  · obtain ⟨t, c, rfl, _⟩ := h
    rfl
  · obtain ⟨t, c, rfl, tk, hc, q⟩ := h
    have nd := sc_law_number.nd
    refine ⟨_, PSs.nox (pss_one (ps_ret (pe_ix ix_list (pe_lst (pa_cons (pe_op op_sub (pe_call GD (hr.mono (by decide)) (by rfl) T.g__law_sip D.F__law_sip.kp (b__law_sip D) .nil pass0 (pa_cons (pv 0) (pa_cons pe_int pa_nil))) pe_int) (pa_cons (pe_op op_sub (pe_call GD (hr.mono (by decide)) (by rfl) T.g__law_sip D.F__law_sip.kp (b__law_sip D) .nil pass0 (pa_cons (pv 0) (pa_cons pe_int pa_nil))) pe_int) (pa_cons (pe_op op_sub (pe_call GD (hr.mono (by decide)) (by rfl) T.g__law_sip D.F__law_sip.kp (b__law_sip D) .nil pass0 (pa_cons (pv 0) (pa_cons (pe_op op_pow pe_int pe_int) pa_nil))) (pe_op op_pow pe_int pe_int)) pa_nil)))) (pe_call GD (hr.mono (by decide)) (by rfl) T.g__law_sip D.F__law_sip.kp (b__law_sip D) .nil pass0 (pa_cons (pv 0) (pa_cons pe_int pa_nil))) (fun _ _ => rfl)))), ?_⟩
    refine ⟨_, rfl, t, 7, c, rfl, tk, by omega, by decide, by decide, fun n1 c1 H1 k1 tk1 a1 b1 x1 y1 => ⟨_, _, rfl, rfl, ?_⟩⟩
    refine ⟨_, rfl, t, 99, c1, rfl, tk1, by omega, by decide, by decide, fun n2 c2 H2 k2 tk2 a2 b2 x2 y2 => ⟨_, _, rfl, rfl, ?_⟩⟩
    refine ⟨_, rfl, _, _, rfl, rfl, pw_ok (by decide) (by decide), t, _, c2, rfl, tk2, by omega, by rw [p30]; decide, by rw [p30]; decide, fun n3 c3 H3 k3 tk3 a3 b3 x3 y3 => ?_⟩
    rw [p30] at y3
    refine ⟨_, _, rfl, rfl, pw_ok (by decide) (by decide), _, _, rfl, rfl, big3, fun p hp => ?_⟩
    have sp := same_new (o := .lst [.int (n1 - 3), .int (n2 - 50), .int (n3 - 10 ^ (29 : Int).toNat)]) hp
    refine ⟨_, rfl, t, 3, c3, rfl, tk3.same sp, by omega, by decide, by decide, fun n4 c4 H4 k4 tk4 a4 b4 x4 y4 => ?_⟩
    have ep : H4 p = some (.lst [.int (n1 - 3), .int (n2 - 50), .int (n3 - 10 ^ (29 : Int).toNat)]) := k4 _ _ (tk3.ne hp).symm upd_same
    have kk : Keep t H H4 := k1.trans (k2.trans (k3.trans (Keep.trans (Same.keep sp) k4)))
    rcases (by omega : n4 = 0 ∨ n4 = 1 ∨ n4 = 2) with rfl | rfl | rfl
    · exact ⟨p, _, 0, _, rfl, rfl, lstL ep, atI_nat (j := 0) rfl, q _ c4 H4 kk tk4 (by omega) (by omega) (by omega)⟩
    · exact ⟨p, _, 1, _, rfl, rfl, lstL ep, atI_nat (j := 1) rfl, q _ c4 H4 kk tk4 (by omega) (by omega) (by omega)⟩
    · exact ⟨p, _, 2, _, rfl, rfl, lstL ep, atI_nat (j := 2) rfl, q _ c4 H4 kk tk4 (by omega) (by omega) (by rw [p29]; omega)⟩
def spDraw : Sp := fun vs H Q _ => ∃ (t : Addr) (c many : Nat), vs = [.ref t, .int many] ∧ Tk H t c ∧ c ≤ 50000 ∧ 6 ≤ many ∧ many ≤ 399 ∧
  ∀ p L c' H', Keep t H H' → Tk H' t c' → c ≤ c' → c' ≤ c + 2000 → NewRws H' p L → Edges L → L.length ≤ 399 → H p = none → Q (.ref p) H'
theorem keys_rows {H : Hp} : ∀ {M : List (List Int × V)} {bs : List Addr}, IsKeys H (dI M) bs → ∃ L : List (Addr × List Int), bs = L.map (·.1) ∧ L.map (·.2) = M.map (·.1) ∧ ∀ r ∈ L, Row H r.1 r.2
  | [], _, h => by
    cases h
    exact ⟨[], rfl, rfl, fun _ z => nomatch z⟩
  | m :: M, _, h => by
    cases h with
    | @cons _ b _ bs h1 h2 =>
      obtain ⟨L, e1, e2, e3⟩ := keys_rows h2
      refine ⟨(b, m.1) :: L, by rw [e1]; rfl, by rw [List.map_cons, e2]; rfl, fun r hr => ?_⟩
      rcases List.mem_cons.mp hr with rfl | hr
      · have h1 : H b = some (.tup ((kI m.1).map kV)) := h1
        rw [kI_V] at h1
        exact h1
      · exact e3 r hr
theorem ok_draw (D : Ds K) (T : Tx K mg) : FnOk P w K mg base CX0 2 (d_law_edges.adr K) D.fd__law_edges ["fount", "many"] spDraw := by
  have GD : FnOk P w K mg base CX0 1 _ _ _ spDip := ok_dip D T
  refine D.F__law_edges.ok sc_law_edges (fun vs H Q E h => ?_) (fun cdv A outer s H vs Q E hr h => ?_)
  · obtain ⟨t, c, m, rfl, _⟩ := h
    rfl
  · obtain ⟨t, c, many, rfl, tk, hc, m6, m9, q⟩ := h
    have nd := sc_law_edges.nd
    refine ⟨_, PSs.nox (pss_cons (ps_set (i := 2) nd rfl (.inl rfl) (pe_ix ix_list (pe_lst (pa_cons pe_int (pa_cons pe_int (pa_cons pe_int (pa_cons (pe_op op_pow pe_int pe_int) pa_nil))))) (pe_call GD (hr.mono (by decide)) (by rfl) T.g__law_sip D.F__law_sip.kp (b__law_sip D) .nil pass0 (pa_cons (pv 0) (pa_cons pe_int pa_nil))) (fun _ _ => rfl)))
      (pss_cons (ps_set (i := 3) nd rfl (.inl rfl) pe_dnewT)
      (pss_cons (ps_for PassesOwn.never rfl (pi_range1 (by rfl) T.z_range (pa_cons (pe_ix ix_list (pe_lst (pa_cons (pe_call GD (hr.mono (by decide)) (by rfl) T.g__law_sip D.F__law_sip.kp (b__law_sip D) .nil pass0 (pa_cons (pv 0) (pa_cons (pe_op op_add (pv 1) pe_int) pa_nil))) (pa_cons (pv 1) (pa_cons (pe_call GD (hr.mono (by decide)) (by rfl) T.g__law_sip D.F__law_sip.kp (b__law_sip D) .nil pass0 (pa_cons (pv 0) (pa_cons pe_int pa_nil))) pa_nil)))) (pe_call GD (hr.mono (by decide)) (by rfl) T.g__law_sip D.F__law_sip.kp (b__law_sip D) .nil pass0 (pa_cons (pv 0) (pa_cons pe_int pa_nil))) (fun _ _ => rfl)) pa_nil)) (pg_name (i := 4) nd rfl (.inl rfl)) (pss_cons (ps_set (i := 5) nd rfl (.inl rfl) (pe_tup (pa_cons (pe_op op_sub (pe_call GD (hr.mono (by decide)) (by rfl) T.g__law_sip D.F__law_sip.kp (b__law_sip D) .nil pass0 (pa_cons (pv 0) (pa_cons (pv 2) pa_nil))) (pe_op op_fdiv (pv 2) pe_int)) (pa_cons (pe_op op_sub (pe_call GD (hr.mono (by decide)) (by rfl) T.g__law_sip D.F__law_sip.kp (b__law_sip D) .nil pass0 (pa_cons (pv 0) (pa_cons (pv 2) pa_nil))) pe_int) (pa_cons (pe_call GD (hr.mono (by decide)) (by rfl) T.g__law_sip D.F__law_sip.kp (b__law_sip D) .nil pass0 (pa_cons (pv 0) (pa_cons pe_int pa_nil))) pa_nil)))))
      (pss_one (ps_dput (hu_of hr) (pv 3) (pv 5) pe_bl rfl))))
      (pss_one (ps_ret (pe_callTy (call_list_dT rfl) (by rfl) T.z_list (by decide +kernel) (pa_cons (pv 3) pa_nil))))))), ?_⟩
    refine ⟨_, _, rfl, rfl, pw_ok (by decide) (by decide), big4, fun pw hpw => ?_⟩
    have spw := same_new (o := .lst [.int 2, .int 4, .int 12, .int (10 ^ (30 : Int).toNat)]) hpw
    refine ⟨_, rfl, t, 4, c, rfl, tk.same spw, by omega, by decide, by decide, fun v1 c1 H1 k1 tk1 a1 b1 x1 y1 => ?_⟩
    have epw : H1 pw = some (.lst [.int 2, .int 4, .int 12, .int (10 ^ (30 : Int).toNat)]) := k1 _ _ (tk.ne hpw).symm upd_same
    obtain ⟨wd, hwd, w1, w2⟩ : ∃ wd : Int, atI [V.int 2, V.int 4, V.int 12, V.int (10 ^ (30 : Int).toNat)] v1 = some (.int wd) ∧ 1 ≤ wd ∧ wd.natAbs < 2 ^ 400 := by
      rcases (by omega : v1 = 0 ∨ v1 = 1 ∨ v1 = 2 ∨ v1 = 3) with rfl | rfl | rfl | rfl
      · exact ⟨2, atI_nat (j := 0) rfl, by decide, by decide⟩
      · exact ⟨4, atI_nat (j := 1) rfl, by decide, by decide⟩
      · exact ⟨12, atI_nat (j := 2) rfl, by decide, by decide⟩
      · exact ⟨_, atI_nat (j := 3) rfl, by rw [p30]; decide, by rw [p30]; decide⟩
    refine ⟨pw, _, v1, _, rfl, rfl, lstL epw, hwd, fun f hf => ?_⟩
    have tf : t ≠ f := tk1.ne hf
    have kH1 : Keep t H H1 := Keep.trans (Same.keep spw) k1
    have hfH : H f = none := kH1.back tk1.some hf
    have sf := same_new (o := .dT []) hf
    have tk2 := tk1.same sf
    have kH2 : Keep t H (upd H1 f (.dT [])) := kH1.trans (Same.keep sf)
    have ef : upd H1 f (.dT []) f = some (.dT (dI [])) := upd_same
    generalize upd H1 f (.dT []) = H2 at tk2 kH2 ef ⊢
    clear sf hf kH1 epw hwd k1 spw hpw tk1
    refine ⟨_, rfl, _, rfl, _, _, rfl, rfl, t, (many : Int) + 1, c1, rfl, tk2, by omega, by omega, by omega, fun r1 c2 H3 k3 tk3 a3 b3 x3 y3 => ?_⟩
    refine ⟨_, rfl, _, rfl, t, 6, c2, rfl, tk3, by omega, by decide, by decide, fun r2 c3 H4 k4 tk4 a4 b4 x4 y4 => ?_⟩
    refine ⟨big3, fun pm hpm => ?_⟩
    have spm := same_new (o := .lst [.int r1, .int many, .int r2]) hpm
    refine ⟨_, rfl, t, 3, c3, rfl, tk4.same spm, by omega, by decide, by decide, fun r3 c4 H5 k5 tk5 a5 b5 x5 y5 => ?_⟩
    have epm : H5 pm = some (.lst [.int r1, .int many, .int r2]) := k5 _ _ (tk4.ne hpm).symm upd_same
    obtain ⟨n, hn, hn2⟩ : ∃ n : Nat, atI [V.int r1, V.int many, V.int r2] r3 = some (.int n) ∧ n ≤ 399 := by
      rcases (by omega : r3 = 0 ∨ r3 = 1 ∨ r3 = 2) with rfl | rfl | rfl
      · exact ⟨r1.toNat, by rw [show ((r1.toNat : Nat) : Int) = r1 by omega]; exact atI_nat (j := 0) rfl, by omega⟩
      · exact ⟨many, atI_nat (j := 1) rfl, m9⟩
      · exact ⟨r2.toNat, by rw [show ((r2.toNat : Nat) : Int) = r2 by omega]; exact atI_nat (j := 2) rfl, by omega⟩
    refine ⟨pm, _, r3, _, rfl, rfl, lstL epm, hn, ?_⟩
    have k25 : Keep t H2 H5 := k3.trans (k4.trans (Keep.trans (Same.keep spm) k5))
    have kH5 : Keep t H H5 := kH2.trans k25
    have ef5 : H5 f = some (.dT (dI [])) := k25 _ _ (Ne.symm tf) ef
    clear k25 k5 k4 k3 spm hpm epm hn kH2 ef tk2 tk3 tk4
    refine ⟨(n : Int), rfl, by omega, by omega, ?_⟩
    refine for_range (lo := 0) (n := (n : Int).toNat) (fun i σ H' => ∃ (M : List (List Int × V)) (c' : Nat) (z4 z5 : Option V), Keep t H H' ∧ Tk H' t c' ∧ c4 ≤ c' ∧ c' ≤ c4 + 3 * i ∧ H' f = some (.dT (dI M)) ∧ Once M ∧ (∀ p ∈ M, EdgeR p.1) ∧ M.length ≤ i ∧ σ = [some (.ref t), some (.int many), some (.int wd), some (.ref f), z4, z5])
      ⟨[], c4, none, none, kH5, tk5, Nat.le_refl _, Nat.le_refl _, ef5, List.nodup_nil, fun _ z => (nomatch z), Nat.zero_le _, rfl⟩ (fun i σ' H6 hi hp => ?_) fun σ' H6 hp => ?_
    · obtain ⟨M, c', z4, z5, kp, tkp, p1, p2, efp, ho, hM, lM, rfl⟩ := hp
      refine ⟨_, rfl, _, rfl, t, wd, c', rfl, tkp, by omega, w1, w2, fun u1 d1 Ha ka tka aa1 aa2 aa3 aa4 => ?_⟩
      refine ⟨_, rfl, _, _, rfl, rfl, ⟨by decide, by decide⟩, _, _, rfl, rfl, ?_⟩
      refine ⟨_, rfl, _, rfl, t, wd, d1, rfl, tka, by omega, w1, w2, fun u2 d2 Hb kb tkb bb1 bb2 bb3 bb4 => ⟨_, _, rfl, rfl, ?_⟩⟩
      refine ⟨_, rfl, t, 2, d2, rfl, tkb, by omega, by decide, by decide, fun u3 d3 Hc kc tkc cc1 cc2 cc3 cc4 => ⟨big3, fun p hp => ?_⟩⟩
      have sp := same_new (o := .tup [.int (u1 - wd / 3), .int (u2 - 1), .int u3]) hp
      have kc3 : Keep t H6 (upd Hc p (.tup [.int (u1 - wd / 3), .int (u2 - 1), .int u3])) := ka.trans (kb.trans (kc.trans (Same.keep sp)))
      have efc := kc3 _ _ (Ne.symm tf) efp
      have erow : Row (upd Hc p (.tup [.int (u1 - wd / 3), .int (u2 - 1), .int u3])) p [u1 - wd / 3, u2 - 1, u3] := upd_same
      refine ⟨_, rfl, _, rfl, f, _, rfl, DPut.t efc (row_k erow) ?_, putK M [u1 - wd / 3, u2 - 1, u3] (.bl true), d3, _, _, Keep.fresh hfH (kp.trans kc3) keep_upd, Keep.tk (tkc.same sp) tf keep_upd, by omega, by omega, ?_, once_put ho, mem_put hM ⟨_, _, _, rfl, by omega⟩, Nat.le_trans (put_len ..) (by omega), rfl⟩
      · rw [dI_len]
        exact size_lt (m := 399) (by omega) (by decide)
      · rw [upd_same, put_dI]
    · obtain ⟨M, c', z4, z5, kp, tkp, p1, p2, efp, ho, hM, lM, rfl⟩ := hp
      refine ⟨_, rfl, f, _, rfl, .inl efp, fun p bs hp ks => ?_⟩
      obtain ⟨L, rfl, e2, rows⟩ := keys_rows ks
      have sp := same_new (o := .lst ((L.map (·.1)).map V.ref)) hp
      have lL : L.length = M.length := by
        have z := congrArg List.length e2
        rwa [List.length_map, List.length_map] at z
      refine q p L c' _ (kp.trans (Same.keep sp)) (tkp.same sp) (by omega) (by omega) ⟨?_, fun r hr1 => sp _ _ (rows r hr1)⟩ ⟨fun r hr1 => ?_, by rw [e2]; exact ho, by omega⟩ (by omega) (kp.back tkp.some hp)
      · rw [upd_same, List.map_map]
        rfl
      · have z : r.2 ∈ L.map (·.2) := List.mem_map.mpr ⟨r, hr1, rfl⟩
        rw [e2] at z
        obtain ⟨p, hp2, e⟩ := List.mem_map.mp z
        rw [← e]
        exact hM p hp2
end
end K45

set_option Elab.async false
set_option linter.all false
set_option maxRecDepth 100000
set_option maxHeartbeats 8000000
set_option exponentiation.threshold 600
namespace K45
open PySem PySem.Spec PyProof.Rows L2 RT TT PC
def ScalE (v u : V) : Prop := (∃ i, v = .int i ∧ u = .int i) ∨ (v = .non ∧ u = .non)
def SeqE (H : Hp) (C : V → V → Prop) (v u : V) : Prop := ∃ (a b : Addr) (xs ys : List V), v = .ref a ∧ u = .ref b ∧ xs.length = ys.length ∧ xs.length ≤ 1000 ∧ ((H a = some (.lst xs) ∧ H b = some (.lst ys)) ∨ (H a = some (.tup xs) ∧ H b = some (.tup ys))) ∧
  ∀ (k : Nat) (x y : V), xs[k]? = some x → ys[k]? = some y → C x y
/-- equal data, so deep -/
def SameV (H : Hp) : Nat → V → V → Prop
  | 0, v, u => ScalE v u ∨ SeqE H (fun _ _ => False) v u
  | n + 1, v, u => ScalE v u ∨ SeqE H (SameV H n) v u
def childS (H : Hp) : Nat → V → V → Prop
  | 0 => fun _ _ => False
  | n + 1 => SameV H n
theorem sameV_iff {H : Hp} {n : Nat} {v u : V} : SameV H n v u ↔ ScalE v u ∨ SeqE H (childS H n) v u := by
  cases n <;> exact Iff.rfl
theorem SameV.same : ∀ {n : Nat} {H H' : Hp} {v u : V}, SameV H n v u → Same H H' → SameV H' n v u
  | 0, H, H', v, u, h, e => by
    rcases h with h | ⟨a, b, xs, ys, e1, e2, e3, e4, e5, e6⟩
    · exact .inl h
    · exact .inr ⟨a, b, xs, ys, e1, e2, e3, e4, e5.imp (fun z => ⟨e _ _ z.1, e _ _ z.2⟩) (fun z => ⟨e _ _ z.1, e _ _ z.2⟩), e6⟩
  | n + 1, H, H', v, u, h, e => by
    rcases h with h | ⟨a, b, xs, ys, e1, e2, e3, e4, e5, e6⟩
    · exact .inl h
    · exact .inr ⟨a, b, xs, ys, e1, e2, e3, e4, e5.imp (fun z => ⟨e _ _ z.1, e _ _ z.2⟩) (fun z => ⟨e _ _ z.1, e _ _ z.2⟩), fun k x y h1 h2 => SameV.same (e6 k x y h1 h2) e⟩
theorem childS.same {n : Nat} {H H' : Hp} {v u : V} (h : childS H n v u) (e : Same H H') : childS H' n v u := by
  cases n with
  | zero => exact h
  | succ n => exact SameV.same h e
theorem kitAny2 {K : PySem.W.Frag} {t a b : Value} {x y : Bool} (h1 : PySem.W.kitOne K t a = some x) (h2 : PySem.W.kitOne K t b = some y) : PySem.W.kitAny K t [a, b] = some (x || y) := by
  simp only [PySem.W.kitAny, h1, h2]
  cases x <;> cases y <;> rfl
abbrev NSa : List Str := N_law_same ++ [("k" : Str)]
theorem scSa : FnScope NSa ["found", "due"] (defScope s_law_same) := ⟨rfl, rfl, rfl, by decide +kernel, rfl, by decide +kernel, by decide +kernel⟩
section
variable {P : Program} {w : World} {K : PySem.W.Frag} {mg : Str → Option Value} {base : Heap}
def spNo : Sp := fun _ _ _ _ => False
def spSame (n : Nat) : Sp := fun vs H Q _ => ∃ v u : V, vs = [v, u] ∧ SameV H n v u ∧ ∀ H', Same H H' → Q (.bl true) H'
def spChild : Nat → Sp
  | 0 => spNo
  | n + 1 => spSame n
theorem child_ok {n : Nat} {H : Hp} {Q : VK} {E : XK} {v u : V} (h : childS H n v u) (q : ∀ H', Same H H' → Q (.bl true) H') : spChild n [v, u] H Q E := by
  cases n with
  | zero => exact h.elim
  | succ n => exact ⟨v, u, rfl, h, q⟩
theorem same_go (D : Ds K) (T : Tx K mg) (n k : Nat) (GR : FnOk P w K mg base CX0 (k + 1) (d_law_same.adr K) D.fd__law_same ["found", "due"] (spChild n)) : FnOk P w K mg base CX0 (k + 2) (d_law_same.adr K) D.fd__law_same ["found", "due"] (spSame n) := by
  refine D.F__law_same.ok scSa (fun vs H Q E h => ?_) (fun cdv A outer s H vs Q E hr h => ?_)
  · obtain ⟨v, u, rfl, _⟩ := h
    rfl
  · obtain ⟨v, u, rfl, hv, q⟩ := h
    have nd := scSa.nd
    refine ⟨_, PSs.nox (pss_cons (ps_if (pt_val (pe_callB call_isiTY (by rfl) T.z_isinstance (by decide +kernel) (pa_cons (pv 1) (pa_cons (pe_tup (pa_cons (pe_bltn (v := .ty "list") (by rfl) T.z_list (by decide +kernel) rfl) (pa_cons (pe_bltn (v := .ty "tuple") (by rfl) T.z_tuple (by decide +kernel) rfl) pa_nil))) pa_nil))))
        (pss_cons (ps_if (PW.pt (pw_or (pt_cmpR op_ne (pe_callB call_isiY (by rfl) T.z_isinstance (by decide +kernel) (pa_cons (pv 0) (pa_cons (pe_bltn (v := .ty "list") (by rfl) T.z_list (by decide +kernel) rfl) pa_nil))) (pe_callB call_isiY (by rfl) T.z_isinstance (by decide +kernel) (pa_cons (pv 1) (pa_cons (pe_bltn (v := .ty "list") (by rfl) T.z_list (by decide +kernel) rfl) pa_nil))) (nomark _))
            (pw_or1 (pt_cmpR op_ne (pe_callB call_isiY (by rfl) T.z_isinstance (by decide +kernel) (pa_cons (pv 0) (pa_cons (pe_bltn (v := .ty "tuple") (by rfl) T.z_tuple (by decide +kernel) rfl) pa_nil))) (pe_callB call_isiY (by rfl) T.z_isinstance (by decide +kernel) (pa_cons (pv 1) (pa_cons (pe_bltn (v := .ty "tuple") (by rfl) T.z_tuple (by decide +kernel) rfl) pa_nil))) (nomark _))))) (pss_one (ps_ret pe_bl)) pss_nil)
        (pss_one (ps_ret (pe_and (pe_cmpR op_eq (pe_callB call_len_seq (by rfl) T.z_len PySem.boot_len (pa_cons (pv 0) pa_nil)) (pe_callB call_len_seq (by rfl) T.z_len PySem.boot_len (pa_cons (pv 1) pa_nil)) (nomark _))
          (pe_one (pe_callB (cr_all rfl) (by rfl) T.z_all (by decide +kernel) (pa_cons (pe_lc (own := [(("k" : Str), 2)]) (g := gName 2) (tt := tYes) (te := tCall (spChild n) [] E0 (tCons (tOp (rIx K) (tVar 0) (tVar 2)) (tCons (tOp (rIx K) (tVar 1) (tVar 2)) tNil))) rfl nd (pi_range1 (by rfl) T.z_range (pa_cons (pe_callB call_len_seq (by rfl) T.z_len PySem.boot_len (pa_cons (pv 1) pa_nil)) pa_nil))
            (blkOk_by (own := [(("k" : Str), 2)]) (N := NSa) (sc := defScope s_law_same) (by decide +kernel)) (fun _ _ _ _ _ => pg_name (i := 2) nd rfl (Or.inl rfl)) (fun _ _ _ _ _ => pts_nil)
            (fun _ _ _ _ _ => pe_call GR hr (by rfl) T.g__law_same D.F__law_same.kp (b__law_same D) .nil pass0 (pa_cons (pe_ix ix_seq (pv 0) (pv 2) (fun _ _ => rfl)) (pa_cons (pe_ix ix_seq (pv 1) (pv 2) (fun _ _ => rfl)) pa_nil)))) pa_nil))))))) pss_nil)
      (pss_one (ps_ret (pe_and (pe_cmpR op_eq (pe_callB call_isiY (by rfl) T.z_isinstance (by decide +kernel) (pa_cons (pv 0) (pa_cons (pe_bltn (v := .ty "bool") (by rfl) T.z_bool (by decide +kernel) rfl) pa_nil))) (pe_callB call_isiY (by rfl) T.z_isinstance (by decide +kernel) (pa_cons (pv 1) (pa_cons (pe_bltn (v := .ty "bool") (by rfl) T.z_bool (by decide +kernel) rfl) pa_nil))) (nomark _))
        (pe_one (pe_cmpR op_eq (pv 0) (pv 1) (nomark _))))))), ?_⟩
    refine ⟨_, rfl, big2, fun pt hpt => ?_⟩
    have s0 := same_new (o := .tup [.ty "list", .ty "tuple"]) hpt
    rcases sameV_iff.mp hv with sc | ⟨a, b, xs, ys, rfl, rfl, el, el2, seq, ch⟩
    · have tu : ∃ t, Typ H u t ∧ (t == "list") = false ∧ (t == "tuple") = false ∧ (t == "bool") = false ∧ Typ H v t := by
        rcases sc with ⟨i, rfl, rfl⟩ | ⟨rfl, rfl⟩
        · exact ⟨"int", .int i, by decide, by decide, by decide, .int i⟩
        · exact ⟨"NoneType", .non, by decide, by decide, by decide, .non⟩
      obtain ⟨t, tu, t1, t2, t3, tv⟩ := tu
      refine ⟨u, pt, _, _, _, _, rfl, upd_same, .cons (.ty _) (.cons (.ty _) .nil), (tu.same s0).ty, kitAny2 tu.kit_list tu.kit_tuple, _, rfl, ?_⟩
      rw [t1, t2]
      refine iteF ?_
      refine ⟨_, rfl, v, .ty "bool", _, _, _, rfl, .ty "bool", (tv.same s0).ty, tv.kit_bool, _, rfl, u, .ty "bool", _, _, _, rfl, .ty "bool", (tu.same s0).ty, tu.kit_bool, rfl, _, rfl, ?_⟩
      rw [t3, show decide (V.bl false = V.bl false) = true from decide_eq_true rfl]
      refine iteT ⟨_, rfl, _, rfl, ?_, ?_⟩
      · rcases sc with ⟨i, rfl, rfl⟩ | ⟨rfl, rfl⟩ <;> rfl
      · have e : v = u := by rcases sc with ⟨i, rfl, rfl⟩ | ⟨rfl, rfl⟩ <;> rfl
        rw [e, decide_eq_true rfl]
        exact q _ s0
    · have tab : ∃ t, Typ H (.ref a) t ∧ Typ H (.ref b) t ∧ ((t == "list") || (t == "tuple")) = true ∧ (SqL K H a xs ∨ SqT K H a xs) ∧ (SqL K H b ys ∨ SqT K H b ys) := by
        rcases seq with ⟨h1, h2⟩ | ⟨h1, h2⟩
        · exact ⟨"list", .lst h1, .lst h2, by decide, .inl (lstL h1), .inl (lstL h2)⟩
        · exact ⟨"tuple", .tup h1, .tup h2, by decide, .inr (tupT h1), .inr (tupT h2)⟩
      obtain ⟨t, ta, tb, tt, _, _⟩ := tab
      have ta0 := ta.same s0
      have tb0 := tb.same s0
      have sq : ∀ {H'}, Same H H' → (SqL K H' a xs ∨ SqT K H' a xs) ∧ (SqL K H' b ys ∨ SqT K H' b ys) := fun {H'} e => by
        rcases seq with ⟨h1, h2⟩ | ⟨h1, h2⟩
        · exact ⟨.inl (lstL (e _ _ h1)), .inl (lstL (e _ _ h2))⟩
        · exact ⟨.inr (tupT (e _ _ h1)), .inr (tupT (e _ _ h2))⟩
      refine ⟨.ref b, pt, _, _, _, _, rfl, upd_same, .cons (.ty _) (.cons (.ty _) .nil), tb0.ty, kitAny2 tb.kit_list tb.kit_tuple, _, rfl, ?_⟩
      rw [tt]
      refine iteT ?_
      refine ⟨_, rfl, _, .ty "list", _, _, _, rfl, .ty "list", ta0.ty, ta0.kit_list, _, rfl, _, .ty "list", _, _, _, rfl, .ty "list", tb0.ty, tb0.kit_list, rfl, false, by rw [decide_eq_true rfl]; rfl, iteF ?_⟩
      refine ⟨_, rfl, _, .ty "tuple", _, _, _, rfl, .ty "tuple", ta0.ty, ta0.kit_tuple, _, rfl, _, .ty "tuple", _, _, _, rfl, .ty "tuple", tb0.ty, tb0.kit_tuple, rfl, false, by rw [decide_eq_true rfl]; rfl, iteF ?_⟩
      refine ⟨_, rfl, a, _, rfl, (sq s0).1, _, rfl, b, _, rfl, (sq s0).2, rfl, _, rfl, ?_⟩
      rw [el, decide_eq_true rfl]
      refine iteT ?_
      refine ⟨_, rfl, b, _, rfl, (sq s0).2, _, rfl, by omega, by omega, fun D1 hD => ?_⟩
      generalize upd H pt (.tup [.ty "list", .ty "tuple"]) = H1 at *
      refine lc_it (walk_range (lo := 0) (n := (ys.length : Int).toNat)) (fun i H' => Same H1 H' ∧ H' D1 = some (.lst ((List.replicate i true).map V.bl))) ⟨same_new hD, upd_same⟩ (fun _ _ _ _ => trivial) (fun i x H2 H3 hi p y => ?_) fun H2 p => ?_
      · obtain ⟨sm, eD⟩ := p
        obtain ⟨rfl, rfl⟩ := y
        have hi2 : i < ys.length := by omega
        have hi1 : i < xs.length := by omega
        have gx : xs[i]? = some xs[i] := List.getElem?_eq_getElem hi1
        have gy : ys[i]? = some ys[i] := List.getElem?_eq_getElem hi2
        have zi : (0 : Int) + (i : Int) = (i : Int) := Int.zero_add _
        have s02 := s0.trans sm
        have ixx : ∀ {H' : Hp} {c : Addr} {zs : List V} {z : V} {Q' : VK}, (SqL K H' c zs ∨ SqT K H' c zs) → zs[i]? = some z → Q' z H' → rIx K (.ref c) (.int (0 + (i : Int))) H' Q' := fun {H' c zs z Q'} h g q' => by
          rw [zi]
          rcases h with h | h
          · exact .inl ⟨c, zs, i, z, rfl, rfl, h, atI_nat g, q'⟩
          · exact .inr (.inl ⟨c, zs, i, z, rfl, rfl, h, atI_nat g, q'⟩)
        refine ⟨rfl, _, rfl, _, rfl, ixx (sq s02).1 gx ?_⟩
        refine ⟨_, rfl, _, rfl, ixx (sq s02).2 gy ?_⟩
        refine child_ok ((ch i _ _ gx gy).same s02) fun H4 s4 => ⟨_, s4 _ _ eD, ?_, fun c o hc => ?_, ?_⟩
        · rw [List.length_map, List.length_replicate]
          exact size_lt (m := 1000) (by omega) (by decide)
        · rw [upd_ne (ne_of_none hc hD)]
          exact s4 _ _ (sm _ _ hc)
        · rw [upd_same, List.replicate_succ', List.map_append]
          rfl
      · obtain ⟨sm, eD⟩ := p
        refine ⟨D1, _, rfl, lstL eD, ?_⟩
        rw [show ∀ m, (List.replicate m true).all id = true from fun m => by simp [List.all_replicate]]
        exact q _ (s0.trans sm)
theorem ok_same (D : Ds K) (T : Tx K mg) : ∀ n : Nat, FnOk P w K mg base CX0 (n + 2) (d_law_same.adr K) D.fd__law_same ["found", "due"] (spSame n)
  | 0 => same_go D T 0 0 ⟨fun _ _ _ _ h => h.elim, fun _ _ _ _ _ _ _ _ _ _ _ _ _ h => h.elim⟩
  | n + 1 => same_go D T (n + 1) (n + 1) (ok_same D T n)
end
end K45

set_option Elab.async false
set_option linter.all false
set_option maxRecDepth 100000
set_option maxHeartbeats 8000000
set_option exponentiation.threshold 600
namespace K45
open PySem PySem.Spec PyProof.Rows L2 RT TT PC
abbrev NLe : List Str := N_law_is_edge ++ [("one" : Str)]
theorem scLe : FnScope NLe ["value"] (defScope s_law_is_edge) := ⟨rfl, rfl, rfl, by decide +kernel, rfl, by decide +kernel, by decide +kernel⟩
theorem eqv_ones (n : Nat) : PyData.eqv (.list ((List.replicate n (1 : Int)).map PyData.int)) (.list []) = (n == 0) := by
  rw [PyData.eqv]
  cases n with
  | zero => rfl
  | succ n => rfl
theorem filt3 (f : V → Bool) (x y z : V) : ([x, y, z].filter f).length = (f x).toNat + (f y).toNat + (f z).toNat := by
  simp only [List.filter_cons, List.filter_nil]
  cases f x <;> cases f y <;> cases f z <;> rfl
theorem shaped_ints (ns : List Int) : SeqAt.shaped (.list (ns.map PyData.int)) = true := by
  have h1 := RT.depth_ints ns
  have h2 : PyData.depth (.list (ns.map PyData.int)) ≤ 64 := by simp only [PyData.depth]; omega
  show (PyData.canLay0 (.list (ns.map PyData.int)) && decide (PyData.depth (.list (ns.map PyData.int)) ≤ 64)) = true
  rw [Bool.and_eq_true]
  exact ⟨by simp only [PyData.canLay0]; exact ints_canLay ns, decide_eq_true h2⟩
section
variable {P : Program} {w : World} {K : PySem.W.Frag} {mg : Str → Option Value} {base : Heap}
def spLBtw : Sp := fun vs H Q _ => ∃ (a b : Addr) (x y x' y' : Int), vs = [.ref a, .ref b] ∧ Row H a [x, y] ∧ Row H b [x', y'] ∧ ∀ v H', Same H H' → BtwAt H' v (btw x y x' y') → Q v H'
theorem ok_lbtw (D : Ds K) (T : Tx K mg) : FnOk P w K mg base CX0 1 (d_law_between.adr K) D.fd__law_between ["one", "two"] spLBtw := by
  refine D.F__law_between.ok sc_law_between (fun vs H Q E h => ?_) (fun cdv A outer s H vs Q E hr h => ?_)
  · obtain ⟨a, b, x, y, x', y', rfl, _⟩ := h
    rfl
  · obtain ⟨a, b, x, y, x', y', rfl, ha, hb, q⟩ := h
    have nd := sc_law_between.nd
    refine ⟨_, PSs.nox (pss_cons (ps_par (i := 2) (j := 3) (by rfl) nd rfl rfl (by decide) rfl rfl
        (pa_cons (pe_callB call_abs (by rfl) T.z_abs (by decide +kernel) (pa_cons (pe_op op_sub (pe_ix ix_tup (pv 0) pe_int (fun _ _ => rfl)) (pe_ix ix_tup (pv 1) pe_int (fun _ _ => rfl))) pa_nil))
        (pa_cons (pe_callB call_abs (by rfl) T.z_abs (by decide +kernel) (pa_cons (pe_op op_sub (pe_ix ix_tup (pv 0) pe_int (fun _ _ => rfl)) (pe_ix ix_tup (pv 1) pe_int (fun _ _ => rfl))) pa_nil)) pa_nil)) (by rfl))
      (pss_cons (ps_if (pt_cmpR op_ne (pe_op op_add (pv 2) (pv 3)) pe_int (nomark _)) (pss_one (ps_ret pe_non)) pss_nil)
      (pss_one (ps_ret (pe_tup (pa_cons (pe_callB (call_min2 rfl) (by rfl) T.z_min (by decide +kernel) (pa_cons (pe_ix ix_tup (pv 0) pe_int (fun _ _ => rfl)) (pa_cons (pe_ix ix_tup (pv 1) pe_int (fun _ _ => rfl)) pa_nil)))
        (pa_cons (pe_callB (call_min2 rfl) (by rfl) T.z_min (by decide +kernel) (pa_cons (pe_ix ix_tup (pv 0) pe_int (fun _ _ => rfl)) (pa_cons (pe_ix ix_tup (pv 1) pe_int (fun _ _ => rfl)) pa_nil))) (pa_cons (pv 3) pa_nil)))))))), ?_⟩
    have i0 : ∀ i j : Int, atI ([i, j].map V.int) 0 = some (.int i) := fun i j => atI_nat (j := 0) rfl
    have i1 : ∀ i j : Int, atI ([i, j].map V.int) 1 = some (.int j) := fun i j => atI_nat (j := 1) rfl
    refine ⟨_, rfl, a, _, 0, _, rfl, rfl, tupT ha, i0 x y, _, rfl, b, _, 0, _, rfl, rfl, tupT hb, i0 x' y', _, _, rfl, rfl, _, rfl, ?_⟩
    refine ⟨_, rfl, a, _, 1, _, rfl, rfl, tupT ha, i1 x y, _, rfl, b, _, 1, _, rfl, rfl, tupT hb, i1 x' y', _, _, rfl, rfl, _, rfl, _, _, rfl, ?_⟩
    have ax : (if x - x' < 0 then -(x - x') else x - x') = ((x - x').natAbs : Int) := by split <;> omega
    have ay : (if y - y' < 0 then -(y - y') else y - y') = ((y - y').natAbs : Int) := by split <;> omega
    rw [ax, ay]
    refine ⟨_, rfl, _, rfl, _, _, rfl, rfl, rfl, _, rfl, ?_⟩
    by_cases c : ((x - x').natAbs : Int) + ((y - y').natAbs : Int) = 1
    · refine ite_f (by show (!decide (V.int (((x - x').natAbs : Int) + ((y - y').natAbs : Int)) = V.int 1)) = false; rw [c, decide_eq_true rfl]; rfl) ?_
      refine ⟨_, rfl, a, _, 0, _, rfl, rfl, tupT ha, i0 x y, _, rfl, b, _, 0, _, rfl, rfl, tupT hb, i0 x' y', _, _, rfl, ?_⟩
      refine ⟨_, rfl, a, _, 1, _, rfl, rfl, tupT ha, i1 x y, _, rfl, b, _, 1, _, rfl, rfl, tupT hb, i1 x' y', _, _, rfl, ?_⟩
      refine ⟨_, rfl, big3, fun p hp => q _ _ (same_new hp) ?_⟩
      unfold btw
      rw [if_pos c]
      exact ⟨p, rfl, upd_same⟩
    · refine ite_t (by show (!decide (V.int (((x - x').natAbs : Int) + ((y - y').natAbs : Int)) = V.int 1)) = true; rw [decide_eq_false (show ¬ V.int (((x - x').natAbs : Int) + ((y - y').natAbs : Int)) = V.int 1 from fun z => c (by injection z))]; rfl) ?_
      refine q _ _ (fun _ _ h => h) ?_
      unfold btw
      rw [if_neg c]
      rfl
def spLEdge : Sp := fun vs H Q _ => ∃ (v : V) (o : Option (List Int)), vs = [v] ∧ Item H v o ∧ ∀ H', Same H H' → Q (.bl o.isSome) H'
theorem three_neB {xs : List V} (h : xs.length ≠ 3) : (!decide (V.int (xs.length : Int) = V.int 3)) = true := by
  rw [three_ne h]
  rfl
theorem ok_ledge (D : Ds K) (T : Tx K mg) : FnOk P w K mg base CX0 1 (d_law_is_edge.adr K) D.fd__law_is_edge ["value"] spLEdge := by
  refine D.F__law_is_edge.ok scLe (fun vs H Q E h => ?_) (fun cdv A outer s H vs Q E hr h => ?_)
  · obtain ⟨v, o, rfl, _⟩ := h
    rfl
  · obtain ⟨v, o, rfl, it, q⟩ := h
    have nd := scLe.nd
    refine ⟨_, PSs.nox (pss_cons (ps_if (PW.pt (pw_or (pt_not (pt_val (pe_callB call_isiY (by rfl) T.z_isinstance (by decide +kernel) (pa_cons (pv 0) (pa_cons (pe_bltn (v := .ty "tuple") (by rfl) T.z_tuple (by decide +kernel) rfl) pa_nil)))))
        (pw_or1 (pt_cmpR op_ne (pe_callB call_len_seq (by rfl) T.z_len PySem.boot_len (pa_cons (pv 0) pa_nil)) pe_int (nomark _))))) (pss_one (ps_ret pe_bl)) pss_nil)
      (pss_cons (ps_if (pt_cmpR (op_neD hr.units) (pe_lc (own := [(("one" : Str), 1)]) (g := gName 1) (tt := tOr (tNot (tB (tCB (rIsiY K) (tCons (tVar 1) (tCons (tC (.ty "int")) tNil))))) (tB (tCB (rIsiY K) (tCons (tVar 1) (tCons (tC (.ty "bool")) tNil))))) (te := tC (.int 1)) rfl nd (pi_tup (pv 0)) (blkOk_by (own := [(("one" : Str), 1)]) (N := NLe) (sc := defScope s_law_is_edge) (by decide +kernel))
          (fun _ _ _ _ _ => pg_name (i := 1) nd rfl (Or.inl rfl))
          (fun _ _ _ _ _ => pts_one (PW.pt (pw_or (pt_not (pt_val (pe_callB call_isiY (by rfl) T.z_isinstance (by decide +kernel) (pa_cons (pv 1) (pa_cons (pe_bltn (v := .ty "int") (by rfl) T.z_int (by decide +kernel) rfl) pa_nil)))))
            (pw_or1 (pt_val (pe_callB call_isiY (by rfl) T.z_isinstance (by decide +kernel) (pa_cons (pv 1) (pa_cons (pe_bltn (v := .ty "bool") (by rfl) T.z_bool (by decide +kernel) rfl) pa_nil)))))))) (fun _ _ _ _ _ => pe_int)) (pe_lst pa_nil) (nomark _)) (pss_one (ps_ret pe_bl)) pss_nil)
      (pss_one (ps_ret (pe_chain op_le op_le pe_int (pe_ix ix_tup (pv 0) pe_int (fun _ _ => rfl)) pe_int))))), ?_⟩
    rcases it.kinds with ⟨a, x, y, z, rfl, ea, sx, sy, sz, e⟩ | ⟨rfl, ⟨a, xs, rfl, h, n⟩ | ⟨t, h, n⟩⟩
    · refine ⟨_, rfl, _, .ty "tuple", _, _, true, rfl, .ty "tuple", (Typ.tup ea).ty, kit_tt, _, rfl, iteF ?_⟩
      refine ⟨_, rfl, a, _, rfl, .inr (tupT ea), rfl, _, rfl, ?_⟩
      refine ite_f (by rw [show ([x, y, z].length : Int) = 3 from rfl, decide_eq_true rfl]; rfl) ?_
      refine ⟨_, rfl, a, rfl, ⟨_, tupT ea⟩, fun D1 hD => ?_⟩
      refine lc_it (walk_tup (K := K) (a := a) (xs := [x, y, z])) (fun i H' => Same H H' ∧ H' D1 = some (.lst ((List.replicate (([x, y, z].take i).filter fun v => !(iOf v).isSome).length (1 : Int)).map V.int)))
        ⟨same_new hD, upd_same⟩ (fun i H' hi p => tupT (p.1 _ _ ea)) (fun i u H2 H3 hi p y0 => ?_) fun H2 p => ?_
      · obtain ⟨sm, eD⟩ := p
        obtain ⟨rfl, hx⟩ := y0
        have su : Sc H3 u := by
          have mu : u ∈ [x, y, z] := List.mem_of_getElem? hx
          simp only [List.mem_cons, List.not_mem_nil, or_false] at mu
          rcases mu with rfl | rfl | rfl
          · exact sx.same sm
          · exact sy.same sm
          · exact sz.same sm
        obtain ⟨t, tu⟩ := su
        have tk : ([x, y, z].take (i + 1)).filter (fun v => !(iOf v).isSome) = ([x, y, z].take i).filter (fun v => !(iOf v).isSome) ++ [u].filter fun v => !(iOf v).isSome := by
          rw [List.take_succ, hx, List.filter_append]
          rfl
        have lt3 : (([x, y, z].take i).filter fun v => !(iOf v).isSome).length ≤ 3 := by
          refine Nat.le_trans (List.length_filter_le _ _) ?_
          rw [List.length_take]
          exact Nat.min_le_right _ _
        have yes : iOf u = none → ∃ acc, H3 D1 = some (.lst acc) ∧ acc.length < sizeLine ∧ Same H (upd H3 D1 (.lst (acc ++ [.int 1]))) ∧ upd H3 D1 (.lst (acc ++ [.int 1])) D1 = some (.lst ((List.replicate (([x, y, z].take (i + 1)).filter fun v => !(iOf v).isSome).length (1 : Int)).map V.int)) := fun hu => by
          refine ⟨_, eD, ?_, fun b o hb => ?_, ?_⟩
          · rw [List.length_map, List.length_replicate]
            exact size_lt (m := 3) lt3 (by decide)
          · rw [upd_ne (ne_of_none hb hD)]
            exact sm _ _ hb
          · rw [upd_same, tk, List.length_append, show ([u].filter fun v => !(iOf v).isSome).length = 1 from by rw [List.filter_cons, if_pos (by rw [hu]; rfl)]; rfl, List.replicate_succ', List.map_append]
            rfl
        have no : (iOf u).isSome = true → Same H H3 ∧ H3 D1 = some (.lst ((List.replicate (([x, y, z].take (i + 1)).filter fun v => !(iOf v).isSome).length (1 : Int)).map V.int)) := fun hu => by
          refine ⟨sm, ?_⟩
          rw [tk, show ([u].filter fun v => !(iOf v).isSome) = [] from by rw [List.filter_cons, if_neg (by rw [hu]; decide)]; rfl, List.append_nil]
          exact eD
        refine ⟨rfl, _, rfl, _, .ty "int", _, _, _, rfl, .ty "int", tu.ty, tu.kit_int, _, rfl, ?_⟩
        by_cases c : (t == "int" || t == "bool") = true
        · refine ite_f (by rw [c]; rfl) ?_
          refine ⟨_, rfl, _, .ty "bool", _, _, _, rfl, .ty "bool", tu.ty, tu.kit_bool, _, rfl, ?_⟩
          by_cases c2 : (t == "bool") = true
          · refine ite_t c2 ?_
            exact yes (by cases tu <;> first | rfl | exact absurd c2 (by decide))
          · refine ite_f (Bool.not_eq_true _ ▸ c2) ?_
            exact no (by cases tu <;> first | rfl | exact absurd c (by decide) | exact absurd rfl c2)
        · refine ite_t (by rw [show (t == "int" || t == "bool") = false from Bool.not_eq_true _ ▸ c]; rfl) ?_
          exact yes (by cases tu <;> first | rfl | exact absurd rfl c)
      · obtain ⟨sm, eD⟩ := p
        have eD : H2 D1 = some (.lst ((List.replicate ([x, y, z].filter fun v => !(iOf v).isSome).length (1 : Int)).map V.int)) := eD
        refine ⟨big0, fun p hp => ?_⟩
        have sp := same_new (o := .lst []) hp
        refine ⟨_, .list [], .lst (lstL (sp _ _ eD)) (dp_ints _), .lst (lstL upd_same) .nil, shaped_ints _, rfl, _, rfl, ?_⟩
        rw [eqv_ones]
        have s2 := sm.trans sp
        by_cases c : (iOf x).isSome = true ∧ (iOf y).isSome = true ∧ (iOf z).isSome = true
        · obtain ⟨c1, c2, c3⟩ := c
          refine ite_f (by rw [filt3, c1, c2, c3]; rfl) ?_
          rw [c1, c2, Bool.true_and, Bool.true_and] at e
          cases z with
          | int i =>
            refine ⟨_, rfl, a, _, 2, _, rfl, rfl, tupT (s2 _ _ ea), atI_nat (j := 2) rfl, _, _, rfl, rfl, _, rfl, ?_⟩
            have e : (decide (0 ≤ i) && decide (i ≤ 1)) = o.isSome := e
            have q2 := q _ s2
            rw [← e] at q2
            by_cases h1 : 0 ≤ i
            · rw [decide_eq_true h1] at q2 ⊢
              exact iteT ⟨_, _, rfl, rfl, q2⟩
            · rw [decide_eq_false h1] at q2 ⊢
              exact iteF q2
          | _ => cases c3
        · refine ite_t ?_ ?_
          · rw [filt3]
            cases h1 : (iOf x).isSome <;> cases h2 : (iOf y).isSome <;> cases h3 : (iOf z).isSome <;> first | rfl | exact absurd ⟨h1, h2, h3⟩ c
          · have e2 : o.isSome = false := by
              rw [← e]
              cases h1 : (iOf x).isSome with
              | false => rfl
              | true =>
                cases h2 : (iOf y).isSome with
                | false => rfl
                | true =>
                  cases z with
                  | int i => exact absurd ⟨h1, h2, rfl⟩ c
                  | _ => rfl
            have q2 := q _ s2
            rw [e2] at q2
            exact q2
    · refine ⟨_, rfl, _, .ty "tuple", _, _, true, rfl, .ty "tuple", (Typ.tup h).ty, kit_tt, _, rfl, iteF ?_⟩
      refine ⟨_, rfl, a, _, rfl, .inr (tupT h), rfl, _, rfl, ?_⟩
      exact ite_t (three_neB n) (q H fun _ _ h => h)
    · refine ⟨_, rfl, _, .ty "tuple", _, _, _, rfl, .ty "tuple", h.ty, h.kit_tuple, _, rfl, ?_⟩
      have e : (t == "tuple") = false := by
        cases h <;> first | rfl | exact absurd rfl n
      rw [e]
      exact iteT (q H fun _ _ h => h)
end
end K45

set_option Elab.async false
set_option linter.all false
set_option maxRecDepth 100000
set_option maxHeartbeats 8000000
set_option exponentiation.threshold 600
namespace K45
open PySem PySem.Spec PyProof.Rows L2 RT TT PC
theorem big1 : 1 ≤ sizeLine := by decide
def Items (H : Hp) (vs : List V) : Prop := ∀ v ∈ vs, ∃ o, Item H v o
theorem Items.same {H H' : Hp} {vs : List V} (h : Items H vs) (e : Same H H') : Items H' vs := fun v hv => (h v hv).elim fun o i => ⟨o, i.same e⟩
theorem Items.app {H : Hp} {vs us : List V} (h : Items H vs) (g : Items H us) : Items H (vs ++ us) := fun v hv => (List.mem_append.mp hv).elim (h v) (g v)
theorem items_rows {H : Hp} {L : List (Addr × List Int)} (h : ∀ r ∈ L, Row H r.1 r.2) (e : ∀ r ∈ L, EdgeR r.2) : Items H (L.map fun q => V.ref q.1) := fun v hv => by
  obtain ⟨r, hr, rfl⟩ := List.mem_map.mp hv
  exact ⟨some r.2, .edge (h r hr) (e r hr)⟩
section
variable {P : Program} {w : World} {K : PySem.W.Frag} {mg : Str → Option Value} {base : Heap}
def spVals (K : PySem.W.Frag) : Sp := fun vs H Q _ => ∃ (a : Addr) (L : List (Addr × List Int)), vs = [.ref a] ∧ Rws K H a L ∧ (∀ r ∈ L, EdgeR r.2) ∧ ∀ p us H', Same H H' → H' p = some (.lst us) → Items H' us → us.length ≤ 2000 → Q (.ref p) H'
theorem ok_vals (D : Ds K) (T : Tx K mg) : FnOk P w K mg base CX0 1 (d_law_values.adr K) D.fd__law_values ["edges"] (spVals K) := by
  refine D.F__law_values.ok sc_law_values (fun vs H Q E h => ?_) (fun cdv A outer s H vs Q E hr h => ?_)
  · obtain ⟨a, L, rfl, _⟩ := h
    rfl
  · obtain ⟨a, L, rfl, ss, edg, q⟩ := h
    have nd := sc_law_values.nd
    refine ⟨_, PSs.nox (pss_cons (ps_set (i := 1) nd rfl (.inl rfl) (pe_lst (pa_cons pe_non (pa_cons pe_int (pa_cons pe_bl (pa_cons pe_str (pa_cons (pe_tup pa_nil) (pa_cons (pe_lst pa_nil) (pa_cons pe_dnewT (pa_cons (pe_tup (pa_cons pe_int (pa_cons pe_int pa_nil))) (pa_cons (pe_tup (pa_cons pe_int (pa_cons pe_int (pa_cons pe_int pa_nil)))) (pa_cons (pe_tup (pa_cons pe_int (pa_cons pe_int (pa_cons pe_int pa_nil)))) (pa_cons (pe_tup (pa_cons pe_int (pa_cons pe_int (pa_cons pe_int pa_nil)))) (pa_cons (pe_tup (pa_cons pe_int (pa_cons pe_int (pa_cons (pe_un un_neg pe_int) pa_nil)))) (pa_cons (pe_lst (pa_cons pe_int (pa_cons pe_int (pa_cons pe_int pa_nil)))) pa_nil)))))))))))))))
      (pss_cons (ps_set (i := 1) nd rfl (.inl rfl) (pe_op op_cat (pv 1) (pe_lst (pa_cons (pe_tup (pa_cons pe_int (pa_cons pe_int (pa_cons pe_bl pa_nil)))) (pa_cons (pe_tup (pa_cons pe_bl (pa_cons pe_int (pa_cons pe_int pa_nil)))) (pa_cons (pe_tup (pa_cons pe_int (pa_cons pe_bl (pa_cons pe_int pa_nil)))) (pa_cons (pe_tup (pa_cons pe_non (pa_cons pe_int (pa_cons pe_int pa_nil)))) (pa_cons (pe_tup (pa_cons pe_int (pa_cons pe_int (pa_cons pe_non pa_nil)))) (pa_cons (pe_tup (pa_cons pe_str (pa_cons pe_int (pa_cons pe_int pa_nil)))) (pa_cons (pe_tup (pa_cons pe_int (pa_cons pe_int (pa_cons pe_int (pa_cons pe_int pa_nil))))) pa_nil))))))))))
      (pss_one (ps_ret (pe_op op_cat (pe_op op_cat (pv 1) (pe_lst (pa_cons (pe_tup (pa_cons (pe_tup (pa_cons pe_int (pa_cons pe_int pa_nil))) (pa_cons pe_int pa_nil))) (pa_cons (pe_tup (pa_cons (pe_op op_pow pe_int pe_int) (pa_cons (pe_op op_sub pe_int (pe_op op_pow pe_int pe_int)) (pa_cons pe_int pa_nil)))) (pa_cons (pe_tup (pa_cons pe_int (pa_cons (pe_lst pa_nil) (pa_cons pe_int pa_nil)))) (pa_cons (pe_tup (pa_cons pe_int (pa_cons pe_int (pa_cons (pe_lst pa_nil) pa_nil)))) (pa_cons (pe_tup (pa_cons pe_dnewT (pa_cons pe_int (pa_cons pe_int pa_nil)))) (pa_cons pe_str pa_nil)))))))) (pe_slice sl_list (pv 0) po_none (po_some pe_int))))))), ?_⟩
    refine ⟨big0, fun a1 ha1 => ?_⟩
    have sa1 := same_new (o := .tup []) ha1
    refine ⟨big0, fun a2 ha2 => ?_⟩
    have sa2 := same_new (o := .lst []) ha2
    refine fun a3 ha3 => ?_
    have sa3 := same_new (o := .dT []) ha3
    refine ⟨big2, fun a4 ha4 => ?_⟩
    have sa4 := same_new (o := .tup [.int 0, .int 0]) ha4
    refine ⟨big3, fun a5 ha5 => ?_⟩
    have sa5 := same_new (o := .tup [.int 0, .int 0, .int 0]) ha5
    refine ⟨big3, fun a6 ha6 => ?_⟩
    have sa6 := same_new (o := .tup [.int 0, .int 0, .int 1]) ha6
    refine ⟨big3, fun a7 ha7 => ?_⟩
    have sa7 := same_new (o := .tup [.int 0, .int 0, .int 2]) ha7
    refine ⟨_, rfl, big3, fun a8 ha8 => ?_⟩
    have sa8 := same_new (o := .tup [.int 0, .int 0, .int (-1)]) ha8
    refine ⟨big3, fun a9 ha9 => ?_⟩
    have sa9 := same_new (o := .lst [.int 0, .int 0, .int 0]) ha9
    refine ⟨(by show 13 ≤ sizeLine; decide), fun a10 ha10 => ?_⟩
    have sa10 := same_new (o := .lst [.non, .int 0, .bl true, .str "", .ref a1, .ref a2, .ref a3, .ref a4, .ref a5, .ref a6, .ref a7, .ref a8, .ref a9]) ha10
    have ta : Same H (upd (upd (upd (upd (upd (upd (upd (upd (upd (upd H a1 (.tup [])) a2 (.lst [])) a3 (.dT [])) a4 (.tup [.int 0, .int 0])) a5 (.tup [.int 0, .int 0, .int 0])) a6 (.tup [.int 0, .int 0, .int 1])) a7 (.tup [.int 0, .int 0, .int 2])) a8 (.tup [.int 0, .int 0, .int (-1)])) a9 (.lst [.int 0, .int 0, .int 0])) a10 (.lst [.non, .int 0, .bl true, .str "", .ref a1, .ref a2, .ref a3, .ref a4, .ref a5, .ref a6, .ref a7, .ref a8, .ref a9])) := (sa1.trans (sa2.trans (sa3.trans (sa4.trans (sa5.trans (sa6.trans (sa7.trans (sa8.trans (sa9.trans (sa10))))))))))
    have fa : Items (upd (upd (upd (upd (upd (upd (upd (upd (upd (upd H a1 (.tup [])) a2 (.lst [])) a3 (.dT [])) a4 (.tup [.int 0, .int 0])) a5 (.tup [.int 0, .int 0, .int 0])) a6 (.tup [.int 0, .int 0, .int 1])) a7 (.tup [.int 0, .int 0, .int 2])) a8 (.tup [.int 0, .int 0, .int (-1)])) a9 (.lst [.int 0, .int 0, .int 0])) a10 (.lst [.non, .int 0, .bl true, .str "", .ref a1, .ref a2, .ref a3, .ref a4, .ref a5, .ref a6, .ref a7, .ref a8, .ref a9])) [V.non, V.int 0, V.bl true, V.str "", V.ref a1, V.ref a2, V.ref a3, V.ref a4, V.ref a5, V.ref a6, V.ref a7, V.ref a8, V.ref a9] := fun v hv => by
      simp only [List.mem_cons, List.not_mem_nil, or_false] at hv
      rcases hv with rfl | rfl | rfl | rfl | rfl | rfl | rfl | rfl | rfl | rfl | rfl | rfl | rfl
      · exact ⟨none, .oth (.non) (by decide)⟩
      · exact ⟨none, .oth (.int _) (by decide)⟩
      · exact ⟨none, .oth (.bl _) (by decide)⟩
      · exact ⟨none, .oth (.str _) (by decide)⟩
      · exact ⟨none, .tupN ((sa2.trans (sa3.trans (sa4.trans (sa5.trans (sa6.trans (sa7.trans (sa8.trans (sa9.trans (sa10))))))))) _ _ upd_same) (by show (0 : Nat) ≠ 3; decide)⟩
      · exact ⟨none, .oth (.lst ((sa3.trans (sa4.trans (sa5.trans (sa6.trans (sa7.trans (sa8.trans (sa9.trans (sa10)))))))) _ _ upd_same)) (by decide)⟩
      · exact ⟨none, .oth (.dT ((sa4.trans (sa5.trans (sa6.trans (sa7.trans (sa8.trans (sa9.trans (sa10))))))) _ _ upd_same)) (by decide)⟩
      · exact ⟨none, .tupN ((sa5.trans (sa6.trans (sa7.trans (sa8.trans (sa9.trans (sa10)))))) _ _ upd_same) (by show (2 : Nat) ≠ 3; decide)⟩
      · exact ⟨some [0, 0, 0], .edge ((sa6.trans (sa7.trans (sa8.trans (sa9.trans (sa10))))) _ _ upd_same) ⟨_, _, _, rfl, .inl rfl⟩⟩
      · exact ⟨some [0, 0, 1], .edge ((sa7.trans (sa8.trans (sa9.trans (sa10)))) _ _ upd_same) ⟨_, _, _, rfl, .inr rfl⟩⟩
      · exact ⟨none, .tup3 ((sa8.trans (sa9.trans (sa10))) _ _ upd_same) sc_i sc_i sc_i rfl⟩
      · exact ⟨none, .tup3 ((sa9.trans (sa10)) _ _ upd_same) sc_i sc_i sc_i rfl⟩
      · exact ⟨none, .oth (.lst ((sa10) _ _ upd_same)) (by decide)⟩
    have ea : (upd (upd (upd (upd (upd (upd (upd (upd (upd (upd H a1 (.tup [])) a2 (.lst [])) a3 (.dT [])) a4 (.tup [.int 0, .int 0])) a5 (.tup [.int 0, .int 0, .int 0])) a6 (.tup [.int 0, .int 0, .int 1])) a7 (.tup [.int 0, .int 0, .int 2])) a8 (.tup [.int 0, .int 0, .int (-1)])) a9 (.lst [.int 0, .int 0, .int 0])) a10 (.lst [.non, .int 0, .bl true, .str "", .ref a1, .ref a2, .ref a3, .ref a4, .ref a5, .ref a6, .ref a7, .ref a8, .ref a9])) a10 = some (.lst [V.non, V.int 0, V.bl true, V.str "", V.ref a1, V.ref a2, V.ref a3, V.ref a4, V.ref a5, V.ref a6, V.ref a7, V.ref a8, V.ref a9]) := upd_same
    generalize (upd (upd (upd (upd (upd (upd (upd (upd (upd (upd H a1 (.tup [])) a2 (.lst [])) a3 (.dT [])) a4 (.tup [.int 0, .int 0])) a5 (.tup [.int 0, .int 0, .int 0])) a6 (.tup [.int 0, .int 0, .int 1])) a7 (.tup [.int 0, .int 0, .int 2])) a8 (.tup [.int 0, .int 0, .int (-1)])) a9 (.lst [.int 0, .int 0, .int 0])) a10 (.lst [.non, .int 0, .bl true, .str "", .ref a1, .ref a2, .ref a3, .ref a4, .ref a5, .ref a6, .ref a7, .ref a8, .ref a9])) = HA at ta fa ea ⊢
    clear ha10 sa10 ha9 sa9 ha8 sa8 ha7 sa7 ha6 sa6 ha5 sa5 ha4 sa4 ha3 sa3 ha2 sa2 ha1 sa1
    refine ⟨_, rfl, ?_⟩
    refine ⟨big3, fun b1 hb1 => ?_⟩
    have sb1 := same_new (o := .tup [.int 0, .int 0, .bl true]) hb1
    refine ⟨big3, fun b2 hb2 => ?_⟩
    have sb2 := same_new (o := .tup [.bl false, .int 0, .int 0]) hb2
    refine ⟨big3, fun b3 hb3 => ?_⟩
    have sb3 := same_new (o := .tup [.int 0, .bl true, .int 1]) hb3
    refine ⟨big3, fun b4 hb4 => ?_⟩
    have sb4 := same_new (o := .tup [.non, .int 0, .int 0]) hb4
    refine ⟨big3, fun b5 hb5 => ?_⟩
    have sb5 := same_new (o := .tup [.int 0, .int 0, .non]) hb5
    refine ⟨big3, fun b6 hb6 => ?_⟩
    have sb6 := same_new (o := .tup [.str "0", .int 0, .int 0]) hb6
    refine ⟨big4, fun b7 hb7 => ?_⟩
    have sb7 := same_new (o := .tup [.int 0, .int 0, .int 0, .int 0]) hb7
    refine ⟨(by show 7 ≤ sizeLine; decide), fun b8 hb8 => ?_⟩
    have sb8 := same_new (o := .lst [.ref b1, .ref b2, .ref b3, .ref b4, .ref b5, .ref b6, .ref b7]) hb8
    have tb : Same HA (upd (upd (upd (upd (upd (upd (upd (upd HA b1 (.tup [.int 0, .int 0, .bl true])) b2 (.tup [.bl false, .int 0, .int 0])) b3 (.tup [.int 0, .bl true, .int 1])) b4 (.tup [.non, .int 0, .int 0])) b5 (.tup [.int 0, .int 0, .non])) b6 (.tup [.str "0", .int 0, .int 0])) b7 (.tup [.int 0, .int 0, .int 0, .int 0])) b8 (.lst [.ref b1, .ref b2, .ref b3, .ref b4, .ref b5, .ref b6, .ref b7])) := (sb1.trans (sb2.trans (sb3.trans (sb4.trans (sb5.trans (sb6.trans (sb7.trans (sb8))))))))
    have fb : Items (upd (upd (upd (upd (upd (upd (upd (upd HA b1 (.tup [.int 0, .int 0, .bl true])) b2 (.tup [.bl false, .int 0, .int 0])) b3 (.tup [.int 0, .bl true, .int 1])) b4 (.tup [.non, .int 0, .int 0])) b5 (.tup [.int 0, .int 0, .non])) b6 (.tup [.str "0", .int 0, .int 0])) b7 (.tup [.int 0, .int 0, .int 0, .int 0])) b8 (.lst [.ref b1, .ref b2, .ref b3, .ref b4, .ref b5, .ref b6, .ref b7])) [V.ref b1, V.ref b2, V.ref b3, V.ref b4, V.ref b5, V.ref b6, V.ref b7] := fun v hv => by
      simp only [List.mem_cons, List.not_mem_nil, or_false] at hv
      rcases hv with rfl | rfl | rfl | rfl | rfl | rfl | rfl
      · exact ⟨none, .tup3 ((sb2.trans (sb3.trans (sb4.trans (sb5.trans (sb6.trans (sb7.trans (sb8))))))) _ _ upd_same) sc_i sc_i ⟨_, .bl _⟩ rfl⟩
      · exact ⟨none, .tup3 ((sb3.trans (sb4.trans (sb5.trans (sb6.trans (sb7.trans (sb8)))))) _ _ upd_same) ⟨_, .bl _⟩ sc_i sc_i rfl⟩
      · exact ⟨none, .tup3 ((sb4.trans (sb5.trans (sb6.trans (sb7.trans (sb8))))) _ _ upd_same) sc_i ⟨_, .bl _⟩ sc_i rfl⟩
      · exact ⟨none, .tup3 ((sb5.trans (sb6.trans (sb7.trans (sb8)))) _ _ upd_same) ⟨_, .non⟩ sc_i sc_i rfl⟩
      · exact ⟨none, .tup3 ((sb6.trans (sb7.trans (sb8))) _ _ upd_same) sc_i sc_i ⟨_, .non⟩ rfl⟩
      · exact ⟨none, .tup3 ((sb7.trans (sb8)) _ _ upd_same) ⟨_, .str _⟩ sc_i sc_i rfl⟩
      · exact ⟨none, .tupN ((sb8) _ _ upd_same) (by show (4 : Nat) ≠ 3; decide)⟩
    have eb : (upd (upd (upd (upd (upd (upd (upd (upd HA b1 (.tup [.int 0, .int 0, .bl true])) b2 (.tup [.bl false, .int 0, .int 0])) b3 (.tup [.int 0, .bl true, .int 1])) b4 (.tup [.non, .int 0, .int 0])) b5 (.tup [.int 0, .int 0, .non])) b6 (.tup [.str "0", .int 0, .int 0])) b7 (.tup [.int 0, .int 0, .int 0, .int 0])) b8 (.lst [.ref b1, .ref b2, .ref b3, .ref b4, .ref b5, .ref b6, .ref b7])) b8 = some (.lst [V.ref b1, V.ref b2, V.ref b3, V.ref b4, V.ref b5, V.ref b6, V.ref b7]) := upd_same
    generalize (upd (upd (upd (upd (upd (upd (upd (upd HA b1 (.tup [.int 0, .int 0, .bl true])) b2 (.tup [.bl false, .int 0, .int 0])) b3 (.tup [.int 0, .bl true, .int 1])) b4 (.tup [.non, .int 0, .int 0])) b5 (.tup [.int 0, .int 0, .non])) b6 (.tup [.str "0", .int 0, .int 0])) b7 (.tup [.int 0, .int 0, .int 0, .int 0])) b8 (.lst [.ref b1, .ref b2, .ref b3, .ref b4, .ref b5, .ref b6, .ref b7])) = HB at tb fb eb ⊢
    clear hb8 sb8 hb7 sb7 hb6 sb6 hb5 sb5 hb4 sb4 hb3 sb3 hb2 sb2 hb1 sb1
    refine ⟨a10, b8, _, _, rfl, rfl, tb _ _ ea, eb, (by show 20 ≤ sizeLine; decide), fun pc hpc => ?_⟩
    have sc := same_new (o := .lst ([V.non, V.int 0, V.bl true, V.str "", V.ref a1, V.ref a2, V.ref a3, V.ref a4, V.ref a5, V.ref a6, V.ref a7, V.ref a8, V.ref a9] ++ [V.ref b1, V.ref b2, V.ref b3, V.ref b4, V.ref b5, V.ref b6, V.ref b7])) hpc
    have tc := ta.trans (tb.trans sc)
    have fc : Items (upd HB pc (.lst ([V.non, V.int 0, V.bl true, V.str "", V.ref a1, V.ref a2, V.ref a3, V.ref a4, V.ref a5, V.ref a6, V.ref a7, V.ref a8, V.ref a9] ++ [V.ref b1, V.ref b2, V.ref b3, V.ref b4, V.ref b5, V.ref b6, V.ref b7]))) ([V.non, V.int 0, V.bl true, V.str "", V.ref a1, V.ref a2, V.ref a3, V.ref a4, V.ref a5, V.ref a6, V.ref a7, V.ref a8, V.ref a9] ++ [V.ref b1, V.ref b2, V.ref b3, V.ref b4, V.ref b5, V.ref b6, V.ref b7]) := Items.app ((fa.same tb).same sc) (fb.same sc)
    have ec : upd HB pc (.lst ([V.non, V.int 0, V.bl true, V.str "", V.ref a1, V.ref a2, V.ref a3, V.ref a4, V.ref a5, V.ref a6, V.ref a7, V.ref a8, V.ref a9] ++ [V.ref b1, V.ref b2, V.ref b3, V.ref b4, V.ref b5, V.ref b6, V.ref b7])) pc = some (.lst ([V.non, V.int 0, V.bl true, V.str "", V.ref a1, V.ref a2, V.ref a3, V.ref a4, V.ref a5, V.ref a6, V.ref a7, V.ref a8, V.ref a9] ++ [V.ref b1, V.ref b2, V.ref b3, V.ref b4, V.ref b5, V.ref b6, V.ref b7])) := upd_same
    have lc : ([V.non, V.int 0, V.bl true, V.str "", V.ref a1, V.ref a2, V.ref a3, V.ref a4, V.ref a5, V.ref a6, V.ref a7, V.ref a8, V.ref a9] ++ [V.ref b1, V.ref b2, V.ref b3, V.ref b4, V.ref b5, V.ref b6, V.ref b7]).length = 20 := rfl
    generalize upd HB pc (.lst ([V.non, V.int 0, V.bl true, V.str "", V.ref a1, V.ref a2, V.ref a3, V.ref a4, V.ref a5, V.ref a6, V.ref a7, V.ref a8, V.ref a9] ++ [V.ref b1, V.ref b2, V.ref b3, V.ref b4, V.ref b5, V.ref b6, V.ref b7])) = HC at tc fc ec ⊢
    generalize [V.non, V.int 0, V.bl true, V.str "", V.ref a1, V.ref a2, V.ref a3, V.ref a4, V.ref a5, V.ref a6, V.ref a7, V.ref a8, V.ref a9] ++ [V.ref b1, V.ref b2, V.ref b3, V.ref b4, V.ref b5, V.ref b6, V.ref b7] = us at fc ec lc
    clear sc hpc fb eb tb fa ea ta
    refine ⟨_, rfl, ?_⟩
    refine ⟨big2, fun cc1 hcc1 => ?_⟩
    have scc1 := same_new (o := .tup [.int 0, .int 0]) hcc1
    refine ⟨big2, fun cc2 hcc2 => ?_⟩
    have scc2 := same_new (o := .tup [.ref cc1, .int 0]) hcc2
    refine ⟨_, _, rfl, rfl, pw_ok (by decide) (by decide), _, _, rfl, rfl, pw_ok (by decide) (by decide), _, _, rfl, rfl, big3, fun cc3 hcc3 => ?_⟩
    have scc3 := same_new (o := .tup [.int (10 ^ (60 : Int).toNat), .int (0 - (10 ^ (60 : Int).toNat)), .int 1]) hcc3
    refine ⟨big0, fun cc4 hcc4 => ?_⟩
    have scc4 := same_new (o := .lst []) hcc4
    refine ⟨big3, fun cc5 hcc5 => ?_⟩
    have scc5 := same_new (o := .tup [.int 0, .ref cc4, .int 0]) hcc5
    refine ⟨big0, fun cc6 hcc6 => ?_⟩
    have scc6 := same_new (o := .lst []) hcc6
    refine ⟨big3, fun cc7 hcc7 => ?_⟩
    have scc7 := same_new (o := .tup [.int 0, .int 0, .ref cc6]) hcc7
    refine fun cc8 hcc8 => ?_
    have scc8 := same_new (o := .dT []) hcc8
    refine ⟨big3, fun cc9 hcc9 => ?_⟩
    have scc9 := same_new (o := .tup [.ref cc8, .int 0, .int 0]) hcc9
    refine ⟨(by show 6 ≤ sizeLine; decide), fun cc10 hcc10 => ?_⟩
    have scc10 := same_new (o := .lst [.ref cc2, .ref cc3, .ref cc5, .ref cc7, .ref cc9, .str "000"]) hcc10
    have tcc : Same HC (upd (upd (upd (upd (upd (upd (upd (upd (upd (upd HC cc1 (.tup [.int 0, .int 0])) cc2 (.tup [.ref cc1, .int 0])) cc3 (.tup [.int (10 ^ (60 : Int).toNat), .int (0 - (10 ^ (60 : Int).toNat)), .int 1])) cc4 (.lst [])) cc5 (.tup [.int 0, .ref cc4, .int 0])) cc6 (.lst [])) cc7 (.tup [.int 0, .int 0, .ref cc6])) cc8 (.dT [])) cc9 (.tup [.ref cc8, .int 0, .int 0])) cc10 (.lst [.ref cc2, .ref cc3, .ref cc5, .ref cc7, .ref cc9, .str "000"])) := (scc1.trans (scc2.trans (scc3.trans (scc4.trans (scc5.trans (scc6.trans (scc7.trans (scc8.trans (scc9.trans (scc10))))))))))
    have fcc : Items (upd (upd (upd (upd (upd (upd (upd (upd (upd (upd HC cc1 (.tup [.int 0, .int 0])) cc2 (.tup [.ref cc1, .int 0])) cc3 (.tup [.int (10 ^ (60 : Int).toNat), .int (0 - (10 ^ (60 : Int).toNat)), .int 1])) cc4 (.lst [])) cc5 (.tup [.int 0, .ref cc4, .int 0])) cc6 (.lst [])) cc7 (.tup [.int 0, .int 0, .ref cc6])) cc8 (.dT [])) cc9 (.tup [.ref cc8, .int 0, .int 0])) cc10 (.lst [.ref cc2, .ref cc3, .ref cc5, .ref cc7, .ref cc9, .str "000"])) [V.ref cc2, V.ref cc3, V.ref cc5, V.ref cc7, V.ref cc9, V.str "000"] := fun v hv => by
      simp only [List.mem_cons, List.not_mem_nil, or_false] at hv
      rcases hv with rfl | rfl | rfl | rfl | rfl | rfl
      · exact ⟨none, .tupN ((scc3.trans (scc4.trans (scc5.trans (scc6.trans (scc7.trans (scc8.trans (scc9.trans (scc10)))))))) _ _ upd_same) (by show (2 : Nat) ≠ 3; decide)⟩
      · exact ⟨some [(10 ^ (60 : Int).toNat), (0 - (10 ^ (60 : Int).toNat)), 1], .edge ((scc4.trans (scc5.trans (scc6.trans (scc7.trans (scc8.trans (scc9.trans (scc10))))))) _ _ upd_same) ⟨_, _, _, rfl, .inr rfl⟩⟩
      · exact ⟨none, .tup3 ((scc6.trans (scc7.trans (scc8.trans (scc9.trans (scc10))))) _ _ upd_same) sc_i ⟨_, .lst ((scc5.trans (scc6.trans (scc7.trans (scc8.trans (scc9.trans (scc10)))))) _ _ upd_same)⟩ sc_i rfl⟩
      · exact ⟨none, .tup3 ((scc8.trans (scc9.trans (scc10))) _ _ upd_same) sc_i sc_i ⟨_, .lst ((scc7.trans (scc8.trans (scc9.trans (scc10)))) _ _ upd_same)⟩ rfl⟩
      · exact ⟨none, .tup3 ((scc10) _ _ upd_same) ⟨_, .dT ((scc9.trans (scc10)) _ _ upd_same)⟩ sc_i sc_i rfl⟩
      · exact ⟨none, .oth (.str _) (by decide)⟩
    have ecc : (upd (upd (upd (upd (upd (upd (upd (upd (upd (upd HC cc1 (.tup [.int 0, .int 0])) cc2 (.tup [.ref cc1, .int 0])) cc3 (.tup [.int (10 ^ (60 : Int).toNat), .int (0 - (10 ^ (60 : Int).toNat)), .int 1])) cc4 (.lst [])) cc5 (.tup [.int 0, .ref cc4, .int 0])) cc6 (.lst [])) cc7 (.tup [.int 0, .int 0, .ref cc6])) cc8 (.dT [])) cc9 (.tup [.ref cc8, .int 0, .int 0])) cc10 (.lst [.ref cc2, .ref cc3, .ref cc5, .ref cc7, .ref cc9, .str "000"])) cc10 = some (.lst [V.ref cc2, V.ref cc3, V.ref cc5, V.ref cc7, V.ref cc9, V.str "000"]) := upd_same
    generalize (upd (upd (upd (upd (upd (upd (upd (upd (upd (upd HC cc1 (.tup [.int 0, .int 0])) cc2 (.tup [.ref cc1, .int 0])) cc3 (.tup [.int (10 ^ (60 : Int).toNat), .int (0 - (10 ^ (60 : Int).toNat)), .int 1])) cc4 (.lst [])) cc5 (.tup [.int 0, .ref cc4, .int 0])) cc6 (.lst [])) cc7 (.tup [.int 0, .int 0, .ref cc6])) cc8 (.dT [])) cc9 (.tup [.ref cc8, .int 0, .int 0])) cc10 (.lst [.ref cc2, .ref cc3, .ref cc5, .ref cc7, .ref cc9, .str "000"])) = HD at tcc fcc ecc ⊢
    clear hcc10 scc10 hcc9 scc9 hcc8 scc8 hcc7 scc7 hcc6 scc6 hcc5 scc5 hcc4 scc4 hcc3 scc3 hcc2 scc2 hcc1 scc1
    refine ⟨pc, cc10, _, _, rfl, rfl, tcc _ _ ec, ecc, ?_, fun pd hpd => ?_⟩
    · rw [lc]
      show 20 + 6 ≤ sizeLine
      decide
    have sd := same_new (o := .lst (us ++ [V.ref cc2, V.ref cc3, V.ref cc5, V.ref cc7, V.ref cc9, V.str "000"])) hpd
    have td := tc.trans (tcc.trans sd)
    have fd : Items (upd HD pd (.lst (us ++ [V.ref cc2, V.ref cc3, V.ref cc5, V.ref cc7, V.ref cc9, V.str "000"]))) (us ++ [V.ref cc2, V.ref cc3, V.ref cc5, V.ref cc7, V.ref cc9, V.str "000"]) := Items.app ((fc.same tcc).same sd) (fcc.same sd)
    have ed : upd HD pd (.lst (us ++ [V.ref cc2, V.ref cc3, V.ref cc5, V.ref cc7, V.ref cc9, V.str "000"])) pd = some (.lst (us ++ [V.ref cc2, V.ref cc3, V.ref cc5, V.ref cc7, V.ref cc9, V.str "000"])) := upd_same
    have ld : (us ++ [V.ref cc2, V.ref cc3, V.ref cc5, V.ref cc7, V.ref cc9, V.str "000"]).length = 26 := by
      rw [List.length_append, lc]
      rfl
    generalize upd HD pd (.lst (us ++ [V.ref cc2, V.ref cc3, V.ref cc5, V.ref cc7, V.ref cc9, V.str "000"])) = HE at td fd ed ⊢
    generalize us ++ [V.ref cc2, V.ref cc3, V.ref cc5, V.ref cc7, V.ref cc9, V.str "000"] = ws at fd ed ld
    clear sd hpd fcc ecc tcc fc ec tc
    refine ⟨_, rfl, 9, rfl, a, _, rfl, same_sql td ss.1, fun pf hpf => ?_⟩
    rw [cutR_map]
    have sf := same_new (o := .lst ((cutR L none (some 9)).map fun q => V.ref q.1)) hpf
    have lcut := cutR_len (L := L) (lo := none) (hi := some 9)
    have few : (cutR L none (some 9)).length ≤ 1000 := by
      have z : (cutR L none (some 9)).length ≤ 9 := by
        unfold cutR
        rw [List.length_take]
        exact Nat.le_trans (Nat.min_le_left _ _) (by have e9 : HT.sIx L.length L.length (some 9) = min 9 L.length := HT.sIx_nat L.length L.length 9; show HT.sIx L.length L.length (some 9) - 0 ≤ 9; omega)
      omega
    refine ⟨pd, pf, _, _, rfl, rfl, sf _ _ ed, upd_same, ?_, fun pg hpg => ?_⟩
    · rw [ld, List.length_map]
      exact Nat.le_of_lt (size_lt (m := 2000) (by omega) (by decide))
    have sg := same_new (o := .lst (ws ++ (cutR L none (some 9)).map fun q => V.ref q.1)) hpg
    refine q pg _ _ (td.trans (sf.trans sg)) upd_same (Items.app ((fd.same sf).same sg) (items_rows (fun r hr1 => sg _ _ (sf _ _ (td _ _ (ss.2 r (cutR_sub r hr1))))) fun r hr1 => edg r (cutR_sub r hr1))) ?_
    rw [List.length_append, ld, List.length_map]
    omega
end
end K45

set_option Elab.async false
set_option linter.all false
set_option maxRecDepth 100000
set_option maxHeartbeats 8000000
set_option exponentiation.threshold 600
namespace K45
open PySem PySem.Spec PyProof.Rows L2 RT TT PC
theorem hu65 {A : Around} {k : Nat} (r : Room k A) : A.units + 65 < cLine := by
  have := r.un
  omega
abbrev NOr : List Str := N_law_others_right ++ [("edge" : Str), ("x" : Str), ("y" : Str), ("side" : Str)]
theorem scOr : FnScope NOr ["picture_here", "edges"] (defScope s_law_others_right) := ⟨rfl, rfl, rfl, by decide +kernel, rfl, by decide +kernel, by decide +kernel⟩
theorem asc_perm {A B : List (List Int)} (h : Asc A) (g : Asc B) (p : A.Perm B) : A = B := asc_uniq h g fun k => p.mem_iff
theorem nodup_of {s : List (List Int)} : ∀ {l : List (List Int)} , s.Nodup → (∀ k ∈ l, k ∈ s) → (∀ k ∈ s, k ∈ l) → s.length = l.length → l.Nodup := by
  intro l
  induction l generalizing s with
  | nil => exact fun _ _ _ _ => List.nodup_nil
  | cons x l ih =>
    intro nd h1 h2 len
    have hx : x ∉ l := fun hx => by
      have z := List.Nodup.length_le_of_subset nd (l₂ := l) fun k hk => by
        rcases List.mem_cons.mp (h2 k hk) with rfl | hk
        · exact hx
        · exact hk
      rw [len, List.length_cons] at z
      omega
    have hs : x ∈ s := h1 x (List.mem_cons_self ..)
    refine List.nodup_cons.mpr ⟨hx, ih (s := s.erase x) (nd.erase x) (fun k hk => ?_) (fun k hk => ?_) ?_⟩
    · exact (nd.mem_erase_iff).mpr ⟨fun z => hx (z ▸ hk), h1 k (List.mem_cons_of_mem _ hk)⟩
    · have z := (nd.mem_erase_iff).mp hk
      exact (List.mem_cons.mp (h2 k z.2)).resolve_left z.1
    · rw [List.length_erase_of_mem hs, len]
      rfl
theorem and_go {c : Bool} {u : TT} {σ : L2.St} {H : Hp} {A B : Hp → Prop} (W : Hp → Prop) (hP : W H) (hu : c = true → (∀ H', W H' → B H') → u σ H (fun c' H' => if c' = true then A H' else B H')) (hB : ∀ H', W H' → B H') :
    if c = true then u σ H (fun c' H' => if c' = true then A H' else B H') else (if false = true then A H else B H) := by
  cases c with
  | true => exact iteT (hu rfl hB)
  | false => exact iteF (iteF (hB H hP))
theorem bl_ne (b : Bool) : (!decide (V.bl b = V.bl b)) = false := by rw [decide_eq_true rfl]; rfl
theorem row_eqv (a b : List Int) : PyData.eqv (rowD a) (rowD b) = decide (a = b) := by
  rw [PyData.eqv]
  exact row_dec a b
theorem shaped_row (k : List Int) : SeqAt.shaped (rowD k) = true := by
  have h1 := RT.depth_ints k
  have h2 : PyData.depth (rowD k) ≤ 64 := by simp only [PyData.depth]; omega
  show (PyData.canLay0 (rowD k) && decide (PyData.depth (rowD k) ≤ 64)) = true
  rw [Bool.and_eq_true]
  exact ⟨by simp only [PyData.canLay0]; exact ints_canLay k, decide_eq_true h2⟩
theorem dp_row {K : PySem.W.Frag} {H : Hp} {a : Addr} {k : List Int} (h : Row H a k) : Dp K H (.ref a) (rowD k) := .tup (tupT h) (dp_ints k)
theorem cutR_nodup {L : List (Addr × List Int)} {lo hi : Option Int} (h : (L.map (·.2)).Nodup) : ((cutR L lo hi).map (·.2)).Nodup := by
  unfold cutR
  exact h.sublist (((List.take_sublist _ _).trans (List.drop_sublist _ _)).map _)
theorem cutR_one {L : List (Addr × List Int)} : (cutR L (some 1) none).length = L.length - 1 := by
  unfold cutR
  have e1 : HT.sIx L.length 0 (some 1) = min 1 L.length := HT.sIx_nat L.length 0 1
  have e2 : HT.sIx L.length L.length none = L.length := rfl
  rw [List.length_take, List.length_drop, e1, e2]
  omega
theorem Edges.sub {L L' : List (Addr × List Int)} (h : Edges L) (hs : ∀ r ∈ L', r ∈ L) (nd : (L'.map (·.2)).Nodup) (le : L'.length ≤ L.length) : Edges L' := ⟨fun r hr => h.1 r (hs r hr), nd, Nat.le_trans le h.2.2⟩
def fX : List Int → List Int
  | [x, y, s] => [x + 1, y, s]
  | k => k
def fY3 : List Int → List Int
  | [x, y, s] => [x, y - 3, s]
  | k => k
def fY1 : List Int → List Int
  | [x, y, s] => [x, y + 1, s]
  | k => k
theorem fX_edge {k : List Int} (h : EdgeR k) : EdgeR (fX k) := by
  obtain ⟨x, y, s, rfl, hs⟩ := h
  exact ⟨_, _, _, rfl, hs⟩
theorem fY3_edge {k : List Int} (h : EdgeR k) : EdgeR (fY3 k) := by
  obtain ⟨x, y, s, rfl, hs⟩ := h
  exact ⟨_, _, _, rfl, hs⟩
theorem fY1_edge {k : List Int} (h : EdgeR k) : EdgeR (fY1 k) := by
  obtain ⟨x, y, s, rfl, hs⟩ := h
  exact ⟨_, _, _, rfl, hs⟩
/-- lists of rows in a list -/
structure OneL (H : Hp) (o : Addr × List (Addr × List Int)) : Prop where
  nr : NewRws H o.1 o.2
  ed : ∀ r ∈ o.2, EdgeR r.2
  le : o.2.length ≤ 1000
theorem OneL.same {H H' : Hp} {o : Addr × List (Addr × List Int)} (h : OneL H o) (e : Same H H') : OneL H' o := ⟨⟨e _ _ h.nr.1, fun r hr => e _ _ (h.nr.2 r hr)⟩, h.ed, h.le⟩
theorem OneL.of {H : Hp} {p : Addr} {L L' : List (Addr × List Int)} {f : List Int → List Int} (nr : NewRws H p L') (e : L'.map (·.2) = (L.map (·.2)).map f) (hf : ∀ k, EdgeR k → EdgeR (f k)) (hL : ∀ r ∈ L, EdgeR r.2) (hl : L.length ≤ 1000) : OneL H (p, L') := by
  refine ⟨nr, fun r hr => ?_, ?_⟩
  · have z : r.2 ∈ L'.map (·.2) := List.mem_map.mpr ⟨r, hr, rfl⟩
    rw [e] at z
    obtain ⟨k, hk, e2⟩ := List.mem_map.mp z
    obtain ⟨u, hu, rfl⟩ := List.mem_map.mp hk
    rw [← e2]
    exact hf _ (hL u hu)
  · have z := congrArg List.length e
    rw [List.length_map, List.length_map, List.length_map] at z
    show L'.length ≤ 1000
    omega
theorem NewRws.same {H H' : Hp} {p : Addr} {L : List (Addr × List Int)} (h : NewRws H p L) (e : Same H H') : NewRws H' p L := ⟨e _ _ h.1, fun r hr => e _ _ (h.2 r hr)⟩
section
variable {P : Program} {w : World} {K : PySem.W.Frag} {mg : Str → Option Value} {base : Heap}
theorem eqO_pic {H : Hp} {a b : Addr} {La Lb : List (Addr × List Int)} {Q : VK} {E : XK} (T : Tx K mg) (ha : IsPic K H a La) (hb : IsPic K H b Lb) (q : Q (.bl (decide (La.map (·.2) = Lb.map (·.2)))) H) : rEqO K (He.ga K "Picture") (spEq K) E (.ref a) (.ref b) H Q := by
  obtain ⟨d, _, _, _, h1, _⟩ := id ha
  obtain ⟨d', _, _, _, g1, _⟩ := id hb
  exact ⟨a, d, _, _, rfl, h1, .inl ⟨b, d', _, rfl, g1, rfl⟩, T.nf_self, a, .ref b, La, rfl, ha, .inl ⟨b, Lb, rfl, hb, q⟩⟩
theorem eqO_typ {H : Hp} {a : Addr} {y : V} {t : String} {La : List (Addr × List Int)} {Q : VK} {E : XK} (T : Tx K mg) (ha : IsPic K H a La) (ht : Typ H y t) (q : Q (.bl false) H) : rEqO K (He.ga K "Picture") (spEq K) E (.ref a) y H Q := by
  obtain ⟨d, _, _, _, h1, _⟩ := id ha
  exact ⟨a, d, _, _, rfl, h1, .inr ht.ty, ht.not_first T, a, y, La, rfl, ha, .inr ⟨t, ht, q⟩⟩
theorem neO_pic {H : Hp} {a b : Addr} {La Lb : List (Addr × List Int)} {Q : VK} {E : XK} (T : Tx K mg) (ha : IsPic K H a La) (hb : IsPic K H b Lb) (q : Q (.bl (!decide (La.map (·.2) = Lb.map (·.2)))) H) : rNeO K (He.ga K "Picture") (spEq K) E (.ref a) (.ref b) H Q := by
  obtain ⟨d, _, _, _, h1, _⟩ := id ha
  obtain ⟨d', _, _, _, g1, _⟩ := id hb
  exact ⟨a, d, _, _, rfl, h1, .inl ⟨b, d', _, rfl, g1, rfl⟩, T.nf_self, a, .ref b, La, rfl, ha, .inl ⟨b, Lb, rfl, hb, _, rfl, q⟩⟩
theorem neO_typ {H : Hp} {a : Addr} {y : V} {t : String} {La : List (Addr × List Int)} {Q : VK} {E : XK} (T : Tx K mg) (ha : IsPic K H a La) (ht : Typ H y t) (q : Q (.bl true) H) : rNeO K (He.ga K "Picture") (spEq K) E (.ref a) y H Q := by
  obtain ⟨d, _, _, _, h1, _⟩ := id ha
  exact ⟨a, d, _, _, rfl, h1, .inr ht.ty, ht.not_first T, a, y, La, rfl, ha, .inr ⟨t, ht, _, rfl, q⟩⟩
theorem IsPic.asc {H : Hp} {a : Addr} {L : List (Addr × List Int)} (h : IsPic K H a L) : Asc (L.map (·.2)) := by
  obtain ⟨d, t, u, M, h1, h2, h3, h4, _⟩ := h
  exact h4
theorem dp_new {H : Hp} {a : Addr} {L : List (Addr × List Int)} (h : NewRws H a L) : Dp K H (.ref a) (rowsD (L.map (·.2))) := dp_rows h.rws
theorem srtF {H : Hp} {p p' : Addr} {L L' : List (Addr × List Int)} (n : NewRws H p L) (e : Edges L) (pm : L'.Perm L) (srt : (L'.map (·.2)).Pairwise fun x y => ltL y x = false) (hp : H p' = none) :
    Same H (upd H p' (.lst (L'.map fun q => V.ref q.1))) ∧ NewRws (upd H p' (.lst (L'.map fun q => V.ref q.1))) p' L' ∧ (L'.map (·.2)).Perm (L.map (·.2)) ∧ Asc (L'.map (·.2)) := by
  have s1 := same_new (o := .lst (L'.map fun q => V.ref q.1)) hp
  exact ⟨s1, ⟨upd_same, fun r hr => s1 _ _ (n.2 r (pm.mem_iff.mp hr))⟩, pm.map (·.2), asc_of srt ((pm.map (·.2)).nodup_iff.mpr e.2.1)⟩
theorem rowsAt {H : Hp} {p : Addr} {L : List (Addr × List Int)} (n : NewRws H p L) (e : Edges L) : RowsAt H 3 L := fun r hr => ⟨n.2 r hr, (e.1 r hr).len⟩
def spOthers (K : PySem.W.Frag) : Sp := fun vs H Q _ => ∃ (a e : Addr) (La L : List (Addr × List Int)), vs = [.ref a, .ref e] ∧ IsPic K H a La ∧ (La.map (·.2)).Perm (L.map (·.2)) ∧ NewRws H e L ∧ Edges L ∧ L.length ≤ 399 ∧ ∀ H', Same H H' → Q (.bl true) H'
theorem ok_others (D : Ds K) (T : Tx K mg) : FnOk P w K mg base CX0 8 (d_law_others_right.adr K) D.fd__law_others_right ["picture_here", "edges"] (spOthers K) := by
  have GI : FnOk P w K mg base CX0 5 _ _ _ (spInit K) := ok_init D T
  have GE : FnOk P w K mg base CX0 1 _ _ _ (spEq K) := ok_eq D T
  refine D.F__law_others_right.ok scOr (fun vs H Q E h => ?_) (fun cdv A outer s H vs Q E hr h => ?_)
  · obtain ⟨a, e, La, L, rfl, _⟩ := h
    rfl
  · obtain ⟨a, e, La, L, rfl, pic, perm, nr, edg, lL, q⟩ := h
    have nd := scOr.nd
    refine ⟨_, PSs.nox (pss_cons (ps_par (i := 2) (j := 3) (by rfl) nd rfl rfl (by decide) rfl rfl (pa_cons (pe_make T.k_Picture GI (hr.mono (by decide)) (by rfl) T.g_Picture (b_Picture_init D) .nil pass0 (pa_cons (pe_revL (pv 1)) pa_nil)) (pa_cons (pe_make T.k_Picture GI (hr.mono (by decide)) (by rfl) T.g_Picture (b_Picture_init D) .nil pass0 (pa_cons (pe_slice sl_list (pv 1) (po_some pe_int) po_none) pa_nil)) pa_nil)) (by rfl))
      (pss_cons (ps_set (i := 4) nd rfl (.inl rfl) (pe_op op_cat (pe_lc (own := [(("edge" : Str), 8)]) (g := gName 8) (tt := tTest (tOp (rNeD K) (tVar 8) (tTup (tCons (tC (.int 5)) (tCons (tC (.int 5)) (tCons (tC (.int 0)) tNil)))))) (te := tVar 8) rfl nd (pi_list (pv 1)) (blkOk_by (own := [(("edge" : Str), 8)]) (N := NOr) (sc := defScope s_law_others_right) (by decide +kernel)) (fun _ _ _ _ _ => pg_name (i := 8) nd rfl (Or.inl rfl)) (fun _ _ _ _ _ => pts_one (pt_cmpR (op_neD hr.units) (pv 8) (pe_tup (pa_cons pe_int (pa_cons pe_int (pa_cons pe_int pa_nil)))) (nomark _))) (fun _ _ _ _ _ => pv 8)) (pe_op op_rep (pe_lst (pa_cons (pe_tup (pa_cons pe_int (pa_cons pe_int (pa_cons pe_int pa_nil)))) pa_nil)) (pe_callTy call_int1 (by rfl) T.z_int (by decide +kernel) (pa_cons (pe_cmpR (op_notInD (hu65 hr)) (pe_tup (pa_cons pe_int (pa_cons pe_int (pa_cons pe_int pa_nil)))) (pv 1) rfl) pa_nil)))))
      (pss_cons (ps_if (PW.pt (pw_or (pt_not (pt_cmpR (op_eqO (fun _ _ => rfl) T.m_Picture_eq GE (hr.mono (by decide)) (b_Picture_eq D) pass0) (pv 0) (pv 2) (nomark _))) (pw_or1 (pt_cmpR (op_neO T.ne_Picture T.i_Picture.hm T.m_Picture_eq GE (hr.mono (by decide)) (b_Picture_eq D) pass0) (pv 0) (pv 2) (nomark _))))) (pss_one (ps_ret pe_bl)) pss_nil)
      (pss_cons (ps_if (PW.pt (pw_and (pt_cmpR (op_neD hr.units) (pv 1) (pe_lst pa_nil) (nomark _)) (pw_and1 (PW.pt (pw_or (pt_cmpR (op_eqO (fun _ _ => rfl) T.m_Picture_eq GE (hr.mono (by decide)) (b_Picture_eq D) pass0) (pv 0) (pv 3) (nomark _)) (pw_or1 (pt_not (pt_cmpR (op_neO T.ne_Picture T.i_Picture.hm T.m_Picture_eq GE (hr.mono (by decide)) (b_Picture_eq D) pass0) (pv 0) (pv 3) (nomark _))))))))) (pss_one (ps_ret pe_bl)) pss_nil)
      (pss_cons (ps_if (pt_cmpR op_ne (pe_cmpR (op_eqO (fun _ _ => rfl) T.m_Picture_eq GE (hr.mono (by decide)) (b_Picture_eq D) pass0) (pv 0) (pe_make T.k_Picture GI (hr.mono (by decide)) (by rfl) T.g_Picture (b_Picture_init D) .nil pass0 (pa_cons (pv 4) pa_nil)) (nomark _)) (pe_cmpR (op_eqD hr.units) (pe_callB cr_sortR (by rfl) T.z_sorted (by decide +kernel) (pa_cons (pv 1) pa_nil)) (pe_callB cr_sortR (by rfl) T.z_sorted (by decide +kernel) (pa_cons (pv 4) pa_nil)) (nomark _)) (nomark _)) (pss_one (ps_ret pe_bl)) pss_nil)
      (pss_cons (ps_set (i := 5) nd rfl (.inl rfl) (pe_op op_fdiv (pe_callB call_len_seq (by rfl) T.z_len PySem.boot_len (pa_cons (pv 1) pa_nil)) pe_int))
      (pss_cons (ps_set (i := 6) nd rfl (.inl rfl) (pe_lst (pa_cons (pe_lc (own := [(("x" : Str), 9), (("y" : Str), 10), (("side" : Str), 11)]) (g := gTup K 3 (gCons (gName 9) (gCons (gName 10) (gCons (gName 11) gNil)))) (tt := tYes) (te := tTup (tCons (tOp (rI0 fun i j => .int (i + j)) (tVar 9) (tC (.int 1))) (tCons (tVar 10) (tCons (tVar 11) tNil)))) rfl nd (pi_list (pv 1)) (blkOk_by (own := [(("x" : Str), 9), (("y" : Str), 10), (("side" : Str), 11)]) (N := NOr) (sc := defScope s_law_others_right) (by decide +kernel)) (fun _ _ _ _ _ => pg_tup rfl (pgs_cons (pg_name (i := 9) nd rfl (Or.inl rfl)) (pgs_cons (pg_name (i := 10) nd rfl (Or.inl rfl)) (pgs_cons (pg_name (i := 11) nd rfl (Or.inl rfl)) pgs_nil)))) (fun _ _ _ _ _ => pts_nil) (fun _ _ _ _ _ => (pe_tup (pa_cons (pe_op op_add (pv 9) pe_int) (pa_cons (pv 10) (pa_cons (pv 11) pa_nil)))))) (pa_cons (pe_lc (own := [(("x" : Str), 9), (("y" : Str), 10), (("side" : Str), 11)]) (g := gTup K 3 (gCons (gName 9) (gCons (gName 10) (gCons (gName 11) gNil)))) (tt := tYes) (te := tTup (tCons (tVar 9) (tCons (tOp (rI0 fun i j => .int (i - j)) (tVar 10) (tC (.int 3))) (tCons (tVar 11) tNil)))) rfl nd (pi_list (pv 1)) (blkOk_by (own := [(("x" : Str), 9), (("y" : Str), 10), (("side" : Str), 11)]) (N := NOr) (sc := defScope s_law_others_right) (by decide +kernel)) (fun _ _ _ _ _ => pg_tup rfl (pgs_cons (pg_name (i := 9) nd rfl (Or.inl rfl)) (pgs_cons (pg_name (i := 10) nd rfl (Or.inl rfl)) (pgs_cons (pg_name (i := 11) nd rfl (Or.inl rfl)) pgs_nil)))) (fun _ _ _ _ _ => pts_nil) (fun _ _ _ _ _ => (pe_tup (pa_cons (pv 9) (pa_cons (pe_op op_sub (pv 10) pe_int) (pa_cons (pv 11) pa_nil)))))) pa_nil))))
      (pss_cons (ps_set (i := 6) nd rfl (.inl rfl) (pe_op op_cat (pv 6) (pe_lst (pa_cons (pe_op op_cat (pe_op op_cat (pe_slice sl_list (pv 1) po_none (po_some (pv 5))) (pe_lc (own := [(("x" : Str), 9), (("y" : Str), 10), (("side" : Str), 11)]) (g := gTup K 3 (gCons (gName 9) (gCons (gName 10) (gCons (gName 11) gNil)))) (tt := tYes) (te := tTup (tCons (tOp (rI0 fun i j => .int (i + j)) (tVar 9) (tC (.int 1))) (tCons (tVar 10) (tCons (tVar 11) tNil)))) rfl nd (pi_list (pe_slice sl_list (pv 1) (po_some (pv 5)) (po_some (pe_op op_add (pv 5) pe_int)))) (blkOk_by (own := [(("x" : Str), 9), (("y" : Str), 10), (("side" : Str), 11)]) (N := NOr) (sc := defScope s_law_others_right) (by decide +kernel)) (fun _ _ _ _ _ => pg_tup rfl (pgs_cons (pg_name (i := 9) nd rfl (Or.inl rfl)) (pgs_cons (pg_name (i := 10) nd rfl (Or.inl rfl)) (pgs_cons (pg_name (i := 11) nd rfl (Or.inl rfl)) pgs_nil)))) (fun _ _ _ _ _ => pts_nil) (fun _ _ _ _ _ => (pe_tup (pa_cons (pe_op op_add (pv 9) pe_int) (pa_cons (pv 10) (pa_cons (pv 11) pa_nil))))))) (pe_slice sl_list (pv 1) (po_some (pe_op op_add (pv 5) pe_int)) po_none)) pa_nil))))
      (pss_cons (ps_set (i := 6) nd rfl (.inl rfl) (pe_op op_cat (pv 6) (pe_lst (pa_cons (pe_op op_cat (pe_slice sl_list (pv 1) po_none (po_some (pe_un un_neg pe_int))) (pe_lc (own := [(("x" : Str), 9), (("y" : Str), 10), (("side" : Str), 11)]) (g := gTup K 3 (gCons (gName 9) (gCons (gName 10) (gCons (gName 11) gNil)))) (tt := tYes) (te := tTup (tCons (tVar 9) (tCons (tOp (rI0 fun i j => .int (i + j)) (tVar 10) (tC (.int 1))) (tCons (tVar 11) tNil)))) rfl nd (pi_list (pe_slice sl_list (pv 1) (po_some (pe_un un_neg pe_int)) po_none)) (blkOk_by (own := [(("x" : Str), 9), (("y" : Str), 10), (("side" : Str), 11)]) (N := NOr) (sc := defScope s_law_others_right) (by decide +kernel)) (fun _ _ _ _ _ => pg_tup rfl (pgs_cons (pg_name (i := 9) nd rfl (Or.inl rfl)) (pgs_cons (pg_name (i := 10) nd rfl (Or.inl rfl)) (pgs_cons (pg_name (i := 11) nd rfl (Or.inl rfl)) pgs_nil)))) (fun _ _ _ _ _ => pts_nil) (fun _ _ _ _ _ => (pe_tup (pa_cons (pv 9) (pa_cons (pe_op op_add (pv 10) pe_int) (pa_cons (pv 11) pa_nil))))))) (pa_cons (pe_op op_cat (pe_slice sl_list (pv 1) (po_some pe_int) po_none) (pe_lst (pa_cons (pe_tup (pa_cons pe_int (pa_cons pe_int (pa_cons pe_int pa_nil)))) pa_nil))) pa_nil)))))
      (pss_cons (ps_for PassesOwn.never rfl (pi_list (pe_lc (own := [(("one" : Str), 7)]) (g := gName 7) (tt := tTest (tOp rEq (tCB (rLenT P w) (tCons (tCB (rSetT K P w) (tCons (tVar 7) tNil)) tNil)) (tCB (fun xs H Q => ∃ p ys, xs = [V.ref p] ∧ (SqL K H p ys ∨ SqT K H p ys) ∧ Q (V.int (ys.length : Nat)) H) (tCons (tVar 7) tNil)))) (te := tVar 7) rfl nd (pi_list (pv 6)) (blkOk_by (own := [(("one" : Str), 7)]) (N := NOr) (sc := defScope s_law_others_right) (by decide +kernel)) (fun _ _ _ _ _ => pg_name (i := 7) nd rfl (Or.inl rfl)) (fun _ _ _ _ _ => pts_one (pt_cmpR op_eq (pe_callB cr_lenT (by rfl) T.z_len PySem.boot_len (pa_cons (pe_callTy (cr_setT rfl hr.units) (by rfl) T.z_set (by decide +kernel) (pa_cons (pv 7) pa_nil)) pa_nil)) (pe_callB call_len_seq (by rfl) T.z_len PySem.boot_len (pa_cons (pv 7) pa_nil)) (nomark _))) (fun _ _ _ _ _ => pv 7))) (pg_name (i := 7) nd rfl (.inl rfl)) (pss_cons (ps_if (pt_cmpR op_ne (pe_cmpR (op_eqO (fun _ _ => rfl) T.m_Picture_eq GE (hr.mono (by decide)) (b_Picture_eq D) pass0) (pv 0) (pe_make T.k_Picture GI (hr.mono (by decide)) (by rfl) T.g_Picture (b_Picture_init D) .nil pass0 (pa_cons (pv 7) pa_nil)) (nomark _)) (pe_cmpR (op_eqD hr.units) (pe_callB cr_sortR (by rfl) T.z_sorted (by decide +kernel) (pa_cons (pv 7) pa_nil)) (pe_callB cr_sortR (by rfl) T.z_sorted (by decide +kernel) (pa_cons (pv 1) pa_nil)) (nomark _)) (nomark _)) (pss_one (ps_ret pe_bl)) pss_nil)
      (pss_one (ps_if (pt_cmpR op_ne (pe_cmpR (op_neO T.ne_Picture T.i_Picture.hm T.m_Picture_eq GE (hr.mono (by decide)) (b_Picture_eq D) pass0) (pe_make T.k_Picture GI (hr.mono (by decide)) (by rfl) T.g_Picture (b_Picture_init D) .nil pass0 (pa_cons (pv 7) pa_nil)) (pv 0) (nomark _)) (pe_cmpR (op_neD hr.units) (pe_callB cr_sortR (by rfl) T.z_sorted (by decide +kernel) (pa_cons (pv 7) pa_nil)) (pe_callB cr_sortR (by rfl) T.z_sorted (by decide +kernel) (pa_cons (pv 1) pa_nil)) (nomark _)) (nomark _)) (pss_one (ps_ret pe_bl)) pss_nil))))
      (pss_one (ps_ret (pe_cmpR (op_eqD hr.units) (pe_lc (own := [(("one" : Str), 7)]) (g := gName 7) (tt := tOr (tTest (tOp (rEqO K (He.ga K "Picture") (spEq K) E0) (tVar 0) (tVar 7))) (tNot (tTest (tOp (rNeO K (He.ga K "Picture") (spEq K) E0) (tVar 0) (tVar 7))))) (te := tC (.int 1)) rfl nd (pi_list (pe_lst (pa_cons pe_non (pa_cons pe_int (pa_cons (pv 1) (pa_cons (pe_callTy call_tuple_of (by rfl) T.z_tuple (by decide +kernel) (pa_cons (pv 1) pa_nil)) (pa_cons pe_dnewT (pa_cons pe_str pa_nil)))))))) (blkOk_by (own := [(("one" : Str), 7)]) (N := NOr) (sc := defScope s_law_others_right) (by decide +kernel)) (fun _ _ _ _ _ => pg_name (i := 7) nd rfl (Or.inl rfl)) (fun _ _ _ _ _ => pts_one (PW.pt (pw_or (pt_cmpR (op_eqO (fun _ _ => rfl) T.m_Picture_eq GE (hr.mono (by decide)) (b_Picture_eq D) pass0) (pv 0) (pv 7) (nomark _)) (pw_or1 (pt_not (pt_cmpR (op_neO T.ne_Picture T.i_Picture.hm T.m_Picture_eq GE (hr.mono (by decide)) (b_Picture_eq D) pass0) (pv 0) (pv 7) (nomark _))))))) (fun _ _ _ _ _ => pe_int)) (pe_lst pa_nil) (nomark _)))))))))))))), ?_⟩
    -- other, less
    refine ⟨_, rfl, e, _, rfl, lstL nr.1, fun p1 hp1 => ?_⟩
    rw [← List.map_reverse]
    have s1 := same_new (o := .lst (L.reverse.map fun q => V.ref q.1)) hp1
    have pmr := List.reverse_perm L
    have nr1 : NewRws (upd H p1 (.lst (L.reverse.map fun q => V.ref q.1))) p1 L.reverse := ⟨upd_same, fun r hr1 => s1 _ _ (nr.2 r (pmr.mem_iff.mp hr1))⟩
    have ed1 : Edges L.reverse := edg.sub (fun r hr1 => pmr.mem_iff.mp hr1) ((pmr.map (·.2)).nodup_iff.mpr edg.2.1) (by rw [pmr.length_eq]; exact Nat.le_refl _)
    refine fun ot d0 fa d1 _ => make_q (K := K) nr1.rws ed1 fa d1 fun H2 Lo s2 pico permo => ⟨rfl, ?_⟩
    have s02 : Same H H2 := s1.trans s2
    clear d1 fa nr1 ed1 s2 s1 hp1
    refine ⟨_, rfl, 1, rfl, e, _, rfl, lstL (s02 _ _ nr.1), fun p3 hp3 => ?_⟩
    rw [cutR_map]
    have s3 := same_new (o := .lst ((cutR L (some 1) none).map fun q => V.ref q.1)) hp3
    have nr3 : NewRws (upd H2 p3 (.lst ((cutR L (some 1) none).map fun q => V.ref q.1))) p3 (cutR L (some 1) none) := ⟨upd_same, fun r hr1 => s3 _ _ (s02 _ _ (nr.2 r (cutR_sub r hr1)))⟩
    refine fun le d0 fa d1 _ => make_q (K := K) nr3.rws (edg.sub cutR_sub (cutR_nodup edg.2.1) cutR_len) fa d1 fun H4 Ll s4 picl perml => ⟨rfl, _, _, rfl, ?_⟩
    have s24 : Same H2 H4 := s3.trans s4
    have s04 : Same H H4 := s02.trans s24
    have pico4 := pico.same s24
    have pic4 := pic.same s04
    have nr4 := nr.same s04
    clear d1 fa nr3 s3 s4 hp3 s24 s02 pico
    have eo : La.map (·.2) = Lo.map (·.2) := asc_perm pic4.asc pico4.asc (perm.trans (((pmr.map (·.2)).symm).trans permo.symm))
    have nl : L ≠ [] → La.map (·.2) ≠ Ll.map (·.2) := fun h0 z => by
      have z1 := perm.length_eq
      have z2 := perml.length_eq
      rw [z, z2, List.length_map, List.length_map, cutR_one] at z1
      cases L with
      | nil => exact h0 rfl
      | cons r L =>
        rw [List.length_cons] at z1
        omega
    -- changed
    refine ⟨_, rfl, e, rfl, ⟨_, lstL nr4.1⟩, fun D1 hD1 => ?_⟩
    refine lc_it (walk_list (K := K) (a := e) (xs := L.map fun q => V.ref q.1)) (fun i H' => Same H4 H' ∧ NewRws H' D1 ((L.take i).filter fun r => decide (r.2 ≠ [5, 5, 0])))
      ⟨same_new hD1, upd_same, fun _ z => nomatch z⟩ (fun i H' hi p => lstL (p.1 _ _ nr4.1)) (fun i x H5 H6 hi p y => ?_) fun H5 p => ?_
    · obtain ⟨sm, nD⟩ := p
      obtain ⟨rfl, hx⟩ := y
      obtain ⟨r, hr', rfl, er⟩ := ((nr4.rws (K := K)).same sm).at hx
      have hi' : i < L.length := (List.getElem?_eq_some_iff.mp hr').1
      refine ⟨rfl, _, rfl, big3, fun p hp => ?_⟩
      have sp := same_new (o := .tup [.int 5, .int 5, .int 0]) hp
      have e5 : Row (upd H6 p (.tup [.int 5, .int 5, .int 0])) p [5, 5, 0] := upd_same
      refine ⟨_, _, dp_row (sp _ _ er), dp_row e5, shaped_row _, shaped_row _, ?_⟩
      rw [row_eqv]
      have tk : (L.take (i + 1)).filter (fun r => decide (r.2 ≠ [5, 5, 0])) = (L.take i).filter (fun r => decide (r.2 ≠ [5, 5, 0])) ++ [r].filter fun r => decide (r.2 ≠ [5, 5, 0]) := by
        rw [take_row hr', List.filter_append]
      refine ⟨_, rfl, ?_⟩
      by_cases c : r.2 = [5, 5, 0]
      · refine ite_f (by rw [decide_eq_true c]; rfl) ⟨sm.trans sp, ?_⟩
        rw [tk, List.filter_cons, if_neg (by rw [decide_eq_true_eq]; exact fun z => z c), List.filter_nil, List.append_nil]
        exact nD.same sp
      · refine ite_t (by rw [decide_eq_false c]; rfl) ?_
        have nD' := nD.same sp
        refine ⟨_, rfl, _, nD'.1, ?_, fun b o hb => ?_, ?_, fun u hu => ?_⟩
        · rw [List.length_map]
          have z := List.length_filter_le (fun r : Addr × List Int => decide (r.2 ≠ [5, 5, 0])) (L.take i)
          rw [List.length_take] at z
          exact size_lt (m := 399) (by omega) (by decide)
        · rw [upd_ne (ne_of_none hb hD1)]
          exact sp _ _ (sm _ _ hb)
        · rw [upd_same, tk, List.filter_cons, if_pos (decide_eq_true c), List.map_append]
          rfl
        · rw [tk, List.filter_cons, if_pos (decide_eq_true c)] at hu
          have z : Row (upd H6 p (.tup [.int 5, .int 5, .int 0])) u.1 u.2 := (List.mem_append.mp hu).elim (fun z => nD'.2 u z) fun z => by
            rw [List.mem_singleton.mp z]
            exact sp _ _ er
          show upd _ _ _ _ = _
          rw [upd_ne (fun y => ?_)]
          · exact z
          · have z' : upd H6 p (.tup [.int 5, .int 5, .int 0]) u.1 = some (.tup (u.2.map V.int)) := z
            rw [y, nD'.1] at z'
            cases z'
    obtain ⟨sm, nD⟩ := p
    rw [List.length_map, List.take_length] at nD
    obtain ⟨Lf, eLf⟩ : ∃ Lf, L.filter (fun r => decide (r.2 ≠ [5, 5, 0])) = Lf := ⟨_, rfl⟩
    have subf : ∀ r ∈ Lf, r ∈ L := fun r hr1 => by
      rw [← eLf] at hr1
      exact (List.mem_filter.mp hr1).1
    have ndf : (Lf.map (·.2)).Nodup := by
      rw [← eLf]
      exact edg.2.1.sublist (List.filter_sublist.map _)
    have lenf : Lf.length ≤ L.length := by
      rw [← eLf]
      exact List.length_filter_le _ _
    rw [eLf] at nD
    clear eLf
    refine ⟨big3, fun p6 hp6 => ⟨big1, fun p7 hp7 => ⟨big3, fun p8 hp8 => ?_⟩⟩⟩
    have s6 := same_new (o := .tup [.int 5, .int 5, .int 1]) hp6
    have s7 := same_new (o := .lst [.ref p6]) hp7
    have s8 := same_new (o := .tup [.int 5, .int 5, .int 1]) hp8
    have s58 := s6.trans (s7.trans s8)
    have e8 : Row (upd (upd (upd H5 p6 (.tup [.int 5, .int 5, .int 1])) p7 (.lst [.ref p6])) p8 (.tup [.int 5, .int 5, .int 1])) p8 [5, 5, 1] := upd_same
    have e6 : Row (upd (upd (upd H5 p6 (.tup [.int 5, .int 5, .int 1])) p7 (.lst [.ref p6])) p8 (.tup [.int 5, .int 5, .int 1])) p6 [5, 5, 1] := s8 _ _ (s7 _ _ upd_same)
    have e7 : (upd (upd (upd H5 p6 (.tup [.int 5, .int 5, .int 1])) p7 (.lst [.ref p6])) p8 (.tup [.int 5, .int 5, .int 1])) p7 = some (.lst [.ref p6]) := s8 _ _ upd_same
    generalize upd (upd (upd H5 p6 (.tup [.int 5, .int 5, .int 1])) p7 (.lst [.ref p6])) p8 (.tup [.int 5, .int 5, .int 1]) = H8 at s58 e8 e6 e7 ⊢
    clear s6 s7 s8 hp6 hp7 hp8
    have nr8 := (nr4.same sm).same s58
    refine ⟨_, rfl, _, _, dp_row e8, dp_new nr8, shaped_row _, shaped_rows _, ?_⟩
    have any5 : ((L.map (·.2)).map rowD).any (fun z => PyData.eqv z (rowD [5, 5, 1])) = decide ([5, 5, 1] ∈ L.map (·.2)) := by
      rw [Bool.eq_iff_iff, decide_eq_true_eq, List.any_eq_true]
      constructor
      · rintro ⟨z, hz, e⟩
        obtain ⟨k, hk, rfl⟩ := List.mem_map.mp hz
        rw [row_eqv] at e
        rw [← of_decide_eq_true e]
        exact hk
      · intro hk
        exact ⟨_, List.mem_map.mpr ⟨_, hk, rfl⟩, by rw [row_eqv]; exact decide_eq_true rfl⟩
    rw [any5]
    obtain ⟨Lx, n, hn, hfl, hx1, hx2⟩ : ∃ (Lx : List (Addr × List Int)) (n : Int), (if (!decide ([5, 5, 1] ∈ L.map (·.2))) = true then (1 : Int) else 0) = n ∧ ((n = 0 ∧ (List.replicate n.toNat [V.ref p6]).flatten = Lx.map fun q => V.ref q.1) ∨ (n = 1 ∧ (List.replicate n.toNat [V.ref p6]).flatten = Lx.map fun q => V.ref q.1)) ∧ (∀ r ∈ Lx, r = (p6, [5, 5, 1]) ∧ [5, 5, 1] ∉ L.map (·.2)) ∧ Lx.length ≤ 1 := by
      by_cases c : [5, 5, 1] ∈ L.map (·.2)
      · exact ⟨[], 0, by rw [decide_eq_true c]; rfl, .inl ⟨rfl, rfl⟩, (fun _ z => nomatch z), by decide⟩
      · exact ⟨[(p6, [5, 5, 1])], 1, by rw [decide_eq_false c]; rfl, .inr ⟨rfl, rfl⟩, fun r hr1 => ⟨List.mem_singleton.mp hr1, c⟩, Nat.le_refl _⟩
    refine .inr ⟨_, rfl, ?_⟩
    rw [hn]
    refine ⟨p7, n, _, rfl, rfl, e7, by omega, by omega, ?_, fun p9 hp9 => ?_⟩
    · rcases hfl with ⟨rfl, _⟩ | ⟨rfl, _⟩
      · show 1 * 0 ≤ sizeLine
        decide
      · show 1 * 1 ≤ sizeLine
        decide
    have hfl2 : (List.replicate n.toNat [V.ref p6]).flatten = Lx.map fun q => V.ref q.1 := hfl.elim (fun z => z.2) fun z => z.2
    rw [hfl2]
    have s9 := same_new (o := .lst (Lx.map fun q => V.ref q.1)) hp9
    have nD8 := nD.same s58
    refine ⟨D1, p9, _, _, rfl, rfl, s9 _ _ nD8.1, upd_same, ?_, fun pc hpc => ?_⟩
    · rw [List.length_map, List.length_map]
      exact Nat.le_of_lt (size_lt (m := 400) (by omega) (by decide))
    rw [← List.map_append]
    have s10 := same_new (o := .lst ((Lf ++ Lx).map fun q => V.ref q.1)) hpc
    have nrc : NewRws (upd (upd H8 p9 (.lst (Lx.map fun q => V.ref q.1))) pc (.lst ((Lf ++ Lx).map fun q => V.ref q.1))) pc (Lf ++ Lx) := ⟨upd_same, fun r hr1 => s10 _ _ (s9 _ _ ((List.mem_append.mp hr1).elim (fun z => nD8.2 r z) fun z => by rw [(hx1 r z).1]; exact e6))⟩
    have edc : Edges (Lf ++ Lx) := by
      refine ⟨fun r hr1 => (List.mem_append.mp hr1).elim (fun z => edg.1 r (subf r z)) fun z => by rw [(hx1 r z).1]; exact ⟨5, 5, 1, rfl, .inr rfl⟩, ?_, ?_⟩
      · rw [List.map_append]
        refine List.nodup_append.mpr ⟨ndf, ?_, fun k hk l hl e => ?_⟩
        · cases Lx with
          | nil => exact List.nodup_nil
          | cons r Lx =>
            cases Lx with
            | nil => exact List.pairwise_singleton _ _
            | cons r2 Lx => rw [List.length_cons, List.length_cons] at hx2; omega
        · obtain ⟨u, hu, rfl⟩ := List.mem_map.mp hk
          obtain ⟨v, hv, rfl⟩ := List.mem_map.mp hl
          have z := hx1 v hv
          rw [z.1] at e
          have e : u.2 = [5, 5, 1] := e
          refine z.2 ?_
          rw [← e]
          exact List.mem_map.mpr ⟨u, subf u hu, rfl⟩
      · rw [List.length_append]
        omega
    have s4c := sm.trans (s58.trans (s9.trans s10))
    generalize upd (upd H8 p9 (.lst (Lx.map fun q => V.ref q.1))) pc (.lst ((Lf ++ Lx).map fun q => V.ref q.1)) = H10 at nrc s4c ⊢
    generalize Lf ++ Lx = Lc at nrc edc ⊢
    have pic10 := pic4.same s4c
    have pico10 := pico4.same s4c
    have picl10 := picl.same s4c
    have nr10 := nr4.same s4c
    have s010 := s04.trans s4c
    clear s4c s9 s10 hp9 hpc nD8 nD e6 e7 e8 nr8 any5 hfl hfl2 hx1 hx2 hn s58 sm subf ndf lenf hD1 pic4 pico4 picl nr4 s04
    -- the other is equal
    refine ⟨_, rfl, _, rfl, eqO_pic T pic10 pico10 ⟨_, rfl, ?_⟩⟩
    rw [eo, decide_eq_true rfl]
    refine iteF ⟨_, rfl, _, rfl, neO_pic T pic10 pico10 ⟨_, rfl, ?_⟩⟩
    rw [eo, decide_eq_true rfl]
    refine iteF ?_
    -- the less is not
    refine ⟨_, rfl, big0, fun pz hpz => ?_⟩
    have sz := same_new (o := .lst []) hpz
    refine ⟨_, .list [], dp_new (nr10.same sz), .lst (lstL upd_same) .nil, shaped_rows _, rfl, _, rfl, ?_⟩
    rw [eqv_empty]
    have pic11 := pic10.same sz
    have picl11 := picl10.same sz
    have nr11 := nr10.same sz
    have nrc11 := nrc.same sz
    have s011 := s010.trans sz
    generalize upd H10 pz (.lst []) = H11 at sz pic11 picl11 nr11 nrc11 s011 ⊢
    refine and_go (fun H' => H' = H11) rfl (fun hb go => ?_) fun H12 e12 => ?_
    · have h0 : L ≠ [] := fun z => by
        rw [z] at hb
        cases hb
      refine ⟨_, rfl, _, rfl, eqO_pic T pic11 picl11 ⟨_, rfl, ?_⟩⟩
      rw [decide_eq_false (nl h0)]
      refine iteF ⟨_, rfl, _, rfl, neO_pic T pic11 picl11 ⟨_, rfl, ?_⟩⟩
      rw [decide_eq_false (nl h0)]
      exact iteF (go _ rfl)
    subst e12
    clear picl11 picl10 nl pico10 eo
    -- the changed
    refine ⟨_, rfl, _, rfl, fun cp d0 fa d1 _ => make_q (K := K) nrc11.rws edc fa d1 fun H13 Lcp s13 picc permc => ⟨rfl, eqO_pic T (pic11.same s13) picc ?_⟩⟩
    refine ⟨_, rfl, e, L, 3, rfl, (nr11.same s13).rws.1, by decide, rowsAt (nr11.same s13) edg, fun S1 q1 pm1 srt1 hq1 => ?_⟩
    obtain ⟨s14, nS1, pS1, aS1⟩ := srtF (nr11.same s13) edg pm1 srt1 hq1
    generalize upd H13 q1 (.lst (S1.map fun q => V.ref q.1)) = H14 at s14 nS1 ⊢
    refine ⟨_, rfl, pc, Lc, 3, rfl, ((nrc11.same s13).same s14).rws.1, by decide, rowsAt ((nrc11.same s13).same s14) edc, fun S2 q2 pm2 srt2 hq2 => ?_⟩
    obtain ⟨s15, nS2, pS2, aS2⟩ := srtF ((nrc11.same s13).same s14) edc pm2 srt2 hq2
    generalize upd H14 q2 (.lst (S2.map fun q => V.ref q.1)) = H15 at s15 nS2 ⊢
    refine ⟨_, _, dp_new (nS1.same s15), dp_new nS2, shaped_rows _, shaped_rows _, ?_⟩
    rw [rowsD_dec, show S1.map (·.2) = La.map (·.2) from asc_perm aS1 pic11.asc (pS1.trans perm.symm), show S2.map (·.2) = Lcp.map (·.2) from asc_perm aS2 picc.asc (pS2.trans permc.symm)]
    refine ⟨rfl, _, rfl, ?_⟩
    rw [bl_ne]
    refine iteF ?_
    have s1115 := s13.trans (s14.trans s15)
    have picA := pic11.same s1115
    have nrA := nr11.same s1115
    have s0A := s011.trans s1115
    clear s1115 s15 s14 nS1 nS2 pS1 pS2 aS1 aS2 picc permc d1 fa s13 nrc11 nrc edc pic10 nr10 s010 sz hpz
    -- at
    refine ⟨_, rfl, e, _, rfl, .inl (lstL nrA.1), ?_⟩
    rw [List.length_map]
    refine ⟨_, _, rfl, rfl, ⟨by decide, by decide⟩, ?_⟩
    show Ends.nx _ [some (.ref a), some (.ref e), some (.ref ot), some (.ref le), some (.ref pc), some (.int ((L.length : Int) / 3)), none, none, none, none, none, none] _
    -- lists
    refine ⟨_, rfl, e, rfl, ⟨_, lstL nrA.1⟩, fun E1 hE1 => lc_rows (K := K) (i := 9) (j := 10) (k := 11) fX nrA.rws edg.1 (by omega) hE1 (fun x y z => rfl) (fun x y s H' Q q => ⟨_, rfl, _, _, rfl, rfl, _, rfl, _, rfl, big3, fun p hp => q p _ (same_new hp) upd_same⟩) fun M1 G1 g1 m1 f1 => ?_⟩
    have o1 : OneL G1 (E1, M1) := .of m1 f1 (fun _ => fX_edge) edg.1 (by omega)
    have nrB := nrA.same g1
    refine ⟨_, rfl, e, rfl, ⟨_, lstL nrB.1⟩, fun E2 hE2 => lc_rows (K := K) (i := 9) (j := 10) (k := 11) fY3 nrB.rws edg.1 (by omega) hE2 (fun x y z => rfl) (fun x y s H' Q q => ⟨_, rfl, _, rfl, _, _, rfl, rfl, _, rfl, big3, fun p hp => q p _ (same_new hp) upd_same⟩) fun M2 G2 g2 m2 f2 => ?_⟩
    have o2 : OneL G2 (E2, M2) := .of m2 f2 (fun _ => fY3_edge) edg.1 (by omega)
    refine ⟨big2, fun l1 hl1 => ?_⟩
    have sl1 := same_new (o := .lst [.ref E1, .ref E2]) hl1
    have el1 : upd G2 l1 (.lst [.ref E1, .ref E2]) l1 = some (.lst [.ref E1, .ref E2]) := upd_same
    have p1 := (o1.same g2).same sl1
    have p2 := o2.same sl1
    have t1 := g1.trans (g2.trans sl1)
    generalize upd G2 l1 (.lst [.ref E1, .ref E2]) = G3 at sl1 el1 p1 p2 t1 ⊢
    have nrC := nrA.same t1
    have picC := picA.same t1
    have s0C := s0A.trans t1
    clear t1 sl1 hl1 o1 o2 g1 g2 m1 m2 f1 f2 nrB hE1 hE2 nrA picA s0A
    -- one replaced
    refine ⟨_, rfl, _, rfl, _, rfl, ((L.length : Int) / 3), rfl, e, _, rfl, lstL nrC.1, fun pA hpA => ?_⟩
    rw [cutR_map]
    have sA := same_new (o := .lst ((cutR L none (some ((L.length : Int) / 3))).map fun q => V.ref q.1)) hpA
    have nA : NewRws (upd G3 pA (.lst ((cutR L none (some ((L.length : Int) / 3))).map fun q => V.ref q.1))) pA (cutR L none (some ((L.length : Int) / 3))) := ⟨upd_same, fun r hr1 => sA _ _ (nrC.2 r (cutR_sub r hr1))⟩
    generalize upd G3 pA (.lst ((cutR L none (some ((L.length : Int) / 3))).map fun q => V.ref q.1)) = G4 at sA nA ⊢
    have nrD := nrC.same sA
    refine ⟨_, rfl, _, rfl, ((L.length : Int) / 3), rfl, _, rfl, _, _, rfl, rfl, ((L.length : Int) / 3) + 1, rfl, e, _, rfl, lstL nrD.1, fun pB hpB => ?_⟩
    rw [cutR_map]
    have sB := same_new (o := .lst ((cutR L (some ((L.length : Int) / 3)) (some (((L.length : Int) / 3) + 1))).map fun q => V.ref q.1)) hpB
    have nB : NewRws (upd G4 pB (.lst ((cutR L (some ((L.length : Int) / 3)) (some (((L.length : Int) / 3) + 1))).map fun q => V.ref q.1))) pB (cutR L (some ((L.length : Int) / 3)) (some (((L.length : Int) / 3) + 1))) := ⟨upd_same, fun r hr1 => sB _ _ (nrD.2 r (cutR_sub r hr1))⟩
    generalize upd G4 pB (.lst ((cutR L (some ((L.length : Int) / 3)) (some (((L.length : Int) / 3) + 1))).map fun q => V.ref q.1)) = G5 at sB nB ⊢
    have lenB : (cutR L (some ((L.length : Int) / 3)) (some (((L.length : Int) / 3) + 1))).length ≤ 399 := Nat.le_trans cutR_len lL
    have edB : ∀ r ∈ cutR L (some ((L.length : Int) / 3)) (some (((L.length : Int) / 3) + 1)), EdgeR r.2 := fun r hr1 => edg.1 r (cutR_sub r hr1)
    refine ⟨pB, rfl, ⟨_, lstL nB.1⟩, fun E3 hE3 => lc_rows (K := K) (i := 9) (j := 10) (k := 11) fX nB.rws edB (by omega) hE3 (fun x y z => rfl) (fun x y s H' Q q => ⟨_, rfl, _, _, rfl, rfl, _, rfl, _, rfl, big3, fun p hp => q p _ (same_new hp) upd_same⟩) fun M3 G6 g6 m3 f3 => ?_⟩
    have o3 : OneL G6 (E3, M3) := .of m3 f3 (fun _ => fX_edge) edB (by omega)
    have l3 : M3.length ≤ 399 := by
      have z := congrArg List.length f3
      rw [List.length_map, List.length_map, List.length_map] at z
      omega
    have nA6 := (nA.same sB).same g6
    have lenA : (cutR L none (some ((L.length : Int) / 3))).length ≤ 399 := Nat.le_trans cutR_len lL
    refine ⟨pA, E3, _, _, rfl, rfl, nA6.1, m3.1, ?_, fun pAB hpAB => ?_⟩
    · rw [List.length_map, List.length_map]
      exact Nat.le_of_lt (size_lt (m := 1000) (by omega) (by decide))
    rw [← List.map_append]
    have sAB := same_new (o := .lst ((cutR L none (some ((L.length : Int) / 3)) ++ M3).map fun q => V.ref q.1)) hpAB
    have nAB : NewRws (upd G6 pAB (.lst ((cutR L none (some ((L.length : Int) / 3)) ++ M3).map fun q => V.ref q.1))) pAB (cutR L none (some ((L.length : Int) / 3)) ++ M3) := ⟨upd_same, fun r hr1 => sAB _ _ ((List.mem_append.mp hr1).elim (fun z => nA6.2 r z) fun z => m3.2 r z)⟩
    generalize upd G6 pAB (.lst ((cutR L none (some ((L.length : Int) / 3)) ++ M3).map fun q => V.ref q.1)) = G7 at sAB nAB ⊢
    have nrE := ((nrD.same sB).same g6).same sAB
    refine ⟨_, rfl, _, rfl, _, _, rfl, rfl, ((L.length : Int) / 3) + 1, rfl, e, _, rfl, lstL nrE.1, fun pC hpC => ?_⟩
    rw [cutR_map]
    have sC := same_new (o := .lst ((cutR L (some (((L.length : Int) / 3) + 1)) none).map fun q => V.ref q.1)) hpC
    have lenC : (cutR L (some (((L.length : Int) / 3) + 1)) none).length ≤ 399 := Nat.le_trans cutR_len lL
    have nC : NewRws (upd G7 pC (.lst ((cutR L (some (((L.length : Int) / 3) + 1)) none).map fun q => V.ref q.1))) pC (cutR L (some (((L.length : Int) / 3) + 1)) none) := ⟨upd_same, fun r hr1 => sC _ _ (nrE.2 r (cutR_sub r hr1))⟩
    generalize upd G7 pC (.lst ((cutR L (some (((L.length : Int) / 3) + 1)) none).map fun q => V.ref q.1)) = G8 at sC nC ⊢
    have nAB8 := nAB.same sC
    have lenAB : (cutR L none (some ((L.length : Int) / 3)) ++ M3).length ≤ 798 := by
      rw [List.length_append]
      omega
    refine ⟨pAB, pC, _, _, rfl, rfl, nAB8.1, nC.1, ?_, fun pD hpD => ?_⟩
    · rw [List.length_map, List.length_map]
      exact Nat.le_of_lt (size_lt (m := 1300) (by omega) (by decide))
    rw [← List.map_append]
    have sD := same_new (o := .lst (((cutR L none (some ((L.length : Int) / 3)) ++ M3) ++ cutR L (some ((L.length : Int) / 3 + 1)) none).map fun q => V.ref q.1)) hpD
    have oD : OneL (upd G8 pD (.lst (((cutR L none (some ((L.length : Int) / 3)) ++ M3) ++ cutR L (some ((L.length : Int) / 3 + 1)) none).map fun q => V.ref q.1))) (pD, (cutR L none (some ((L.length : Int) / 3)) ++ M3) ++ cutR L (some ((L.length : Int) / 3 + 1)) none) := by
      refine ⟨⟨upd_same, fun r hr1 => ?_⟩, fun r hr1 => ?_, ?_⟩
      · exact sD _ _ ((List.mem_append.mp hr1).elim (fun z => nAB8.2 r z) fun z => nC.2 r z)
      · rcases List.mem_append.mp hr1 with z | z
        · rcases List.mem_append.mp z with z | z
          · exact edg.1 r (cutR_sub r z)
          · exact o3.ed r z
        · exact edg.1 r (cutR_sub r z)
      · show ((cutR L none (some ((L.length : Int) / 3)) ++ M3) ++ cutR L (some ((L.length : Int) / 3 + 1)) none).length ≤ 1000
        rw [List.length_append]
        have z : (cutR L (some ((L.length : Int) / 3 + 1)) none).length ≤ L.length - 1 ∨ L.length = 0 ∨ True := .inr (.inr trivial)
        have z2 : (cutR L none (some ((L.length : Int) / 3))).length ≤ 133 := by
          unfold cutR
          rw [List.length_take]
          have e1 : HT.sIx L.length L.length (some (((L.length / 3 : Nat) : Int))) = min (L.length / 3) L.length := HT.sIx_nat L.length L.length (L.length / 3)
          have e2 : ((L.length / 3 : Nat) : Int) = (L.length : Int) / 3 := by omega
          rw [e2] at e1
          omega
        rw [List.length_append]
        omega
    generalize upd G8 pD (.lst (((cutR L none (some ((L.length : Int) / 3)) ++ M3) ++ cutR L (some ((L.length : Int) / 3 + 1)) none).map fun q => V.ref q.1)) = G9 at sD oD ⊢
    have s39 : Same G3 G9 := sA.trans (sB.trans (g6.trans (sAB.trans (sC.trans sD))))
    have q1 := p1.same s39
    have q2 := p2.same s39
    have el1' := s39 _ _ el1
    have nrF := nrC.same s39
    have picF := picC.same s39
    have s0F := s0C.trans s39
    clear s39 sA sB sC sD g6 sAB nA nA6 nB nAB nAB8 nC nrC nrD nrE picC s0C o3 m3 f3 lenA lenB lenC lenAB l3 edB hpA hpB hpC hpD hpAB hE3 p1 p2 el1
    refine ⟨big1, fun l2 hl2 => ?_⟩
    have sl2 := same_new (o := .lst [.ref pD]) hl2
    refine ⟨l1, l2, _, _, rfl, rfl, sl2 _ _ el1', upd_same, by show 2 + 1 ≤ sizeLine; decide, fun l3 hl3 => ?_⟩
    have sl3 := same_new (o := .lst ([.ref E1, .ref E2] ++ [.ref pD])) hl3
    have el3 : upd (upd G9 l2 (.lst [.ref pD])) l3 (.lst ([.ref E1, .ref E2] ++ [.ref pD])) l3 = some (.lst [.ref E1, .ref E2, .ref pD]) := upd_same
    have t2 := sl2.trans sl3
    generalize upd (upd G9 l2 (.lst [.ref pD])) l3 (.lst ([.ref E1, .ref E2] ++ [.ref pD])) = K1 at t2 el3 ⊢
    have r1 := q1.same t2
    have r2 := q2.same t2
    have r3 := oD.same t2
    have nrG := nrF.same t2
    have picG := picF.same t2
    have s0G := s0F.trans t2
    clear t2 sl2 sl3 hl2 hl3 q1 q2 oD el1' nrF picF s0F
    show Ends.nx _ [some (.ref a), some (.ref e), some (.ref ot), some (.ref le), some (.ref pc), some (.int ((L.length : Int) / 3)), some (.ref l3), none, none, none, none, none] _
    -- the last moved, the first replaced
    refine ⟨_, rfl, _, rfl, _, rfl, _, rfl, e, _, rfl, lstL nrG.1, fun pA hpA => ?_⟩
    rw [cutR_map]
    have sA := same_new (o := .lst ((cutR L none (some (-1))).map fun q => V.ref q.1)) hpA
    have nA : NewRws (upd K1 pA (.lst ((cutR L none (some (-1))).map fun q => V.ref q.1))) pA (cutR L none (some (-1))) := ⟨upd_same, fun r hr1 => sA _ _ (nrG.2 r (cutR_sub r hr1))⟩
    generalize upd K1 pA (.lst ((cutR L none (some (-1))).map fun q => V.ref q.1)) = K2 at sA nA ⊢
    have nrH := nrG.same sA
    refine ⟨_, rfl, _, rfl, _, rfl, e, _, rfl, lstL nrH.1, fun pB hpB => ?_⟩
    rw [cutR_map]
    have sB := same_new (o := .lst ((cutR L (some (-1)) none).map fun q => V.ref q.1)) hpB
    have nB : NewRws (upd K2 pB (.lst ((cutR L (some (-1)) none).map fun q => V.ref q.1))) pB (cutR L (some (-1)) none) := ⟨upd_same, fun r hr1 => sB _ _ (nrH.2 r (cutR_sub r hr1))⟩
    generalize upd K2 pB (.lst ((cutR L (some (-1)) none).map fun q => V.ref q.1)) = K3 at sB nB ⊢
    have lenB : (cutR L (some (-1)) none).length ≤ 399 := Nat.le_trans cutR_len lL
    have edB : ∀ r ∈ cutR L (some (-1)) none, EdgeR r.2 := fun r hr1 => edg.1 r (cutR_sub r hr1)
    refine ⟨pB, rfl, ⟨_, lstL nB.1⟩, fun E4 hE4 => lc_rows (K := K) (i := 9) (j := 10) (k := 11) fY1 nB.rws edB (by omega) hE4 (fun x y z => rfl) (fun x y s H' Q q => ⟨_, rfl, _, rfl, _, _, rfl, rfl, _, rfl, big3, fun p hp => q p _ (same_new hp) upd_same⟩) fun M4 K4 g4 m4 f4 => ?_⟩
    have o4 : OneL K4 (E4, M4) := .of m4 f4 (fun _ => fY1_edge) edB (by omega)
    have l4 : M4.length ≤ 399 := by
      have z := congrArg List.length f4
      rw [List.length_map, List.length_map, List.length_map] at z
      omega
    have nA4 := (nA.same sB).same g4
    have lenA : (cutR L none (some (-1))).length ≤ 399 := Nat.le_trans cutR_len lL
    refine ⟨pA, E4, _, _, rfl, rfl, nA4.1, m4.1, ?_, fun pE hpE => ?_⟩
    · rw [List.length_map, List.length_map]
      exact Nat.le_of_lt (size_lt (m := 1000) (by omega) (by decide))
    rw [← List.map_append]
    have sE := same_new (o := .lst ((cutR L none (some (-1)) ++ M4).map fun q => V.ref q.1)) hpE
    have oE : OneL (upd K4 pE (.lst ((cutR L none (some (-1)) ++ M4).map fun q => V.ref q.1))) (pE, cutR L none (some (-1)) ++ M4) := by
      refine ⟨⟨upd_same, fun r hr1 => sE _ _ ((List.mem_append.mp hr1).elim (fun z => nA4.2 r z) fun z => m4.2 r z)⟩, fun r hr1 => (List.mem_append.mp hr1).elim (fun z => edg.1 r (cutR_sub r z)) fun z => o4.ed r z, ?_⟩
      show (cutR L none (some (-1)) ++ M4).length ≤ 1000
      rw [List.length_append]
      omega
    generalize upd K4 pE (.lst ((cutR L none (some (-1)) ++ M4).map fun q => V.ref q.1)) = K5 at sE oE ⊢
    have s15 : Same K1 K5 := sA.trans (sB.trans (g4.trans sE))
    have nrI := nrG.same s15
    refine ⟨_, rfl, 1, rfl, e, _, rfl, lstL nrI.1, fun pF hpF => ?_⟩
    rw [cutR_map]
    have sF := same_new (o := .lst ((cutR L (some 1) none).map fun q => V.ref q.1)) hpF
    refine ⟨big3, fun p7 hp7 => ⟨big1, fun pG hpG => ?_⟩⟩
    have s7 := same_new (o := .tup [.int 7, .int 8, .int 1]) hp7
    have sG := same_new (o := .lst [.ref p7]) hpG
    refine ⟨pF, pG, _, _, rfl, rfl, sG _ _ (s7 _ _ upd_same), upd_same, ?_, fun pH hpH => ?_⟩
    · rw [List.length_map]
      have z := cutR_len (L := L) (lo := some 1) (hi := none)
      exact Nat.le_of_lt (size_lt (m := 1000) (show (cutR L (some 1) none).length + 1 ≤ 1000 by omega) (by decide))
    have ap : ((cutR L (some 1) none).map fun q : Addr × List Int => V.ref q.1) ++ [V.ref p7] = (cutR L (some 1) none ++ [(p7, [7, 8, 1])]).map fun q : Addr × List Int => V.ref q.1 := by
      rw [List.map_append]
      rfl
    rw [ap]
    have sH := same_new (o := .lst ((cutR L (some 1) none ++ [(p7, [7, 8, 1])]).map fun q : Addr × List Int => V.ref q.1)) hpH
    have oH : OneL (upd (upd (upd (upd K5 pF (.lst ((cutR L (some 1) none).map fun q => V.ref q.1))) p7 (.tup [.int 7, .int 8, .int 1])) pG (.lst [.ref p7])) pH (.lst ((cutR L (some 1) none ++ [(p7, [7, 8, 1])]).map fun q : Addr × List Int => V.ref q.1))) (pH, cutR L (some 1) none ++ [(p7, [7, 8, 1])]) := by
      refine ⟨⟨upd_same, fun r hr1 => ?_⟩, fun r hr1 => (List.mem_append.mp hr1).elim (fun z => edg.1 r (cutR_sub r z)) fun z => by rw [List.mem_singleton.mp z]; exact ⟨7, 8, 1, rfl, .inr rfl⟩, ?_⟩
      · rcases List.mem_append.mp hr1 with z | z
        · exact sH _ _ (sG _ _ (s7 _ _ (sF _ _ (nrI.2 r (cutR_sub r z)))))
        · rw [List.mem_singleton.mp z]
          exact sH _ _ (sG _ _ upd_same)
      · show (cutR L (some 1) none ++ [(p7, [7, 8, 1])]).length ≤ 1000
        rw [List.length_append]
        have z := cutR_len (L := L) (lo := some 1) (hi := none)
        show (cutR L (some 1) none).length + 1 ≤ 1000
        omega
    have s56 := sF.trans (s7.trans (sG.trans sH))
    generalize upd (upd (upd (upd K5 pF (.lst ((cutR L (some 1) none).map fun q => V.ref q.1))) p7 (.tup [.int 7, .int 8, .int 1])) pG (.lst [.ref p7])) pH (.lst ((cutR L (some 1) none ++ [(p7, [7, 8, 1])]).map fun q : Addr × List Int => V.ref q.1)) = K6 at s56 oH ⊢
    have s16 := s15.trans s56
    have oE6 := oE.same s56
    have el4 := s16 _ _ el3
    refine ⟨big2, fun l4 hl4 => ?_⟩
    have sl4 := same_new (o := .lst [.ref pE, .ref pH]) hl4
    refine ⟨l3, l4, _, _, rfl, rfl, sl4 _ _ el4, upd_same, by show 3 + 2 ≤ sizeLine; decide, fun l5 hl5 => ?_⟩
    have sl5 := same_new (o := .lst ([.ref E1, .ref E2, .ref pD] ++ [.ref pE, .ref pH])) hl5
    have el5 : upd (upd K6 l4 (.lst [.ref pE, .ref pH])) l5 (.lst ([.ref E1, .ref E2, .ref pD] ++ [.ref pE, .ref pH])) l5 = some (.lst [.ref E1, .ref E2, .ref pD, .ref pE, .ref pH]) := upd_same
    have t3 := s16.trans (sl4.trans sl5)
    have t4 := sl4.trans sl5
    generalize upd (upd K6 l4 (.lst [.ref pE, .ref pH])) l5 (.lst ([.ref E1, .ref E2, .ref pD] ++ [.ref pE, .ref pH])) = K7 at t3 t4 el5 ⊢
    have u1 := r1.same t3
    have u2 := r2.same t3
    have u3 := r3.same t3
    have u4 := oE6.same t4
    have u5 := oH.same t4
    have nrJ := nrG.same t3
    have picJ := picG.same t3
    have s0J := s0G.trans t3
    obtain ⟨Os, eOs, hOs, nOs⟩ : ∃ Os : List (Addr × List (Addr × List Int)), [V.ref E1, V.ref E2, V.ref pD, V.ref pE, V.ref pH] = Os.map (fun o => V.ref o.1) ∧ (∀ o ∈ Os, OneL K7 o) ∧ Os.length = 5 := by
      refine ⟨[(E1, M1), (E2, M2), (pD, (cutR L none (some ((L.length : Int) / 3)) ++ M3) ++ cutR L (some ((L.length : Int) / 3 + 1)) none), (pE, cutR L none (some (-1)) ++ M4), (pH, cutR L (some 1) none ++ [(p7, [7, 8, 1])])], rfl, fun o ho => ?_, rfl⟩
      simp only [List.mem_cons, List.not_mem_nil, or_false] at ho
      rcases ho with rfl | rfl | rfl | rfl | rfl
      · exact u1
      · exact u2
      · exact u3
      · exact u4
      · exact u5
    rw [eOs] at el5
    clear eOs u1 u2 u3 u4 u5 t3 t4 sl4 sl5 hl4 hl5 el4 oE6 s16 oH s56 sH sG s7 sF hpH hpG hp7 hpF nrI s15 oE sE hpE lenA nA4 l4 o4 f4 m4 g4 edB lenB nB sB hpB nA sA hpA nrH nrG picG s0G r1 r2 r3 el3 hE4 ap
    show Ends.nx _ [some (.ref a), some (.ref e), some (.ref ot), some (.ref le), some (.ref pc), some (.int ((L.length : Int) / 3)), some (.ref l5), none, none, none, none, none] _
    refine ⟨_, rfl, l5, rfl, ⟨_, lstL el5⟩, fun D5 hD5 => ?_⟩
    refine lc_it (walk_list (K := K) (a := l5) (xs := Os.map fun o => V.ref o.1)) (fun i H' => Same K7 H' ∧ ∃ Of : List (Addr × List (Addr × List Int)), H' D5 = some (.lst (Of.map fun o => V.ref o.1)) ∧ Of.length ≤ i ∧ ∀ o ∈ Of, o ∈ Os ∧ (o.2.map (·.2)).Nodup)
      ⟨same_new hD5, [], upd_same, Nat.zero_le _, fun _ z => nomatch z⟩ (fun i H' hi p => lstL (p.1 _ _ el5)) (fun i x H5 H6 hi p y => ?_) fun K8 p => ?_
    · obtain ⟨sm, Of, eD, lf, hf⟩ := p
      obtain ⟨rfl, hx⟩ := y
      rw [List.getElem?_map] at hx
      obtain ⟨o, ho, rfl⟩ := Option.map_eq_some_iff.mp hx
      have mo := List.mem_of_getElem? ho
      have oo := (hOs o mo).same sm
      have i5 : i < Os.length := (List.getElem?_eq_some_iff.mp ho).1
      refine ⟨rfl, _, rfl, o.1, o.2, rfl, lstL oo.nr.1, fun r hr1 => tupT (oo.nr.2 r hr1), Nat.le_trans oo.le (by decide), fun sa S hsa in1 in2 ndS => ?_⟩
      have ss := same_new (o := SetW P w sa S) hsa
      refine ⟨sa, S, rfl, upd_same, _, rfl, o.1, _, rfl, .inl (lstL (ss _ _ oo.nr.1)), rfl, _, rfl, ?_⟩
      by_cases c : S.length = o.2.length
      · refine ite_t (by rw [List.length_map, c]; exact decide_eq_true rfl) ?_
        have nd2 : (o.2.map (·.2)).Nodup := nodup_of ndS (fun k hk => by
          obtain ⟨r, hr1, rfl⟩ := List.mem_map.mp hk
          exact in2 r hr1) (fun k hk => by
          obtain ⟨r, hr1, rfl⟩ := List.mem_map.mp hk
          exact List.mem_map.mpr ⟨r, in1 r hr1, rfl⟩) (by rw [List.length_map, List.length_map, c])
        refine ⟨_, rfl, _, ss _ _ eD, ?_, fun b o' hb => ?_, Of ++ [o], ?_, ?_, fun o' ho' => ?_⟩
        · rw [List.length_map]
          exact size_lt (m := 10) (by omega) (by decide)
        · rw [upd_ne (ne_of_none hb hD5)]
          exact ss _ _ (sm _ _ hb)
        · rw [upd_same, List.map_append]
          rfl
        · rw [List.length_append]
          show Of.length + 1 ≤ i + 1
          omega
        · rcases List.mem_append.mp ho' with z | z
          · exact hf o' z
          · rw [List.mem_singleton.mp z]
            exact ⟨mo, nd2⟩
      · exact ite_f (by rw [List.length_map]; exact decide_eq_false fun z => c (by injection z with z; omega)) ⟨sm.trans ss, Of, ss _ _ eD, by omega, hf⟩
    obtain ⟨sm, Of, eD, lf, hf⟩ := p
    have nrK := nrJ.same sm
    have picK := picJ.same sm
    have s0K := s0J.trans sm
    have ones : ∀ o ∈ Of, OneL K8 o ∧ Edges o.2 := fun o ho => by
      have z := (hOs o (hf o ho).1).same sm
      exact ⟨z, z.ed, (hf o ho).2, Nat.le_trans z.le (by decide)⟩
    clear sm hf lf nrJ picJ s0J hOs el5 nOs hD5
    refine ⟨D5, rfl, ⟨_, lstL eD⟩, for_list (xs := Of.map fun o => V.ref o.1) (fun i σ H' => ∃ z7, Same K8 H' ∧ σ = [some (.ref a), some (.ref e), some (.ref ot), some (.ref le), some (.ref pc), some (.int ((L.length : Int) / 3)), some (.ref l5), z7, none, none, none, none])
      ⟨none, fun _ _ h => h, rfl⟩ (fun i σ H' hi hp => ?_) (fun i x σ H9 hx hp => ?_) fun σ H9 hp => ?_⟩
    · obtain ⟨_, sm, _⟩ := hp
      exact lstL (sm _ _ eD)
    · obtain ⟨z7, sm, rfl⟩ := hp
      rw [List.getElem?_map] at hx
      obtain ⟨o, ho, rfl⟩ := Option.map_eq_some_iff.mp hx
      obtain ⟨oo, edO⟩ := ones o (List.mem_of_getElem? ho)
      have n0 := oo.nr.same sm
      have pic0 := picK.same sm
      have nr0 := nrK.same sm
      refine ⟨_, rfl, _, rfl, fun cp d0 fa d1 _ => make_q (K := K) n0.rws edO fa d1 fun H13 Lcp s13 picc permc => ⟨rfl, eqO_pic T (pic0.same s13) picc ?_⟩⟩
      refine ⟨_, rfl, o.1, o.2, 3, rfl, (n0.same s13).rws.1, by decide, rowsAt (n0.same s13) edO, fun S1 q1 pm1 srt1 hq1 => ?_⟩
      obtain ⟨s14, nS1, pS1, aS1⟩ := srtF (n0.same s13) edO pm1 srt1 hq1
      generalize upd H13 q1 (.lst (S1.map fun q => V.ref q.1)) = H14 at s14 nS1 ⊢
      refine ⟨_, rfl, e, L, 3, rfl, ((nr0.same s13).same s14).rws.1, by decide, rowsAt ((nr0.same s13).same s14) edg, fun S2 q2 pm2 srt2 hq2 => ?_⟩
      obtain ⟨s15, nS2, pS2, aS2⟩ := srtF ((nr0.same s13).same s14) edg pm2 srt2 hq2
      generalize upd H14 q2 (.lst (S2.map fun q => V.ref q.1)) = H15 at s15 nS2 ⊢
      refine ⟨_, _, dp_new (nS1.same s15), dp_new nS2, shaped_rows _, shaped_rows _, ?_⟩
      have c1 : S1.map (·.2) = Lcp.map (·.2) := asc_perm aS1 picc.asc (pS1.trans permc.symm)
      have c2 : S2.map (·.2) = La.map (·.2) := asc_perm aS2 pic0.asc (pS2.trans perm.symm)
      have flip : decide (Lcp.map (·.2) = La.map (·.2)) = decide (La.map (·.2) = Lcp.map (·.2)) := decide_eq_decide.mpr eq_comm
      rw [rowsD_dec, c1, c2, flip]
      refine ⟨rfl, _, rfl, ?_⟩
      rw [bl_ne]
      refine iteF ?_
      have s35 := s13.trans (s14.trans s15)
      have n1 := n0.same s35
      have pic1 := pic0.same s35
      have nr1 := nr0.same s35
      refine ⟨_, rfl, fun cp2 d2 fa2 d3 _ => make_q (K := K) n1.rws edO fa2 d3 fun H16 Lcq s16 picq permq => ⟨rfl, _, rfl, neO_pic T picq (pic1.same s16) ?_⟩⟩
      refine ⟨_, rfl, o.1, o.2, 3, rfl, (n1.same s16).rws.1, by decide, rowsAt (n1.same s16) edO, fun S3 q3 pm3 srt3 hq3 => ?_⟩
      obtain ⟨s17, nS3, pS3, aS3⟩ := srtF (n1.same s16) edO pm3 srt3 hq3
      generalize upd H16 q3 (.lst (S3.map fun q => V.ref q.1)) = H17 at s17 nS3 ⊢
      refine ⟨_, rfl, e, L, 3, rfl, ((nr1.same s16).same s17).rws.1, by decide, rowsAt ((nr1.same s16).same s17) edg, fun S4 q4 pm4 srt4 hq4 => ?_⟩
      obtain ⟨s18, nS4, pS4, aS4⟩ := srtF ((nr1.same s16).same s17) edg pm4 srt4 hq4
      generalize upd H17 q4 (.lst (S4.map fun q => V.ref q.1)) = H18 at s18 nS4 ⊢
      refine ⟨_, _, dp_new (nS3.same s18), dp_new nS4, shaped_rows _, shaped_rows _, ?_⟩
      have c3 : S3.map (·.2) = Lcq.map (·.2) := asc_perm aS3 picq.asc (pS3.trans permq.symm)
      have c4 : S4.map (·.2) = La.map (·.2) := asc_perm aS4 pic0.asc (pS4.trans perm.symm)
      rw [rowsD_dec, c3, c4]
      refine ⟨rfl, _, rfl, ?_⟩
      rw [bl_ne]
      exact iteF ⟨_, sm.trans (s35.trans (s16.trans (s17.trans s18))), rfl⟩
    obtain ⟨z7, sm, rfl⟩ := hp
    have nrL := nrK.same sm
    have picL := picK.same sm
    have s0L := s0K.trans sm
    clear sm nrK picK s0K ones eD
    -- values of other kinds
    refine ⟨_, rfl, _, rfl, e, _, rfl, .inl ⟨lstL nrL.1, fun tz htz => fun dz hdz => ⟨by show 6 ≤ sizeLine; decide, fun lz hlz => ?_⟩⟩⟩
    have sz1 := same_new (o := .tup (L.map fun q => V.ref q.1)) htz
    have sz2 := same_new (o := .dT []) hdz
    have sz3 := same_new (o := .lst [.non, .int 0, .ref e, .ref tz, .ref dz, .str ""]) hlz
    have szz := sz1.trans (sz2.trans sz3)
    have typs : ∀ v ∈ [V.non, V.int 0, V.ref e, V.ref tz, V.ref dz, V.str ""], ∃ t, Typ (upd (upd (upd H9 tz (.tup (L.map fun q => V.ref q.1))) dz (.dT [])) lz (.lst [.non, .int 0, .ref e, .ref tz, .ref dz, .str ""])) v t := fun v hv => by
      simp only [List.mem_cons, List.not_mem_nil, or_false] at hv
      rcases hv with rfl | rfl | rfl | rfl | rfl | rfl
      · exact ⟨_, .non⟩
      · exact ⟨_, .int _⟩
      · exact ⟨_, .lst (szz _ _ nrL.1)⟩
      · exact ⟨_, .tup (sz3 _ _ (sz2 _ _ upd_same))⟩
      · exact ⟨_, .dT (sz3 _ _ upd_same)⟩
      · exact ⟨_, .str _⟩
    have elz : (upd (upd (upd H9 tz (.tup (L.map fun q => V.ref q.1))) dz (.dT [])) lz (.lst [.non, .int 0, .ref e, .ref tz, .ref dz, .str ""])) lz = some (.lst [.non, .int 0, .ref e, .ref tz, .ref dz, .str ""]) := upd_same
    generalize upd (upd (upd H9 tz (.tup (L.map fun q => V.ref q.1))) dz (.dT [])) lz (.lst [.non, .int 0, .ref e, .ref tz, .ref dz, .str ""]) = H20 at szz typs elz ⊢
    have picM := picL.same szz
    refine ⟨lz, rfl, ⟨_, lstL elz⟩, fun D6 hD6 => ?_⟩
    refine lc_it (walk_list (K := K) (a := lz) (xs := [V.non, V.int 0, V.ref e, V.ref tz, V.ref dz, V.str ""])) (fun i H' => Same H20 H' ∧ H' D6 = some (.lst [])) ⟨same_new hD6, upd_same⟩ (fun i H' hi p => lstL (p.1 _ _ elz)) (fun i x H5 H6 hi p y => ?_) fun H21 p => ?_
    · obtain ⟨sm, eD⟩ := p
      obtain ⟨rfl, hx⟩ := y
      obtain ⟨t, ht⟩ := typs x (List.mem_of_getElem? hx)
      exact ⟨rfl, _, rfl, _, rfl, eqO_typ T (picM.same sm) (ht.same sm) ⟨_, rfl, iteF ⟨_, rfl, _, rfl, neO_typ T (picM.same sm) (ht.same sm) ⟨_, rfl, iteF ⟨sm, eD⟩⟩⟩⟩⟩
    obtain ⟨sm, eD⟩ := p
    refine ⟨big0, fun pe hpe => ?_⟩
    have se := same_new (o := .lst []) hpe
    exact ⟨.list [], .list [], .lst (lstL (se _ _ eD)) .nil, .lst (lstL upd_same) .nil, rfl, rfl, q _ (s0L.trans (szz.trans (sm.trans se)))⟩
end
end K45

set_option Elab.async false
set_option linter.all false
set_option maxRecDepth 100000
set_option maxHeartbeats 8000000
set_option exponentiation.threshold 600
namespace K45
open PySem PySem.Spec PyProof.Rows L2 RT TT PC
abbrev NRi : List Str := N_law_right ++ [("x" : Str), ("y" : Str), ("side" : Str)]
theorem scRi : FnScope NRi ["fount", "edges"] (defScope s_law_right) := ⟨rfl, rfl, rfl, by decide +kernel, rfl, by decide +kernel, by decide +kernel⟩
theorem same_int {H : Hp} {n : Nat} {i : Int} : SameV H n (.int i) (.int i) := sameV_iff.mpr (.inl (.inl ⟨i, rfl, rfl⟩))
theorem same_row {H : Hp} {n : Nat} {a b : Addr} {k : List Int} (ha : Row H a k) (hb : Row H b k) (hk : k.length ≤ 1000) : SameV H (n + 1) (.ref a) (.ref b) := .inr ⟨a, b, _, _, rfl, rfl, rfl, by rw [List.length_map]; exact hk, .inr ⟨ha, hb⟩, fun j x y h1 h2 => by
  rw [h1] at h2
  cases h2
  rw [List.getElem?_map] at h1
  obtain ⟨i, _, rfl⟩ := Option.map_eq_some_iff.mp h1
  exact same_int⟩
theorem same_rows {H : Hp} {n : Nat} {a b : Addr} {A B : List (Addr × List Int)} (ha : H a = some (.tup (A.map fun q => V.ref q.1))) (hb : H b = some (.tup (B.map fun q => V.ref q.1))) (rA : ∀ q ∈ A, Row H q.1 q.2) (rB : ∀ q ∈ B, Row H q.1 q.2) (e : A.map (·.2) = B.map (·.2)) (len : A.length ≤ 1000) (w3 : ∀ q ∈ A, q.2.length ≤ 1000) : SameV H (n + 2) (.ref a) (.ref b) := by
  have hl : A.length = B.length := by
    have z := congrArg List.length e
    rwa [List.length_map, List.length_map] at z
  refine .inr ⟨a, b, _, _, rfl, rfl, by rw [List.length_map, List.length_map, hl], by rw [List.length_map]; exact len, .inr ⟨ha, hb⟩, fun j x y h1 h2 => ?_⟩
  rw [List.getElem?_map] at h1 h2
  obtain ⟨p, hp, rfl⟩ := Option.map_eq_some_iff.mp h1
  obtain ⟨q, hq, rfl⟩ := Option.map_eq_some_iff.mp h2
  have ek : p.2 = q.2 := by
    have z : (A.map (·.2))[j]? = (B.map (·.2))[j]? := by rw [e]
    rw [List.getElem?_map, List.getElem?_map, hp, hq] at z
    exact Option.some.inj z
  have r1 := rA p (List.mem_of_getElem? hp)
  have r2 := rB q (List.mem_of_getElem? hq)
  rw [← ek] at r2
  exact same_row r1 r2 (w3 p (List.mem_of_getElem? hp))
section
variable {P : Program} {w : World} {K : PySem.W.Frag} {mg : Str → Option Value} {base : Heap}
def spRight : Sp := fun vs H Q _ => ∃ (f : V) (e : Addr) (L : List (Addr × List Int)), vs = [f, .ref e] ∧ NewRws H e L ∧ Edges L ∧ L.length ≤ 399 ∧ ∀ H', Keep e H H' → Q (.bl true) H'
theorem ok_right (D : Ds K) (T : Tx K mg) : FnOk P w K mg base CX0 10 (d_law_right.adr K) D.fd__law_right ["fount", "edges"] spRight := by
  have GI : FnOk P w K mg base CX0 5 _ _ _ (spInit K) := ok_init D T
  have GE : FnOk P w K mg base CX0 1 _ _ _ (spEq K) := ok_eq D T
  have GP : FnOk P w K mg base CX0 1 _ _ _ (spEdges K) := ok_edges D T
  have GL : FnOk P w K mg base CX0 1 _ _ _ (spLen K) := ok_len D T
  have GC : FnOk P w K mg base CX0 4 _ _ _ (spCon K) := ok_con D T
  have GS : FnOk P w K mg base CX0 5 _ _ _ (spSame 3) := ok_same D T 3
  have GLe : FnOk P w K mg base CX0 1 _ _ _ spLEdge := ok_ledge D T
  have GIe : FnOk P w K mg base CX0 3 _ _ _ spIsEdge := ok_isedge D T
  have GVs : FnOk P w K mg base CX0 1 _ _ _ (spVals K) := ok_vals D T
  have GOt : FnOk P w K mg base CX0 8 _ _ _ (spOthers K) := ok_others D T
  refine D.F__law_right.ok scRi (fun vs H Q E h => ?_) (fun cdv A outer s H vs Q E hr h => ?_)
  · obtain ⟨f, e, L, rfl, _⟩ := h
    rfl
  · obtain ⟨f, e, L, rfl, nr, edg, lL, q⟩ := h
    have nd := scRi.nd
    refine ⟨_, PSs.nox (pss_cons (ps_par (i := 2) (j := 3) (by rfl) nd rfl rfl (by decide) rfl rfl (pa_cons (pe_callTy call_list_of (by rfl) T.z_list (by decide +kernel) (pa_cons (pv 1) pa_nil)) (pa_cons (pe_make T.k_Picture GI (hr.mono (by decide)) (by rfl) T.g_Picture (b_Picture_init D) .nil pass0 (pa_cons (pv 1) pa_nil)) pa_nil)) (by rfl))
      (pss_cons (ps_if (pt_not (pt_val (pe_call GS (hr.mono (by decide)) (by rfl) T.g__law_same D.F__law_same.kp (b__law_same D) .nil pass0 (pa_cons (pe_lst (pa_cons (pe_prop (pv 3) T.c_Picture T.p_Picture_edges GP (hr.mono (by decide)) (b_Picture_edges D) .nil pass0 rfl) (pa_cons (pe_callB (call_lenO T.m_Picture_len GL (hr.mono (by decide)) (b_Picture_len D) pass0) (by rfl) T.z_len PySem.boot_len (pa_cons (pv 3) pa_nil)) pa_nil))) (pa_cons (pe_lst (pa_cons (pe_callTy call_tuple_of (by rfl) T.z_tuple (by decide +kernel) (pa_cons (pe_callB cr_sortR (by rfl) T.z_sorted (by decide +kernel) (pa_cons (pv 1) pa_nil)) pa_nil)) (pa_cons (pe_callB call_len_seq (by rfl) T.z_len PySem.boot_len (pa_cons (pv 1) pa_nil)) pa_nil))) pa_nil))))) (pss_one (ps_ret pe_bl)) pss_nil)
      (pss_cons (ps_if (pt_cmpR (op_neD hr.units) (pv 1) (pv 2) (nomark _)) (pss_one (ps_ret pe_bl)) pss_nil)
      (pss_cons (ps_for PassesOwn.never rfl (pi_list (pe_op op_cat (pe_call GVs (hr.mono (by decide)) (by rfl) T.g__law_values D.F__law_values.kp (b__law_values D) .nil pass0 (pa_cons (pv 1) pa_nil)) (pe_lc (own := [(("x" : Str), 5), (("y" : Str), 6), (("side" : Str), 7)]) (g := gTup K 3 (gCons (gName 5) (gCons (gName 6) (gCons (gName 7) gNil)))) (tt := tYes) (te := tTup (tCons (tOp (rI0 fun i j => .int (i + j)) (tVar 5) (tC (.int 1))) (tCons (tVar 6) (tCons (tVar 7) tNil)))) rfl nd (pi_list (pe_slice sl_list (pv 1) po_none (po_some pe_int))) (blkOk_by (own := [(("x" : Str), 5), (("y" : Str), 6), (("side" : Str), 7)]) (N := NRi) (sc := defScope s_law_right) (by decide +kernel)) (fun _ _ _ _ _ => pg_tup rfl (pgs_cons (pg_name (i := 5) nd rfl (Or.inl rfl)) (pgs_cons (pg_name (i := 6) nd rfl (Or.inl rfl)) (pgs_cons (pg_name (i := 7) nd rfl (Or.inl rfl)) pgs_nil)))) (fun _ _ _ _ _ => pts_nil) (fun _ _ _ _ _ => (pe_tup (pa_cons (pe_op op_add (pv 5) pe_int) (pa_cons (pv 6) (pa_cons (pv 7) pa_nil)))))))) (pg_name (i := 4) nd rfl (.inl rfl)) (pss_cons (ps_if (pt_cmpR op_ne (pe_cmpR (op_inO T.m_Picture_contains GC (hr.mono (by decide)) (b_Picture_contains D) pass0) (pv 4) (pv 3) rfl) (pe_and (pe_call GLe (hr.mono (by decide)) (by rfl) T.g__law_is_edge D.F__law_is_edge.kp (b__law_is_edge D) .nil pass0 (pa_cons (pv 4) pa_nil)) (pe_one (pe_cmpR (op_inD (hu65 hr)) (pv 4) (pv 1) rfl))) (nomark _)) (pss_one (ps_ret pe_bl)) pss_nil)
      (pss_one (ps_if (pt_cmpR op_ne (pe_callB call_reprB (by rfl) T.z_repr (by decide +kernel) (pa_cons (pe_call GIe (hr.mono (by decide)) (by rfl) T.g_is_edge D.F_is_edge.kp (b_is_edge D) .nil pass0 (pa_cons (pv 4) pa_nil)) pa_nil)) (pe_callB call_reprB (by rfl) T.z_repr (by decide +kernel) (pa_cons (pe_call GLe (hr.mono (by decide)) (by rfl) T.g__law_is_edge D.F__law_is_edge.kp (b__law_is_edge D) .nil pass0 (pa_cons (pv 4) pa_nil)) pa_nil)) (nomark _)) (pss_one (ps_ret pe_bl)) pss_nil))))
      (pss_cons (ps_if (pt_not (pt_val (pe_call GOt (hr.mono (by decide)) (by rfl) T.g__law_others_right D.F__law_others_right.kp (b__law_others_right D) .nil pass0 (pa_cons (pv 3) (pa_cons (pv 1) pa_nil))))) (pss_one (ps_ret pe_bl)) pss_nil)
      (pss_cons (ps_expr (pe_bm PySem.F.plainAttrs_list PySem.F.slot_list_append PySem.F.type_list_append mt_append (pv 1) (pa_cons (pe_tup (pa_cons pe_int (pa_cons pe_int (pa_cons pe_int pa_nil)))) pa_nil)))
      (pss_cons (ps_expr (pe_bm0 PySem.F.plainAttrs_list PySem.F.slot_list_reverse PySem.F.type_list_reverse mt_reverse (pv 1)))
      (pss_one (ps_ret (pe_and (pe_cmpR (op_eqD hr.units) (pe_prop (pv 3) T.c_Picture T.p_Picture_edges GP (hr.mono (by decide)) (b_Picture_edges D) .nil pass0 rfl) (pe_callTy call_tuple_of (by rfl) T.z_tuple (by decide +kernel) (pa_cons (pe_callB cr_sortR (by rfl) T.z_sorted (by decide +kernel) (pa_cons (pv 2) pa_nil)) pa_nil)) (nomark _)) (pe_one (pe_cmpR op_eq (pe_callB (call_lenO T.m_Picture_len GL (hr.mono (by decide)) (b_Picture_len D) pass0) (by rfl) T.z_len PySem.boot_len (pa_cons (pv 3) pa_nil)) (pe_callB call_len_seq (by rfl) T.z_len PySem.boot_len (pa_cons (pv 2) pa_nil)) (nomark _))))))))))))), ?_⟩
    -- kept, picture_here
    refine ⟨_, rfl, e, _, rfl, .inl (lstL nr.1), fun kp hkp => ?_⟩
    have s1 := same_new (o := .lst (L.map fun q => V.ref q.1)) hkp
    have nk : NewRws (upd H kp (.lst (L.map fun q => V.ref q.1))) kp L := ⟨upd_same, fun r hr1 => s1 _ _ (nr.2 r hr1)⟩
    generalize upd H kp (.lst (L.map fun q => V.ref q.1)) = H1 at s1 nk ⊢
    have kpe : kp ≠ e := fun z => by
      rw [z, nr.1] at hkp
      cases hkp
    have nr1 := nr.same s1
    refine ⟨_, rfl, fun a d0 fa d1 _ => make_q (K := K) nr1.rws edg fa d1 fun H2 La s2 pic perm => ⟨rfl, _, _, rfl, ?_⟩⟩
    show Ends.nx _ [some f, some (.ref e), some (.ref kp), some (.ref a), none, none, none, none] _
    have nr2 := nr1.same s2
    have nk2 := nk.same s2
    have s02 := s1.trans s2
    clear d1 fa s2 nr1 nk s1
    have lLa : La.length = L.length := by
      have z := perm.length_eq
      rwa [List.length_map, List.length_map] at z
    -- edges, len
    obtain ⟨dp, tp0, hp0, Mp, pe1, pe2, pe3, _⟩ := id pic
    refine ⟨_, rfl, a, dp, _, rfl, pe1, a, La, rfl, pic, fun tp etp => ?_⟩
    refine ⟨_, rfl, a, dp, _, rfl, pe1, a, La, rfl, pic, _, rfl, by omega, by omega, big2, fun p3 hp3 => ?_⟩
    have s3 := same_new (o := .lst [.ref tp, .int (La.length : Nat)]) hp3
    have e3 : upd H2 p3 (.lst [.ref tp, .int (La.length : Nat)]) p3 = some (.lst [.ref tp, .int (La.length : Nat)]) := upd_same
    generalize upd H2 p3 (.lst [.ref tp, .int (La.length : Nat)]) = H3 at s3 e3 ⊢
    refine ⟨_, rfl, e, L, 3, rfl, (nr2.same s3).rws.1, by decide, rowsAt (nr2.same s3) edg, fun S1 q1 pm1 srt1 hq1 => ?_⟩
    obtain ⟨s4, nS1, pS1, aS1⟩ := srtF (nr2.same s3) edg pm1 srt1 hq1
    generalize upd H3 q1 (.lst (S1.map fun q => V.ref q.1)) = H4 at s4 nS1 ⊢
    refine ⟨q1, _, rfl, .inl ⟨lstL nS1.1, fun t5 ht5 => ?_⟩⟩
    have s5 := same_new (o := .tup (S1.map fun q => V.ref q.1)) ht5
    have et5 : upd H4 t5 (.tup (S1.map fun q => V.ref q.1)) t5 = some (.tup (S1.map fun q => V.ref q.1)) := upd_same
    generalize upd H4 t5 (.tup (S1.map fun q => V.ref q.1)) = H5 at s5 et5 ⊢
    have s25 := s3.trans (s4.trans s5)
    refine ⟨_, rfl, e, _, rfl, .inl (lstL (s25 _ _ nr2.1)), ?_⟩
    rw [List.length_map]
    refine ⟨big2, fun p6 hp6 => ?_⟩
    have s6 := same_new (o := .lst [.ref t5, .int (L.length : Nat)]) hp6
    have e6 : upd H5 p6 (.lst [.ref t5, .int (L.length : Nat)]) p6 = some (.lst [.ref t5, .int (L.length : Nat)]) := upd_same
    generalize upd H5 p6 (.lst [.ref t5, .int (L.length : Nat)]) = H6 at s6 e6 ⊢
    have s26 := s25.trans s6
    have cS : La.map (·.2) = S1.map (·.2) := asc_perm pic.asc aS1 (perm.trans pS1.symm)
    have same1 : SameV H6 3 (.ref p3) (.ref p6) := by
      refine .inr ⟨p3, p6, [.ref tp, .int (La.length : Nat)], [.ref t5, .int (L.length : Nat)], rfl, rfl, rfl, by show 2 ≤ 1000; decide, .inl ⟨(s4.trans (s5.trans s6)) _ _ e3, e6⟩, fun j x y h1 h2 => ?_⟩
      have hj : j < 2 := (List.getElem?_eq_some_iff.mp h1).1
      rcases (by omega : j = 0 ∨ j = 1) with rfl | rfl
      · obtain rfl : V.ref tp = x := Option.some.inj h1
        obtain rfl : V.ref t5 = y := Option.some.inj h2
        exact same_rows (n := 0) (s26 _ _ etp) (s6 _ _ et5) (fun r hr1 => s26 _ _ (pe3 r hr1)) (fun r hr1 => (s5.trans s6) _ _ (nS1.2 r hr1)) cS (by omega) fun r hr1 => by
          have z : r.2 ∈ L.map (·.2) := perm.mem_iff.mp (List.mem_map.mpr ⟨r, hr1, rfl⟩)
          obtain ⟨u, hu, e⟩ := List.mem_map.mp z
          rw [← e, (edg.1 u hu).len]
          decide
      · obtain rfl : V.int (La.length : Nat) = x := Option.some.inj h1
        obtain rfl : V.int (L.length : Nat) = y := Option.some.inj h2
        rw [lLa]
        exact same_int
    refine ⟨_, _, rfl, same1, fun H7 s7 => ⟨true, rfl, iteF ?_⟩⟩
    have s27 := s26.trans s7
    have nr7 := nr2.same s27
    have nk7 := nk2.same s27
    have pic7 := pic.same s27
    have s07 := s02.trans s27
    clear s27 s7 same1 cS s26 e6 s6 hp6 s25 et5 s5 ht5 s4 nS1 pS1 aS1 hq1 e3 s3 hp3 etp pe1 pe2 pe3 nr2 nk2 pic s02
    -- edges as they were
    refine ⟨_, rfl, _, rfl, _, _, dp_new nr7, dp_new nk7, shaped_rows _, shaped_rows _, ?_⟩
    rw [eqv_rows]
    refine ⟨_, rfl, iteF ?_⟩
    -- values
    refine ⟨_, rfl, e, L, rfl, nr7.rws, edg.1, fun pv1 us H8 s8 epv items lus => ?_⟩
    have nr8 := nr7.same s8
    refine ⟨_, rfl, 9, rfl, e, _, rfl, lstL nr8.1, fun p9 hp9 => ?_⟩
    rw [cutR_map]
    have s9 := same_new (o := .lst ((cutR L none (some 9)).map fun q => V.ref q.1)) hp9
    have n9 : NewRws (upd H8 p9 (.lst ((cutR L none (some 9)).map fun q => V.ref q.1))) p9 (cutR L none (some 9)) := ⟨upd_same, fun r hr1 => s9 _ _ (nr8.2 r (cutR_sub r hr1))⟩
    generalize upd H8 p9 (.lst ((cutR L none (some 9)).map fun q => V.ref q.1)) = H9 at s9 n9 ⊢
    have l9 : (cutR L none (some 9)).length ≤ 399 := Nat.le_trans cutR_len lL
    have ed9 : ∀ r ∈ cutR L none (some 9), EdgeR r.2 := fun r hr1 => edg.1 r (cutR_sub r hr1)
    refine ⟨p9, rfl, ⟨_, lstL n9.1⟩, fun E1 hE1 => lc_rows (K := K) (i := 5) (j := 6) (k := 7) fX n9.rws ed9 (by omega) hE1 (fun x y z => rfl) (fun x y s H' Q q => ⟨_, rfl, _, _, rfl, rfl, _, rfl, _, rfl, big3, fun p hp => q p _ (same_new hp) upd_same⟩) fun M1 H10 s10 m1 f1 => ?_⟩
    have o1 : OneL H10 (E1, M1) := .of m1 f1 (fun _ => fX_edge) ed9 (by omega)
    have s810 := s9.trans s10
    refine ⟨pv1, E1, _, _, rfl, rfl, s810 _ _ epv, m1.1, ?_, fun pl hpl => ?_⟩
    · rw [List.length_map]
      have z := o1.le
      have z : M1.length ≤ 1000 := z
      exact Nat.le_of_lt (size_lt (m := 3000) (by omega) (by decide))
    have s11 := same_new (o := .lst (us ++ M1.map fun q => V.ref q.1)) hpl
    have epl : upd H10 pl (.lst (us ++ M1.map fun q => V.ref q.1)) pl = some (.lst (us ++ M1.map fun q => V.ref q.1)) := upd_same
    have its : Items (upd H10 pl (.lst (us ++ M1.map fun q => V.ref q.1))) (us ++ M1.map fun q => V.ref q.1) := Items.app ((items.same s810).same s11) (items_rows (fun r hr1 => s11 _ _ (m1.2 r hr1)) o1.ed)
    generalize upd H10 pl (.lst (us ++ M1.map fun q => V.ref q.1)) = H11 at s11 epl its ⊢
    generalize us ++ M1.map (fun q => V.ref q.1) = ws at epl its ⊢
    have s711 := s8.trans (s810.trans s11)
    have nr11 := nr7.same s711
    have nk11 := nk7.same s711
    have pic11 := pic7.same s711
    have s011 := s07.trans s711
    clear s711 s11 hpl s810 o1 m1 f1 s10 hE1 ed9 l9 n9 s9 hp9 nr8 items epv s8 nr7 nk7 pic7 s07
    refine ⟨pl, rfl, ⟨_, lstL epl⟩, for_list (xs := ws) (fun i σ H' => ∃ z4, Same H11 H' ∧ σ = [some f, some (.ref e), some (.ref kp), some (.ref a), z4, none, none, none])
      ⟨none, fun _ _ h => h, rfl⟩ (fun i σ H' hi hp => ?_) (fun i x σ H12 hx hp => ?_) fun σ H12 hp => ?_⟩
    · obtain ⟨_, sm, _⟩ := hp
      exact lstL (sm _ _ epl)
    · obtain ⟨z4, sm, rfl⟩ := hp
      obtain ⟨o, it⟩ := its x (List.mem_of_getElem? hx)
      have it0 := it.same sm
      have pic0 := pic11.same sm
      have nr0 := nr11.same sm
      obtain ⟨dq, _, _, _, pe1, _⟩ := id pic0
      refine ⟨_, rfl, _, rfl, a, dq, _, rfl, pe1, a, x, La, o, rfl, pic0, it0, fun H13 s13 => ⟨_, rfl, ?_⟩⟩
      refine ⟨_, rfl, x, o, rfl, it0.same s13, fun H14 s14 => ⟨_, rfl, ?_⟩⟩
      cases o with
      | none =>
        refine iteF ?_
        refine ⟨rfl, _, rfl, ?_⟩
        refine ite_f (bl_ne false) ?_
        have s24 := s13.trans s14
        refine ⟨_, rfl, x, none, rfl, it0.same s24, fun H15 s15 => ⟨_, rfl, ?_⟩⟩
        refine ⟨_, rfl, x, none, rfl, (it0.same s24).same s15, fun H16 s16 => ⟨_, rfl, rfl, _, rfl, ?_⟩⟩
        refine ite_f (str_ne _) ⟨_, sm.trans (s24.trans (s15.trans s16)), rfl⟩
      | some k =>
        refine iteT ?_
        cases it0 with
        | @edge b _ hb he =>
          have s24 := s13.trans s14
          have any5 : ((L.map (·.2)).map rowD).any (fun z => PyData.eqv z (rowD k)) = decide (k ∈ La.map (·.2)) := by
            rw [Bool.eq_iff_iff, decide_eq_true_eq, perm.mem_iff, List.any_eq_true]
            constructor
            · rintro ⟨z, hz, e⟩
              obtain ⟨k', hk, rfl⟩ := List.mem_map.mp hz
              rw [row_eqv] at e
              rw [← of_decide_eq_true e]
              exact hk
            · intro hk
              exact ⟨_, List.mem_map.mpr ⟨_, hk, rfl⟩, by rw [row_eqv]; exact decide_eq_true rfl⟩
          refine ⟨_, rfl, _, rfl, _, _, dp_row (s24 _ _ hb), dp_new (nr0.same s24), shaped_row _, shaped_rows _, ?_⟩
          rw [any5]
          refine ⟨rfl, _, rfl, ?_⟩
          refine ite_f (bl_ne _) ?_
          refine ⟨_, rfl, _, some k, rfl, (Item.edge hb he).same s24, fun H15 s15 => ⟨_, rfl, ?_⟩⟩
          refine ⟨_, rfl, _, some k, rfl, ((Item.edge hb he).same s24).same s15, fun H16 s16 => ⟨_, rfl, rfl, _, rfl, ?_⟩⟩
          refine ite_f (str_ne _) ⟨_, sm.trans (s24.trans (s15.trans s16)), rfl⟩
    obtain ⟨z4, sm, rfl⟩ := hp
    have nr12 := nr11.same sm
    have nk12 := nk11.same sm
    have pic12 := pic11.same sm
    have s012 := s011.trans sm
    clear sm nr11 nk11 pic11 s011 its epl
    refine ⟨_, rfl, _, rfl, a, e, La, L, rfl, pic12, perm, nr12, edg, lL, fun H13 s13 => ⟨true, rfl, iteF ?_⟩⟩
    have nr13 := nr12.same s13
    have nk13 := nk12.same s13
    have pic13 := pic12.same s13
    have s013 := s012.trans s13
    clear s13 nr12 nk12 pic12 s012
    -- edges changed
    refine ⟨_, rfl, .inl ⟨rfl, _, lstL nr13.1⟩, big3, fun p7 hp7 => ?_⟩
    have s14 := same_new (o := .tup [.int 7, .int 7, .int 7]) hp7
    have e14 := s14 _ _ nr13.1
    refine ⟨e, _, _, rfl, rfl, e14, ?_, ?_⟩
    · rw [List.length_map]
      exact size_lt (m := 399) (by omega) (by decide)
    have ke : ∀ {b : Addr} {u : HO} {o1 o2 : HO}, b ≠ e → upd H13 p7 (.tup [.int 7, .int 7, .int 7]) b = some u → upd (upd (upd H13 p7 (.tup [.int 7, .int 7, .int 7])) e o1) e o2 b = some u := fun {b u o1 o2} hb h => by
      rw [upd_ne hb, upd_ne hb]
      exact h
    refine ⟨_, rfl, .inl ⟨rfl, _, lstL upd_same⟩, e, _, rfl, rfl, upd_same, ?_⟩
    have tne : ∀ {b : Addr} {k : List Int}, Row (upd H13 p7 (.tup [.int 7, .int 7, .int 7])) b k → b ≠ e := fun {b k} h z => by
      have h' : upd H13 p7 (.tup [.int 7, .int 7, .int 7]) b = some (.tup (k.map V.int)) := h
      rw [z, e14] at h'
      cases h'
    have pic14 := pic13.same s14
    have nk14 := nk13.same s14
    generalize upd H13 p7 (.tup [.int 7, .int 7, .int 7]) = H14 at s14 e14 ke tne pic14 nk14 ⊢
    have kE : ∀ {o1 o2 : HO}, Keep e H (upd (upd H14 e o1) e o2) := fun {o1 o2} b u hb h => ke hb (s14 _ _ (s013 _ _ h))
    have pic15 : ∀ {o1 o2 : HO}, IsPic K (upd (upd H14 e o1) e o2) a La := fun {o1 o2} => by
      obtain ⟨d, t, h, M, h1, h2, h3, h4, h5, h6, h7⟩ := id pic14
      exact ⟨d, t, h, M, ke (fun z => by rw [z, e14] at h1; cases h1) h1, ke (fun z => by rw [z, e14] at h2; cases h2) h2, fun r hr1 => ke (tne (h3 r hr1)) (h3 r hr1), h4, h5, ke (fun z => by rw [z, e14] at h6; cases h6) h6, h7⟩
    have nk15 : ∀ {o1 o2 : HO}, NewRws (upd (upd H14 e o1) e o2) kp L := fun {o1 o2} => ⟨ke kpe nk14.1, fun r hr1 => ke (tne (nk14.2 r hr1)) (nk14.2 r hr1)⟩
    obtain ⟨dq, tq, hq, Mq, pe1, pe2, pe3, _⟩ := id pic14
    have a_e : a ≠ e := fun z => by rw [z, e14] at pe1; cases pe1
    have t_e : tq ≠ e := fun z => by rw [z, e14] at pe2; cases pe2
    refine ⟨_, rfl, a, dq, _, rfl, ke a_e pe1, a, La, rfl, pic15, fun tp etp => ?_⟩
    refine ⟨_, rfl, kp, L, 3, rfl, nk15.rws.1, by decide, rowsAt nk15 edg, fun S1 q1 pm1 srt1 hq1 => ?_⟩
    obtain ⟨s16, nS1, pS1, aS1⟩ := srtF nk15 edg pm1 srt1 hq1
    refine ⟨q1, _, rfl, .inl ⟨lstL nS1.1, fun t5 ht5 => ?_⟩⟩
    have s17 := same_new (o := .tup (S1.map fun q => V.ref q.1)) ht5
    have s57 := s16.trans s17
    refine ⟨_, _, dp_tups (s57 _ _ etp) (fun r hr1 => s57 _ _ (ke (tne (pe3 r hr1)) (pe3 r hr1))), dp_tups upd_same (fun r hr1 => s17 _ _ (nS1.2 r hr1)), shaped_tups _, shaped_tups _, ?_⟩
    rw [tups_dec, show La.map (·.2) = S1.map (·.2) from asc_perm pic14.asc aS1 (perm.trans pS1.symm), decide_eq_true rfl]
    refine ⟨true, rfl, iteT ?_⟩
    refine ⟨_, rfl, a, dq, _, rfl, s57 _ _ (ke a_e pe1), a, La, rfl, pic15.same s57, _, rfl, by omega, by omega, _, rfl, kp, _, rfl, .inl (lstL (s57 _ _ nk15.1)), rfl, ?_⟩
    rw [List.length_map, lLa, decide_eq_true rfl]
    exact q _ fun b u hb h => s57 _ _ (kE b u hb h)
end
end K45

set_option Elab.async false
set_option linter.all false
set_option maxRecDepth 100000
set_option maxHeartbeats 8000000
set_option exponentiation.threshold 600
namespace K45
open PySem PySem.Spec PyProof.Rows L2 RT TT PC
theorem btw_child {H : Hp} {v u : V} {o : Option (List Int)} (hv : BtwAt H v o) (hu : BtwAt H u o) (w3 : ∀ k, o = some k → k.length ≤ 1000) : SameV H 1 v u := by
  cases o with
  | none =>
    have hv : v = .non := hv
    have hu : u = .non := hu
    rw [hv, hu]
    exact .inl (.inr ⟨rfl, rfl⟩)
  | some k =>
    obtain ⟨a, rfl, ha⟩ := hv
    obtain ⟨b, rfl, hb⟩ := hu
    exact same_row ha hb (w3 k rfl)
theorem btw_len {x y x' y' : Int} : ∀ k, btw x y x' y' = some k → k.length ≤ 1000 := fun k h => by
  unfold btw at h
  split at h
  · rw [← Option.some.inj h]
    show 3 ≤ 1000
    decide
  · cases h
section
variable {P : Program} {w : World} {K : PySem.W.Frag} {mg : Str → Option Value} {base : Heap}
def spLaw (K : PySem.W.Frag) : Sp := fun vs H Q _ => ∃ (a : Addr) (ns : List Int), vs = [.ref a] ∧ SqL K H a (ns.map V.int) ∧ ∀ H', Q (.bl true) H'
theorem ok_law (D : Ds K) (T : Tx K mg) : FnOk P w K mg base CX0 11 (dlaw.adr K) D.fd_law ["script"] (spLaw K) := by
  have GI : FnOk P w K mg base CX0 5 _ _ _ (spInit K) := ok_init D T
  have GP : FnOk P w K mg base CX0 1 _ _ _ (spEdges K) := ok_edges D T
  have GL : FnOk P w K mg base CX0 1 _ _ _ (spLen K) := ok_len D T
  have GW : FnOk P w K mg base CX0 1 _ _ _ (spWell K) := ok_well D T
  have GD : FnOk P w K mg base CX0 1 _ _ _ spDip := ok_dip D T
  have GN : FnOk P w K mg base CX0 2 _ _ _ spNum := ok_num D T
  have GDr : FnOk P w K mg base CX0 2 _ _ _ spDraw := ok_draw D T
  have GR : FnOk P w K mg base CX0 10 _ _ _ spRight := ok_right D T
  have GS : FnOk P w K mg base CX0 4 _ _ _ (spSame 2) := ok_same D T 2
  have GB : FnOk P w K mg base CX0 4 _ _ _ spBtw := ok_btw D T
  have GLb : FnOk P w K mg base CX0 1 _ _ _ spLBtw := ok_lbtw D T
  refine D.F_law.ok sclaw (fun vs H Q E h => ?_) (fun cdv A outer s H vs Q E hr h => ?_)
  · obtain ⟨a, ns, rfl, _⟩ := h
    rfl
  · obtain ⟨a, ns, rfl, hS, q⟩ := h
    have nd := sclaw.nd
    refine ⟨_, PSs.nox (pss_cons (ps_for PassesOwn.never rfl (pi_range1 (by rfl) T.z_range (pa_cons (pe_callB (call_max2 rfl) (by rfl) T.z_max (by decide +kernel) (pa_cons pe_int (pa_cons (pe_callB (call_min2 rfl) (by rfl) T.z_min (by decide +kernel) (pa_cons pe_int (pa_cons (pe_callB call_len_seq (by rfl) T.z_len PySem.boot_len (pa_cons (pv 0) pa_nil)) pa_nil))) pa_nil))) pa_nil)) (pg_name (i := 1) nd rfl (.inl rfl)) (pss_cons (ps_set (i := 2) nd rfl (.inl rfl) (pe_call GW (hr.mono (by decide)) (by rfl) T.g__law_fount D.F__law_fount.kp (b__law_fount D) .nil pass0 (pa_cons (pv 0) (pa_cons (pv 1) pa_nil))))
      (pss_cons (ps_if (PW.pt (pw_or (pt_not (pt_val (pe_call GR (hr.mono (by decide)) (by rfl) T.g__law_right D.F__law_right.kp (b__law_right D) .nil pass0 (pa_cons (pv 2) (pa_cons (pe_call GDr (hr.mono (by decide)) (by rfl) T.g__law_edges D.F__law_edges.kp (b__law_edges D) .nil pass0 (pa_cons (pv 2) (pa_cons pe_int pa_nil))) pa_nil))))) (pw_or1 (pt_not (pt_val (pe_call GR (hr.mono (by decide)) (by rfl) T.g__law_right D.F__law_right.kp (b__law_right D) .nil pass0 (pa_cons (pv 2) (pa_cons (pe_call GDr (hr.mono (by decide)) (by rfl) T.g__law_edges D.F__law_edges.kp (b__law_edges D) .nil pass0 (pa_cons (pv 2) (pa_cons pe_int pa_nil))) pa_nil)))))))) (pss_one (ps_ret pe_bl)) pss_nil)
      (pss_one (ps_for PassesOwn.never rfl (pi_range1 (by rfl) T.z_range (pa_cons pe_int pa_nil)) (pg_name (i := 3) nd rfl (.inl rfl)) (pss_cons (ps_set (i := 4) nd rfl (.inl rfl) (pe_tup (pa_cons (pe_call GN (hr.mono (by decide)) (by rfl) T.g__law_number D.F__law_number.kp (b__law_number D) .nil pass0 (pa_cons (pv 2) pa_nil)) (pa_cons (pe_call GN (hr.mono (by decide)) (by rfl) T.g__law_number D.F__law_number.kp (b__law_number D) .nil pass0 (pa_cons (pv 2) pa_nil)) pa_nil))))
      (pss_cons (ps_set (i := 5) nd rfl (.inl rfl) (pe_tup (pa_cons (pe_op op_sub (pe_op op_add (pe_ix ix_tup (pv 4) pe_int (fun _ _ => rfl)) (pe_call GD (hr.mono (by decide)) (by rfl) T.g__law_sip D.F__law_sip.kp (b__law_sip D) .nil pass0 (pa_cons (pv 2) (pa_cons pe_int pa_nil)))) pe_int) (pa_cons (pe_op op_sub (pe_op op_add (pe_ix ix_tup (pv 4) pe_int (fun _ _ => rfl)) (pe_call GD (hr.mono (by decide)) (by rfl) T.g__law_sip D.F__law_sip.kp (b__law_sip D) .nil pass0 (pa_cons (pv 2) (pa_cons pe_int pa_nil)))) pe_int) pa_nil))))
      (pss_cons (ps_if (pt_not (pt_val (pe_call GS (hr.mono (by decide)) (by rfl) T.g__law_same D.F__law_same.kp (b__law_same D) .nil pass0 (pa_cons (pe_lst (pa_cons (pe_call GB (hr.mono (by decide)) (by rfl) T.g_edge_between D.F_edge_between.kp (b_edge_between D) .nil pass0 (pa_cons (pv 4) (pa_cons (pv 5) pa_nil))) (pa_cons (pe_call GB (hr.mono (by decide)) (by rfl) T.g_edge_between D.F_edge_between.kp (b_edge_between D) .nil pass0 (pa_cons (pv 5) (pa_cons (pv 4) pa_nil))) pa_nil))) (pa_cons (pe_op op_rep (pe_lst (pa_cons (pe_call GLb (hr.mono (by decide)) (by rfl) T.g__law_between D.F__law_between.kp (b__law_between D) .nil pass0 (pa_cons (pv 4) (pa_cons (pv 5) pa_nil))) pa_nil)) pe_int) pa_nil))))) (pss_one (ps_ret pe_bl)) pss_nil)
      (pss_cons (ps_set (i := 6) nd rfl (.inl rfl) (pe_tup (pa_cons (pe_op op_add (pe_ix ix_tup (pv 4) pe_int (fun _ _ => rfl)) (pe_ix ix_list (pe_lst (pa_cons pe_int (pa_cons pe_int (pa_cons (pe_op op_pow pe_int pe_int) (pa_cons (pe_call GN (hr.mono (by decide)) (by rfl) T.g__law_number D.F__law_number.kp (b__law_number D) .nil pass0 (pa_cons (pv 2) pa_nil)) pa_nil))))) (pe_op op_mod (pv 3) pe_int) (fun _ _ => rfl))) (pa_cons (pe_op op_add (pe_ix ix_tup (pv 4) pe_int (fun _ _ => rfl)) (pe_op op_mul (pe_call GN (hr.mono (by decide)) (by rfl) T.g__law_number D.F__law_number.kp (b__law_number D) .nil pass0 (pa_cons (pv 2) pa_nil)) (pe_op op_mod (pv 3) pe_int))) pa_nil))))
      (pss_one (ps_if (pt_not (pt_val (pe_call GS (hr.mono (by decide)) (by rfl) T.g__law_same D.F__law_same.kp (b__law_same D) .nil pass0 (pa_cons (pe_lst (pa_cons (pe_call GB (hr.mono (by decide)) (by rfl) T.g_edge_between D.F_edge_between.kp (b_edge_between D) .nil pass0 (pa_cons (pv 4) (pa_cons (pv 6) pa_nil))) (pa_cons (pe_call GB (hr.mono (by decide)) (by rfl) T.g_edge_between D.F_edge_between.kp (b_edge_between D) .nil pass0 (pa_cons (pv 6) (pa_cons (pv 4) pa_nil))) pa_nil))) (pa_cons (pe_op op_rep (pe_lst (pa_cons (pe_call GLb (hr.mono (by decide)) (by rfl) T.g__law_between D.F__law_between.kp (b__law_between D) .nil pass0 (pa_cons (pv 4) (pa_cons (pv 6) pa_nil))) pa_nil)) pe_int) pa_nil))))) (pss_one (ps_ret pe_bl)) pss_nil)))))))))))
      (pss_one (ps_ret (pe_and (pe_cmpR op_eq (pe_callB (call_lenO T.m_Picture_len GL (hr.mono (by decide)) (b_Picture_len D) pass0) (by rfl) T.z_len PySem.boot_len (pa_cons (pe_make T.k_Picture GI (hr.mono (by decide)) (by rfl) T.g_Picture (b_Picture_init D) .nil pass0 (pa_cons (pe_lst pa_nil) pa_nil)) pa_nil)) pe_int (nomark _)) (pe_one (pe_cmpR (op_eqD hr.units) (pe_prop (pe_make T.k_Picture GI (hr.mono (by decide)) (by rfl) T.g_Picture (b_Picture_init D) .nil pass0 (pa_cons (pe_lst pa_nil) pa_nil)) T.c_Picture T.p_Picture_edges GP (hr.mono (by decide)) (b_Picture_edges D) .nil pass0 rfl) (pe_tup pa_nil) (nomark _))))))), ?_⟩
    refine ⟨_, rfl, a, _, rfl, .inl hS, _, _, rfl, _, _, rfl, _, rfl, ?b1, ?b2, ?_⟩
    case b1 => split <;> omega
    case b2 => split <;> split <;> omega
    refine for_range (lo := 0) (fun i σ H' => ∃ z1 z2 z3 z4 z5 z6, SqL K H' a (ns.map V.int) ∧ σ = [some (.ref a), z1, z2, z3, z4, z5, z6]) ⟨none, none, none, none, none, none, hS, rfl⟩ (fun k σ' H0 hk hp => ?_) fun σ' H' hp => ?_
    · obtain ⟨z1, z2, z3, z4, z5, z6, hS0, rfl⟩ := hp
      have hk8 : k < 9 := by
        have h2 := hk
        split at h2 <;> split at h2 <;> omega
      refine ⟨_, rfl, _, rfl, a, ns, k, by rw [Int.zero_add]; rfl, hS0, by omega, fun t Ht st h0 tk0 => ?_⟩
      show Ends.nx _ [some (.ref a), some (.int (0 + (k : Int))), some (.ref t), z3, z4, z5, z6] _
      -- two pictures
      refine ⟨_, rfl, _, rfl, t, 0, 399, rfl, tk0, by omega, by decide, by decide, fun e1 L1 c1 H1 k1 tk1 c10 c11 nr1 ed1 l1 fr1 => ?_⟩
      refine ⟨_, e1, L1, rfl, nr1, ed1, l1, fun H2 k2 => ⟨true, rfl, iteF ?_⟩⟩
      have te1 : t ≠ e1 := tk0.ne fr1
      have tk2 := Keep.tk tk1 te1 k2
      have kH2 : Keep t Ht H2 := Keep.fresh fr1 k1 k2
      refine ⟨_, rfl, _, rfl, t, c1, 6, rfl, tk2, by omega, by decide, by decide, fun e2 L2 c2 H3 k3 tk3 c20 c21 nr3 ed3 l3 fr3 => ?_⟩
      refine ⟨_, e2, L2, rfl, nr3, ed3, l3, fun H4 k4 => ⟨true, rfl, iteF ?_⟩⟩
      have te2 : t ≠ e2 := tk2.ne fr3
      have tk4 := Keep.tk tk3 te2 k4
      have kH4 : Keep t Ht H4 := kH2.trans (Keep.fresh fr3 k3 k4)
      clear kH2 k3 k4 k2 k1 nr3 nr1 fr3 fr1 tk3 tk2 tk1 te1 te2
      -- twenty pairs of points
      refine ⟨20, rfl, by decide, by decide, ?_⟩
      refine for_range (lo := 0) (n := 20) (fun i σ H' => ∃ c z3 z4 z5 z6, Keep t Ht H' ∧ Tk H' t c ∧ c ≤ c2 + 30 * i ∧ σ = [some (.ref a), some (.int (0 + (k : Int))), some (.ref t), z3, z4, z5, z6])
        ⟨c2, z3, z4, z5, z6, kH4, tk4, by omega, rfl⟩ (fun i σ' H5 hi hp => ?_) fun σ' H5 hp => ?_
      · obtain ⟨c, z3, z4, z5, z6, k5, tk5, lc, rfl⟩ := hp
        refine ⟨_, rfl, t, c, rfl, tk5, by omega, fun x d1 H6 k6 tk6 d10 d11 bx => ?_⟩
        refine ⟨_, rfl, t, d1, rfl, tk6, by omega, fun y d2 H7 k7 tk7 d20 d21 bY => ⟨big2, fun p1 hp1 => ?_⟩⟩
        have s1 := same_new (o := .tup [.int x, .int y]) hp1
        have r1 : Row (upd H7 p1 (.tup [.int x, .int y])) p1 [x, y] := upd_same
        have tk8 := tk7.same s1
        have k58 : Keep t H5 (upd H7 p1 (.tup [.int x, .int y])) := k6.trans (k7.trans (Same.keep s1))
        generalize upd H7 p1 (.tup [.int x, .int y]) = H8 at r1 tk8 k58 ⊢
        clear s1 hp1 k6 k7 tk6 tk7
        have i0 : ∀ i j : Int, atI ([i, j].map V.int) 0 = some (.int i) := fun i j => atI_nat (j := 0) rfl
        have i1 : ∀ i j : Int, atI ([i, j].map V.int) 1 = some (.int j) := fun i j => atI_nat (j := 1) rfl
        refine ⟨_, rfl, p1, _, 0, _, rfl, rfl, tupT r1, i0 x y, _, rfl, t, 4, d2, rfl, tk8, by omega, by decide, by decide, fun u1 d3 H9 k9 tk9 d30 d31 u10 u11 => ⟨_, _, rfl, rfl, _, _, rfl, rfl, ?_⟩⟩
        have r2 := k9.row tk8 r1
        refine ⟨_, rfl, p1, _, 1, _, rfl, rfl, tupT r2, i1 x y, _, rfl, t, 4, d3, rfl, tk9, by omega, by decide, by decide, fun u2 d4 H10 k10 tk10 d40 d41 u20 u21 => ⟨_, _, rfl, rfl, _, _, rfl, rfl, big2, fun p2 hp2 => ?_⟩⟩
        have r3 := k10.row tk9 r2
        have s2 := same_new (o := .tup [.int (x + u1 - 1), .int (y + u2 - 1)]) hp2
        have r4 := s2 _ _ r3
        have w1 : Row (upd H10 p2 (.tup [.int (x + u1 - 1), .int (y + u2 - 1)])) p2 [x + u1 - 1, y + u2 - 1] := upd_same
        have tk11 := tk10.same s2
        have k511 : Keep t H5 (upd H10 p2 (.tup [.int (x + u1 - 1), .int (y + u2 - 1)])) := k58.trans (k9.trans (k10.trans (Same.keep s2)))
        generalize upd H10 p2 (.tup [.int (x + u1 - 1), .int (y + u2 - 1)]) = H11 at r4 w1 tk11 k511 ⊢
        clear s2 hp2 r3 r2 k9 k10 tk9 tk10 k58 tk8 r1
        show Ends.nx _ [some (.ref a), some (.int (0 + (k : Int))), some (.ref t), some (.int (0 + (i : Int))), some (.ref p1), some (.ref p2), z6] _
        refine ⟨_, rfl, _, rfl, p1, p2, _, _, _, _, rfl, r4, w1, fun v1 H12 s12 b1 => ?_⟩
        refine ⟨_, rfl, _, rfl, p2, p1, _, _, _, _, rfl, s12 _ _ w1, s12 _ _ r4, fun v2 H13 s13 b2 => ⟨big2, fun q1 hq1 => ?_⟩⟩
        rw [btw_swap] at b2
        have t1 := same_new (o := .lst [v1, v2]) hq1
        have eq1 : upd H13 q1 (.lst [v1, v2]) q1 = some (.lst [v1, v2]) := upd_same
        have b1' := (b1.same s13).same t1
        have b2' := b2.same t1
        have t12 := s12.trans (s13.trans t1)
        generalize upd H13 q1 (.lst [v1, v2]) = H14 at t12 eq1 b1' b2' ⊢
        refine ⟨_, rfl, _, rfl, p1, p2, _, _, _, _, rfl, t12 _ _ r4, t12 _ _ w1, fun v3 H15 s15 b3 => ⟨big1, fun q2 hq2 => ?_⟩⟩
        have t2 := same_new (o := .lst [v3]) hq2
        have eq2 : upd H15 q2 (.lst [v3]) q2 = some (.lst [v3]) := upd_same
        refine ⟨q2, 2, _, rfl, rfl, eq2, by decide, by decide, by show 1 * 2 ≤ sizeLine; decide, fun q3 hq3 => ?_⟩
        have t3 := same_new (o := .lst [v3, v3]) hq3
        have eq3 : upd (upd H15 q2 (.lst [v3])) q3 (.lst [v3, v3]) q3 = some (.lst [v3, v3]) := upd_same
        have b3' := (b3.same t2).same t3
        have t23 := s15.trans (t2.trans t3)
        rw [show (List.replicate (2 : Int).toNat [v3]).flatten = [v3, v3] from rfl]
        generalize upd (upd H15 q2 (.lst [v3])) q3 (.lst [v3, v3]) = H16 at t23 eq3 b3' ⊢
        have sm1 : SameV H16 2 (.ref q1) (.ref q3) := .inr ⟨q1, q3, [v1, v2], [v3, v3], rfl, rfl, rfl, by show 2 ≤ 1000; decide, .inl ⟨t23 _ _ eq1, eq3⟩, fun j u w h1 h2 => by
          have hj : j < 2 := (List.getElem?_eq_some_iff.mp h1).1
          rcases (by omega : j = 0 ∨ j = 1) with rfl | rfl
          · obtain rfl : v1 = u := Option.some.inj h1
            obtain rfl : v3 = w := Option.some.inj h2
            exact btw_child (b1'.same t23) b3' btw_len
          · obtain rfl : v2 = u := Option.some.inj h1
            obtain rfl : v3 = w := Option.some.inj h2
            exact btw_child (b2'.same t23) b3' btw_len⟩
        refine ⟨_, _, rfl, sm1, fun H17 s17 => ⟨true, rfl, iteF ?_⟩⟩
        have s1117 := t12.trans (t23.trans s17)
        have r5 := s1117 _ _ r4
        have tk17 := tk11.same s1117
        have k517 := k511.trans (Same.keep s1117)
        clear s1117 s17 sm1 t23 b3' eq3 t3 hq3 eq2 t2 hq2 b3 s15 t12 b2' b1' eq1 t1 hq1 b2 s13 b1 s12 w1 r4 tk11 k511
        -- three
        refine ⟨_, rfl, p1, _, 0, _, rfl, rfl, tupT r5, i0 x y, ?_⟩
        refine ⟨_, _, rfl, rfl, pw_ok (by decide) (by decide), _, rfl, t, d4, rfl, tk17, by omega, fun n1 d5 H18 k18 tk18 d50 d51 bn1 => ⟨big4, fun q4 hq4 => ?_⟩⟩
        have t4 := same_new (o := .lst [.int 0, .int 1, .int (10 ^ (30 : Int).toNat), .int n1]) hq4
        have eq4 : upd H18 q4 (.lst [.int 0, .int 1, .int (10 ^ (30 : Int).toNat), .int n1]) q4 = some (.lst [.int 0, .int 1, .int (10 ^ (30 : Int).toNat), .int n1]) := upd_same
        have r6 := t4 _ _ (k18.row tk17 r5)
        have tk19 := tk18.same t4
        have k519 := k517.trans (k18.trans (Same.keep t4))
        generalize upd H18 q4 (.lst [.int 0, .int 1, .int (10 ^ (30 : Int).toNat), .int n1]) = H19 at eq4 r6 tk19 k519 ⊢
        obtain ⟨w, hw⟩ : ∃ w : Int, atI [V.int 0, V.int 1, V.int (10 ^ (30 : Int).toNat), V.int n1] ((0 + (i : Int)) % 4) = some (.int w) := by
          rcases (by omega : (0 + (i : Int)) % 4 = 0 ∨ (0 + (i : Int)) % 4 = 1 ∨ (0 + (i : Int)) % 4 = 2 ∨ (0 + (i : Int)) % 4 = 3) with e | e | e | e <;> rw [e]
          · exact ⟨0, atI_nat (j := 0) rfl⟩
          · exact ⟨1, atI_nat (j := 1) rfl⟩
          · exact ⟨_, atI_nat (j := 2) rfl⟩
          · exact ⟨n1, atI_nat (j := 3) rfl⟩
        refine ⟨_, rfl, _, _, rfl, rfl, (by show (0 : Int) < 4; decide), q4, _, _, _, rfl, rfl, lstL eq4, hw, _, _, rfl, rfl, ?_⟩
        refine ⟨_, rfl, p1, _, 1, _, rfl, rfl, tupT r6, i1 x y, _, rfl, t, d5, rfl, tk19, by omega, fun n2 d6 H20 k20 tk20 d60 d61 bn2 => ?_⟩
        refine ⟨_, rfl, _, _, rfl, rfl, (by show (0 : Int) < 3; decide), _, _, rfl, rfl, .inr ⟨?_, ?_⟩, _, _, rfl, rfl, big2, fun p3 hp3 => ?_⟩
        · show -(2 ^ 64) < (0 + (i : Int)) % 3
          omega
        · show (0 + (i : Int)) % 3 < 2 ^ 64
          omega
        have t5 := same_new (o := .tup [.int (x + w), .int (y + n2 * ((0 + (i : Int)) % 3))]) hp3
        have w3 : Row (upd H20 p3 (.tup [.int (x + w), .int (y + n2 * ((0 + (i : Int)) % 3))])) p3 [x + w, y + n2 * ((0 + (i : Int)) % 3)] := upd_same
        have r7 := t5 _ _ (k20.row tk19 r6)
        have tk21 := tk20.same t5
        have k521 := k519.trans (k20.trans (Same.keep t5))
        generalize upd H20 p3 (.tup [.int (x + w), .int (y + n2 * ((0 + (i : Int)) % 3))]) = H21 at w3 r7 tk21 k521 ⊢
        clear t5 hp3 k20 tk20 k519 tk19 r6 eq4 t4 hq4 k18 tk18 k517 tk17 r5 hw
        generalize x + w = x3 at w3 ⊢
        generalize y + n2 * ((0 + (i : Int)) % 3) = y3 at w3 ⊢
        show Ends.nx _ [some (.ref a), some (.int (0 + (k : Int))), some (.ref t), some (.int (0 + (i : Int))), some (.ref p1), some (.ref p2), some (.ref p3)] _
        refine ⟨_, rfl, _, rfl, p1, p3, _, _, _, _, rfl, r7, w3, fun v1 H12 s12 b1 => ?_⟩
        refine ⟨_, rfl, _, rfl, p3, p1, _, _, _, _, rfl, s12 _ _ w3, s12 _ _ r7, fun v2 H13 s13 b2 => ⟨big2, fun q1 hq1 => ?_⟩⟩
        rw [btw_swap] at b2
        have t1 := same_new (o := .lst [v1, v2]) hq1
        have eq1 : upd H13 q1 (.lst [v1, v2]) q1 = some (.lst [v1, v2]) := upd_same
        have b1' := (b1.same s13).same t1
        have b2' := b2.same t1
        have t12 := s12.trans (s13.trans t1)
        generalize upd H13 q1 (.lst [v1, v2]) = H14 at t12 eq1 b1' b2' ⊢
        refine ⟨_, rfl, _, rfl, p1, p3, _, _, _, _, rfl, t12 _ _ r7, t12 _ _ w3, fun v3 H15 s15 b3 => ⟨big1, fun q2 hq2 => ?_⟩⟩
        have t2 := same_new (o := .lst [v3]) hq2
        have eq2 : upd H15 q2 (.lst [v3]) q2 = some (.lst [v3]) := upd_same
        refine ⟨q2, 2, _, rfl, rfl, eq2, by decide, by decide, by show 1 * 2 ≤ sizeLine; decide, fun q3 hq3 => ?_⟩
        have t3 := same_new (o := .lst [v3, v3]) hq3
        have eq3 : upd (upd H15 q2 (.lst [v3])) q3 (.lst [v3, v3]) q3 = some (.lst [v3, v3]) := upd_same
        have b3' := (b3.same t2).same t3
        have t23 := s15.trans (t2.trans t3)
        rw [show (List.replicate (2 : Int).toNat [v3]).flatten = [v3, v3] from rfl]
        generalize upd (upd H15 q2 (.lst [v3])) q3 (.lst [v3, v3]) = H16 at t23 eq3 b3' ⊢
        have sm1 : SameV H16 2 (.ref q1) (.ref q3) := .inr ⟨q1, q3, [v1, v2], [v3, v3], rfl, rfl, rfl, by show 2 ≤ 1000; decide, .inl ⟨t23 _ _ eq1, eq3⟩, fun j u w h1 h2 => by
          have hj : j < 2 := (List.getElem?_eq_some_iff.mp h1).1
          rcases (by omega : j = 0 ∨ j = 1) with rfl | rfl
          · obtain rfl : v1 = u := Option.some.inj h1
            obtain rfl : v3 = w := Option.some.inj h2
            exact btw_child (b1'.same t23) b3' btw_len
          · obtain rfl : v2 = u := Option.some.inj h1
            obtain rfl : v3 = w := Option.some.inj h2
            exact btw_child (b2'.same t23) b3' btw_len⟩
        refine ⟨_, _, rfl, sm1, fun H17 s17 => ⟨true, rfl, iteF ?_⟩⟩
        have sZ := t12.trans (t23.trans s17)
        exact ⟨d6, _, _, _, _, k521.trans (Same.keep sZ) |> k5.trans, tk21.same sZ, by omega, rfl⟩
      · obtain ⟨c, z3, z4, z5, z6, k5, tk5, lc, rfl⟩ := hp
        refine ⟨_, _, _, _, _, _, ?_, rfl⟩
        rcases hS0 with (h | ⟨o, h⟩) | h
        · exact .inl (.inl (k5 _ _ (ne_of_none h h0) (st _ _ h)))
        · exact .inl (.inr ⟨o, k5 _ _ (ne_of_none h h0) (st _ _ h)⟩)
        · exact .inr h
    · obtain ⟨z1, z2, z3, z4, z5, z6, hS0, rfl⟩ := hp
      refine ⟨big0, fun p1 hp1 => ?_⟩
      have n1 : NewRws (upd H' p1 (.lst [])) p1 [] := ⟨upd_same, fun _ z => nomatch z⟩
      have ed0 : Edges [] := ⟨fun _ z => (nomatch z), List.nodup_nil, Nat.zero_le _⟩
      refine fun b d0 fa d1 _ => make_q (K := K) n1.rws ed0 fa d1 fun H2 L2 s2 pic perm => ⟨rfl, ?_⟩
      have l2 : L2 = [] := List.map_eq_nil_iff.mp perm.eq_nil
      subst l2
      obtain ⟨dq, _, _, _, pe1, _⟩ := id pic
      refine ⟨b, dq, _, rfl, pe1, b, [], rfl, pic, _, rfl, by decide, by decide, rfl, ?_⟩
      rw [show decide (V.int (([] : List (Addr × List Int)).length : Nat) = V.int 0) = true from decide_eq_true rfl]
      refine ⟨true, rfl, iteT ?_⟩
      refine ⟨big0, fun p3 hp3 => ?_⟩
      have n3 : NewRws (upd H2 p3 (.lst [])) p3 [] := ⟨upd_same, fun _ z => nomatch z⟩
      refine fun b3 d3 fa3 d4 _ => make_q (K := K) n3.rws ed0 fa3 d4 fun H4 L4 s4 pic4 perm4 => ⟨rfl, ?_⟩
      have l4 : L4 = [] := List.map_eq_nil_iff.mp perm4.eq_nil
      subst l4
      obtain ⟨dr, _, _, _, pf1, _⟩ := id pic4
      refine ⟨b3, dr, _, rfl, pf1, b3, [], rfl, pic4, fun tp etp => ⟨big0, fun p5 hp5 => ?_⟩⟩
      have s5 := same_new (o := .tup []) hp5
      exact ⟨.tuple [], .tuple [], .tup (tupT (s5 _ _ etp)) .nil, .tup (tupT upd_same) .nil, rfl, rfl, q _⟩
end
end K45

set_option Elab.async false
set_option linter.all false
set_option maxRecDepth 100000
set_option maxHeartbeats 0
namespace K45
open PySem PySem.Spec PyProof.Rows L2
theorem run0 (w : World) : HandSHeadRun.RunEq Rw (PySem.W.view Rw.prog [31]) hk ob 12000 names (w.withFollow "special-get-raises" false) := by
  intro os
  kernel_rfl
theorem run1 (w : World) : HandSHeadRun.RunEq Rw (PySem.W.view Rw.prog [31]) hk ob 12000 names (w.withFollow "special-get-raises" true) := by
  intro os
  kernel_rfl
theorem run (w : World) : HandSHeadRun.RunEq Rw (PySem.W.view Rw.prog [31]) hk ob 12000 names w := PySem.W.byRow2 "special-get-raises" (P := fun w => HandSHeadRun.RunEq Rw (PySem.W.view Rw.prog [31]) hk ob 12000 names w) run0 run1 w
end K45

set_option Elab.async false
set_option linter.all false
set_option maxRecDepth 100000
set_option maxHeartbeats 0
open PySem PySem.W PySem.Calls PyProof.Rows
theorem PySem.Challenge.cw_plotpens_k45_pictures_made_holds : PySem.Challenge.rw_plotpens_k45_pictures_made.Holds := by
  w_on; o_law
  refine HandSHeadRun.head_any (r := OpenLaw.row PySem.Challenge.rw_plotpens_k45_pictures_made) (q := view (OpenLaw.row PySem.Challenge.rw_plotpens_k45_pictures_made).prog [31]) (H := K45.hk) (ob := K45.ob) (M := 12000) (loose := K45.names) (d := HandSHeadRun.topDef (OpenLaw.row PySem.Challenge.rw_plotpens_k45_pictures_made).prog 31) (kwd := []) K45.ob_eq
    (by kernel_rfl) (fun s => by kernel_rfl) K45.run (by kernel_rfl) (by kernel_rfl) (by kernel_rfl) (by rfl) (by first | assumption | decide +kernel) (by decide +kernel) ⟨rfl, rfl, rfl, rfl, rfl, by decide +kernel⟩ ?hw ?hc
  case hw => w_witness2
  case hc =>
    refine RT.walk_ofG (l := PySem.Challenge.rw_plotpens_k45_pictures_made) (n := 63) (k := 11) (x := "script") (CX := fun _ => L2.CX0) rfl (by decide) (by kernel_rfl) ⟨rfl, by decide, by decide⟩ ?F (fun _ _ _ _ _ z => z)
    intro w mg fa h Y G hmg0
    obtain ⟨K, KX, c⟩ := Y
    have hmg : mg ("law" : PySem.Str) = some (.ref fa) := by
      have e : (HandSHeadRun.topDef (OpenLaw.row PySem.Challenge.rw_plotpens_k45_pictures_made).prog 31).name = ("law" : PySem.Str) := by kernel_rfl
      rw [← e]
      exact hmg0
    have T := K45.tx_of KX G c
    obtain ⟨D⟩ := K45.ds_of c
    have e := hmg.symm.trans T.g_law
    cases e
    have b := L2.FunD.bindsA (ps := ["script"]) D.F_law fun _ _ _ _ _ _ us hl => match us, hl with | [_], _ => rfl
    exact ⟨K, D.fd_law, K45.spLaw K, KX, fun s v => b s [v] rfl, fun H a ns hl _ hS => ⟨a, ns, rfl, hS, fun _ => rfl⟩, fun base _ _ => RT.FnG.of (K45.ok_law D T)⟩
