import PyProof.Rows.All
import Wide.All
import OpenK.AllK
import Wide.FinOn
import HandS.ForMost
import HandS.Exc
import HandS.ExcCtx
import HandS.TryOnly
import HandS.ExcInit
import HandS.IsInst
import HandS.ExcIs
import HandS.ExcField
import HandS.SortKw
import HandS.FStr
import HandS.Wide
import KE.DataMinMax
import PyProof.StrBlock2
import PyProof.Rows.RuleB_pow
import HandS.SlotsOwn
import HandS.Property
import HandS.OwnEq
import KE.KOpsOwn
import OpenK.KOps
import HandS.WordsExc
import HandS.Defaults
import HandS.EndBits
import KE.KStateDown
import Lean
import HandS.Head0
import HandS.Head1
import HandS.Head2
import HandS.HeadEnd
import HandS.HeadHook1
import HandS.HeadHook2
import HandS.TupSets
import KE.KCallOwn
import PyProof.InstEq
import HandS.Style
import HandS.SortInts
import HandS.Zip
import HandS.SetFor
import HandS.Strs
import HandS.SortOrd
import HandS.SortRule
import KE.KDictSum
import HandS.ForExc
import HandS.Conv
import HandS.DictComp
import HandS.DictTup
import HandS.ListItems
import HandS.Small
import HandS.Walk
import HandS.Flow
import PySem.Challenge.RW_plotpens_k29_degrees_and_odd_points
set_option Elab.async false
set_option linter.all false
set_option maxRecDepth 100000
set_option maxHeartbeats 4000000
/-! a try whose clause keeps the exception: behind it the exception stands tracked -/
namespace RT
open PySem PySem.Spec PyProof.Rows L2 L2N
/-- an exception that was caught, at a: its class, its own dict -/
def ExT (a : Addr) (cls : Value) (d : Option Addr) : HO := .ext fun h => ∃ (oe : Obj) (vs : Array Value), h.get? a = some oe ∧ oe.cls = cls ∧ oe.dict = d ∧ oe.data = .fields vs
theorem exT_ok {P : Program} {w : World} {H : Hp} {h : Heap} {a : Addr} {cls : Value} {d : Option Addr} {oe : Obj} {vs : Array Value} (e : h.get? a = some oe) (z : oe.cls = cls) (z2 : oe.dict = d) (dd : oe.data = .fields vs) : ObjOk P w H h a (ExT a cls d) :=
  ⟨⟨oe, vs, e, z, z2, dd⟩, ⟨oe, e⟩, fun _ _ ⟨o, v, q, r⟩ k => ⟨o, v, k o q, r⟩⟩
section
variable {X : Cx} {pins : List (Addr × Obj)} {σ : L2.St} {H : Hp} {s : Shared}
theorem Inv.trackX {a : Addr} {o : HO} {oe : Obj} (I : Inv X pins σ H s) (he : s.heap.get? a = some oe) (hn : H a = none) (n0 : X.s_0.heap.get? a = none) (nL : a ≠ X.env.locals)
    (nC : ∀ x c, X.env.cells.lookup x = some c → c ≠ a) (nP : ∀ p ∈ X.pn ++ pins, p.1 ≠ a) (new : ObjOk X.prog X.w (upd H a o) s.heap a o) : Inv X pins σ (upd H a o) s := by
  have ne0 : ∀ b u, X.s_0.heap.get? b = some u → b ≠ a := fun b u e z => by
    rw [z, n0] at e
    cases e
  have neH : ∀ b u, H b = some u → b ≠ a := fun b u e z => by
    rw [z, hn] at e
    cases e
  refine ⟨I.ok, I.os, I.bare, ⟨I.base.keep, I.base.slot, fun b u e n hx => ?_, I.base.there, fun b xs e => ?_, fun b u xs e => ?_, fun b ps e => ?_⟩, I.loc, I.cell, ?_, fun x c e => ?_, fun p hp => ?_, fun b u e => ?_, I.len⟩
  · rw [upd_ne (ne0 b u e)]
    exact I.base.free b u e n hx
  · have q := I.base.tups b xs e
    rw [upd_ne (neH b _ q)]
    exact q
  · have q := I.base.frzs b u xs e
    rw [upd_ne (neH b _ q)]
    exact q
  · obtain ⟨m, q⟩ := I.base.tbls b ps e
    refine ⟨m, ?_⟩
    rw [upd_ne (neH b _ q)]
    exact q
  · rw [upd_ne (Ne.symm nL)]
    exact I.free
  · rw [upd_ne (nC x c e)]
    exact I.freeC x c e
  · obtain ⟨q1, q2, q3, q4, q5⟩ := I.pin p hp
    refine ⟨q1, ?_, q3, q4, q5⟩
    rw [upd_ne (nP p hp)]
    exact q2
  · by_cases hb : b = a
    · subst hb
      rw [upd_same] at e
      cases e
      exact new
    · rw [upd_ne hb] at e
      refine (I.hok b u e).stay (fun c v _ q => q) (fun c q => ?_) fun c xs q => ?_
      · rw [upd_ne (neH c _ q)]
        exact q
      · rw [upd_ne (neH c _ q)]
        exact q
end
/-- as wAs, but behind the suite the exception is tracked -/
def wAsT (K : PySem.W.Frag) (c : Value) (i : Nat) (ts : Addr → Value → Option Addr → TS) (Wout : WX) (D : Ends) : WX := fun cls d σ H =>
  ∃ b, PySem.W.exmOne K cls c = some b ∧ (b = true → ∀ a, H a = none → ts a cls d { nx := fun σ' H' => D.nx (σ'.set i none) (upd H' a (ExT a cls d)), rt := D.rt, bk := fun σ' H' => D.bk (σ'.set i none) H', ct := fun σ' H' => D.ct (σ'.set i none) H' } (σ.set i (some (.ref a))) H) ∧
    (b = false → Wout cls d σ H)
section
variable {X : Cx} {body : List Stmt} {pos pos' np : Pos} {tb : WX → TS} {Wout : WX} {i : Nat} {n x : Str} {c : Value} {b₀ : Stmt} {suite : List Stmt} {ts : Addr → Value → Option Addr → TS}
theorem ps_try_asT (hs : X.stack = X.env :: X.outer) (hf : X.env.frame = some X.env.locals) (hex : X.ex = []) (hN : X.N.Nodup) (hi : X.N[i]? = some n) (hln : X.env.kindOf n = some .local) (hc : Names X x c) (tk : L2N.Takes X Wout)
    (hb : ∀ (W : WX) (pn : List (Addr × Obj)) (xe : Value → Shared → Prop), L2N.Takes (X.tr pn xe) W → PassesOwn (model X.prog X.w) X.A X.env xe → PSs (X.tr pn xe) body (tb W))
    (hsu : ∀ (a : Addr) (oe : Obj) (cls : Value) (d : Option Addr) (pn : List (Addr × Obj)), Zn cls d oe → (∃ vs, oe.data = .fields vs) → PSs (X.suite a ((a, oe) :: pn)) (b₀ :: suite) (ts a cls d)) :
    PS X (.Try body [.ExceptHandler (some (.Name x np)) (some n) (b₀ :: suite) pos'] [] [] pos) (fun D σ H => tb (wAsT X.K c i ts Wout D) D σ H) := by
  refine ⟨fun pins s σ H D I h => ?_⟩
  have okX := I.ok
  have frEq : X.A.frames = some (X.env :: X.outer) := by rw [okX.frames, hs]
  have locN : Loc X.env.scope n := .inl hln
  refine wpAny_Try_except ?_
  refine wpAny_mono ((hb (wAsT X.K c i ts Wout D) (X.pn ++ pins) (fun e s₁ => wpAny (model X.prog X.w) X.A (noteFrame e X.env) (fun _ s₂ => wpAny (model X.prog X.w) X.A (setFlight e none) (fun _ s₃ =>
    wpAny (model X.prog X.w) X.A (handleBy e X.env [.ExceptHandler (some (.Name x np)) (some n) (b₀ :: suite) pos']) (SP X pins D) X.xe s₃) X.xe s₂) X.xe s₁) (fun u s' wish => ?_) PassesOwn.looking).run [] s σ H D (I.toTry _) h) (fun f s1 spq => ?_) (fun e s1 he => he)
  · -- the catch
    obtain ⟨a, B, sI, pins', σ', H', cls, d, rfl, J0, botB, up, airA, frA, osE, agE, b, exB, yesB, noB⟩ := wish
    have J : Inv X pins σ' H' sI := J0.ofTry okX
    have airB : Sky B (X.env :: X.outer) a (Zn cls d) X.env.locals s'.heap := by rw [← hs]; exact airA
    show wpAny (model X.prog X.w) X.A (noteFrame (.ref a) X.env) _ _ _
    refine Sky.land Zn.steady frEq hf airB fun hpA flyA growA => ?_
    have JA : Inv X pins σ' H' { s' with heap := hpA } := J.landed botB flyA.1 (up.trans growA) osE agE
    obtain ⟨oA, fvA, atA, znA, flA⟩ := flyA.there
    have noFrame : ∀ {h : Heap} {o : Obj} {vs : Array Value}, h.FunFrames B (X.env :: X.outer) → h.get? a = some o → o.data = .fields vs → a ∉ frs (X.env :: X.outer) := fun {h o vs} ff e dd hmm => by
      obtain ⟨_, o', e', hnf⟩ := ff.mem hmm
      rw [e] at e'; cases e'
      exact hnf _ dd
    have offFr := noFrame flyA.2.2.1 atA flA
    have nL : a ≠ X.env.locals := fun z => offFr (List.mem_filterMap.mpr ⟨X.env, List.mem_cons_self, by rw [hf, z]⟩)
    have nF : a ∉ X.fs := fun hmm => by
      obtain ⟨e, he, q⟩ := List.mem_filterMap.mp hmm
      exact offFr (List.mem_filterMap.mpr ⟨e, List.mem_cons_of_mem _ he, q⟩)
    have nI : ∀ o, sI.heap.get? a = some o → False := fun o e => by
      have q := botB a o e (by rw [hs]; exact offFr)
      rw [flyA.2.1] at q
      cases q
    have n0 : X.s_0.heap.get? a = none := by
      cases e : X.s_0.heap.get? a with
      | none => rfl
      | some o =>
        obtain ⟨o', e'⟩ := J.base.there a o e (by rw [hex]; exact fun z => nomatch z)
        exact (nI o' e').elim
    have nC : ∀ x c, X.env.cells.lookup x = some c → c ≠ a := fun x c e z => by
      obtain ⟨v, o, ho, _⟩ := J.cell x c e
      rw [z] at ho
      exact nI o ho
    have nP : ∀ p ∈ X.pn ++ pins, p.1 ≠ a := fun p hp z => by
      have q := (J.pin p hp).1
      rw [z] at q
      exact nI _ q
    have SA := JA.suite atA flA frA nL nF
    refine wpAny_handleBy_cons (codeAny_handlers_test ?_) (by intro q; cases q)
    have lookT : PySem.W.Looks (model X.prog X.w) hpA (typeOf (.ref a)) cls := fun A Q E s k q => wpAny_typeOf_ref (k _ _ atA) (by rw [znA.1]; exact q)
    have lookM := PySem.W.exm_one (M := model X.prog X.w) (JA.kIn) lookT exB
    have asks : ∀ {Q : Value → Shared → Prop} {E : Value → Shared → Prop}, Q c { s' with heap := hpA } → wpAny (model X.prog X.w) (X.A.mark (some (.ref a))) (eval (.Name x np) X.env) Q E { s' with heap := hpA } := fun {Q E} q => by
      obtain ⟨hg, hdbg, hmm | ⟨hmm, hv, hnn⟩⟩ := hc
      · exact ld_glob (X := X.suite a ((a, oA) :: (X.pn ++ pins))) SA hg hmm q hdbg
      · exact ld_blt (X := X.suite a ((a, oA) :: (X.pn ++ pins))) SA hg hmm hv q hnn hdbg
    refine asks (lookM.here ?_)
    cases b with
    | true =>
      refine codeAny_handlers_suite_as ?_
      refine HandSPX.lands_againZ flyA fun hpB flyB growB => ?_
      have JB : Inv X pins σ' H' { s' with heap := hpB } := J.landed botB flyB.1 ((up.trans growA).trans growB) osE agE
      obtain ⟨oB, fvB, atB, znB, flB⟩ := flyB.there
      have SB4 := JB.suite atB flB frA nL nF
      refine store_ok (X := X.suite a ((a, oB) :: (X.pn ++ pins))) (v := .ref a) SB4 hN hi locN rfl (fun sS SS => ?_) (.inr hln)
      refine wpAny_mono ((hsu a oB cls d (X.pn ++ pins) znB ⟨_, flB⟩).run [] sS _ H' _ SS (yesB rfl a frA)) (fun f sT spq => ?_) (fun _ _ z => False.elim z)
      have endO : ∀ {σT : L2.St} {HT : Hp} {Q : Shared → Prop}, Inv (X.suite a ((a, oB) :: (X.pn ++ pins))) [] σT HT sT → (∀ sU, Inv X pins (σT.set i none) HT sU → Q sU) →
          wpAny (model X.prog X.w) X.A (do bindName X.env n .none; unbindBehindTheSuite X.env n pos') (fun _ sU => Q sU) X.xe sT := fun {σT HT Q} ST hq => gone_ok (ST.unsuite okX) hN hi hln hq
      have endT : ∀ {σT : L2.St} {HT : Hp} {Q : Shared → Prop}, Inv (X.suite a ((a, oB) :: (X.pn ++ pins))) [] σT HT sT → (∀ sU, Inv X pins (σT.set i none) (upd HT a (ExT a cls d)) sU → Q sU) →
          wpAny (model X.prog X.w) X.A (do bindName X.env n .none; unbindBehindTheSuite X.env n pos') (fun _ sU => Q sU) X.xe sT := fun {σT HT Q} ST hq => by
        obtain ⟨p1, p2, _⟩ := ST.pin (a, oB) (List.mem_append_left _ List.mem_cons_self)
        refine gone_ok (Inv.trackX (ST.unsuite okX) p1 p2 n0 nL nC nP (exT_ok p1 znB.1 znB.2.1 flB)) hN hi hln hq
      cases f with
      | next =>
        obtain ⟨σT, HT, ST, qT⟩ := spq
        exact endT ST fun sU JU => ⟨_, _, JU, qT⟩
      | brk =>
        obtain ⟨σT, HT, ST, qT⟩ := spq
        exact endO ST fun sU JU => ⟨_, _, JU, qT⟩
      | cont =>
        obtain ⟨σT, HT, ST, qT⟩ := spq
        exact endO ST fun sU JU => ⟨_, _, JU, qT⟩
      | ret u =>
        obtain ⟨vT, σT, HT, ST, rT, qT⟩ := spq
        exact endO ST fun sU JU => ⟨_, _, _, JU, rT, qT⟩
    | false =>
      show wpAny _ X.A (handleBy (.ref a) X.env []) _ _ _
      refine wpAny_handleBy_nil ?_
      obtain ⟨k1, k2, k3, oe, vs, T, oT, ts', he, hz, hd, h1, hr⟩ := id flyA
      unfold PySem.passOn
      refine wpAny_bind (wpAny_field he hd h1 ?_)
      rw [if_neg (show ¬ ((Value.ref T == Value.none) = true) from by simp)]
      have outW : wpAny (model X.prog X.w) X.A (setFlight (.ref a) X.env.frame) (fun _ s4 => wpAny (model X.prog X.w) X.A (throw (.ref a) : Sem Flow) (SP X pins D) X.xe s4) X.xe { s' with heap := hpA } := by
        rw [hf]
        refine HandSPX.setFlight_upZ flyA fun hpB heldB growB => wpAny_throw (tk _ _ ?_)
        exact ⟨a, B, sI, pins, σ', H', cls, d, rfl, J, botB, (up.trans growA).trans growB, .inr (.inr (by rw [hs]; exact heldB)), frA, osE, agE, noB rfl⟩
      first
        | exact wpAny_bind (wpAny_pure (wpAny_bind outW))
        | exact wpAny_bind outW
  · cases f with
    | next =>
      obtain ⟨σ', H', J0, q⟩ := spq
      exact wpAny_execs_nil ⟨σ', H', J0.ofTry okX, q⟩
    | brk =>
      obtain ⟨σ', H', J0, q⟩ := spq
      exact ⟨σ', H', J0.ofTry okX, q⟩
    | cont =>
      obtain ⟨σ', H', J0, q⟩ := spq
      exact ⟨σ', H', J0.ofTry okX, q⟩
    | ret u =>
      obtain ⟨v, σ', H', J0, r, q⟩ := spq
      exact ⟨v, σ', H', J0.ofTry okX, r, q⟩
end
end RT

set_option Elab.async false
set_option linter.all false
set_option maxRecDepth 100000
set_option maxHeartbeats 4000000
/-! isinstance, fields of an exception that was caught and kept -/
namespace PySem.W
open PyProof.Rows
section
variable {prog : Program} {w : World} {A : Around} {E : Value → Shared → Prop} {s : Shared} {K : Frag} {x D : Addr} {ox : Obj} {od : Option Obj}
theorem kin_classX {Q : Option Value → Shared → Prop} (dGet : findIn K (.ref D) "__getattribute__" = some (some (.builtin "BaseException.__getattribute__"))) (dAlt : findIn K (.ref D) "__getattr__" = some none) (dSub : subIn K (.ref D) (.type "BaseException") = some true)
    (dDic : hasDictIn K D = true) (dCls : findIn K (.ref D) "__class__" = some (some (.builtin "object.__class__")))
    (dDes : specialIn K (.builtin "object.__class__") "__get__" = some (some (.builtin "getset_descriptor.__get__"))) (dTak : takesIn K (.builtin "object.__class__") = some true) (dMro : mroIn K D (.type "object") = some true)
    (X : K.In s.heap) (I : InstAt s.heap x ox D od) (h : Q (some (.ref D)) { s with toks := s.toks + 1 }) : wpAny (model prog w) A (getAttr? (.ref x) "__class__") Q E s := by
  have isC : (clsIn K D).isSome = true := by obtain ⟨cd, hc, _⟩ := any_some dDic; rw [hc]; rfl
  have found : findObj K D od "__class__" = some (.bind (.builtin "getset_descriptor.__get__") (.builtin "object.__class__")) := by
    cases od with
    | none => exact findObj_dataN isC dCls dDes dTak
    | some o => exact findObj_data isC dCls dDes dTak
  obtain ⟨hq0, g, d, t, os⟩ := s
  have k0 := I.type (M := model prog w)
  have k1 := looks_findIn (M := model prog w) X dGet
  have k2 := looks_findIn (M := model prog w) X dAlt
  have k3 := looks_find (M := model prog w) X I found
  have below : Looks (model prog w) hq0 (isInstance (.ref x) (.type "BaseException")) true := k0.andThen (looks_subIn X dSub)
  have z0 : (false && onTheHeap (Value.builtin "BaseException.__getattribute__")) = false := rfl
  have z2 : (Value.builtin "BaseException.__getattribute__" == Value.builtin "object.__getattribute__") = false := by decide +kernel
  have z1 : (onTheHeap (Value.ref D) && Value.builtin "BaseException.__getattribute__" == Value.builtin "object.__getattribute__") = false := by rw [z2]; rfl
  unfold getAttr? getAttrBy? getAttrBy
  refine wpAny_bind (wpAny_mkText (wpAny_bind (wpAny_attempt (wpAny_holding (wpAny_bind (k0.at (wpAny_bind (k1.at ?_))))))))
  show wpAny _ _ (if (onTheHeap (Value.ref D) && Value.builtin "BaseException.__getattribute__" == Value.builtin "object.__getattribute__") = true then _ else _) _ _ _
  rw [z1, if_neg Bool.false_ne_true]
  unfold getAttrByItsOwn hookBefore
  refine wpAny_bind ?_
  rw [if_pos (show onTheHeap (Value.ref D) = true from rfl)]
  refine k2.at ?_
  refine wpAny_bind (wpAny_attempt (wpAny_holding ?_))
  unfold callGetattribute
  rw [z0, if_neg Bool.false_ne_true]
  unfold boundAndCalled
  rw [PySem.F.excAttr_ValueError.ga.bind (.ref x)]
  refine wpAny_bind (wpAny_pure ?_)
  show wpAny _ _ (call (.builtin "BaseException.__getattribute__") [.ref x, .str "__class__" t]) _ _ _
  refine wpAny_call (codeAny_call_builtin PySem.F.excAttr_ValueError.ga.plain PySem.F.entry_bexc_ga ?_)
  refine @check_slot (model prog w) _ _ ⟨hq0, g, d, t + 1, os⟩ "BaseException.__getattribute__" "BaseException" "__getattribute__" (.ref x) [.str "__class__" t] [] _ (by decide +kernel) (by decide +kernel) below (PySem.F.args_bexc_ga (.ref x) (.str "__class__" t)) ?_
  unfold Builtin.«object.__getattribute__»
  refine wpAny_bind (wpAny_of_eq (a := ((Value.ref x : Value), [Value.str "__class__" t])) (by first | rfl | (simp only [slotArgs]; rfl)) ?_)
  refine wpAny_bind (wpAny_pure (wpAny_bind (k0.at (wpAny_bind (k3.at ?_)))))
  show wpAny _ _ (holding [Value.builtin "object.__class__"] (call (.builtin "getset_descriptor.__get__") [.builtin "object.__class__", .ref x, .ref D]) >>= ret) _ _ _
  refine wpAny_bind (wpAny_holding (wpAny_call (class_get (s := ⟨hq0, g, d, t + 1, os⟩) (ox := ox) (od := od) X I dMro ?_)))
  refine wpAny_pure ?_
  show wpAny _ _ (handedOut (.ref D)) _ _ _
  rw [handedOut_of (v := .ref D) rfl]
  first
    | exact wpAny_pure (wpAny_pure h)
    | exact wpAny_pure h
    | exact wpAny_pure (wpAny_bind (wpAny_pure (wpAny_pure h)))
theorem kitx_excX (dGet : findIn K (.ref D) "__getattribute__" = some (some (.builtin "BaseException.__getattribute__"))) (dAlt : findIn K (.ref D) "__getattr__" = some none) (dSub : subIn K (.ref D) (.type "BaseException") = some true) (dDic : hasDictIn K D = true) (dCls : findIn K (.ref D) "__class__" = some (some (.builtin "object.__class__")))
    (dDes : specialIn K (.builtin "object.__class__") "__get__" = some (some (.builtin "getset_descriptor.__get__"))) (dTak : takesIn K (.builtin "object.__class__") = some true) (dMro : mroIn K D (.type "object") = some true) :
    KitX K (.ref x) (.ref D) (fun h => InstAt h x ox D od) where
  ty := fun _ _ _ I => I.type
  it := fun _ _ X _ => by
    obtain ⟨cdx, hcx, _⟩ := any_some dDic
    unfold clsIn at hcx
    split at hcx
    · rename_i c1 d1 cd1 sl1 hob
      intro A1 Q1 E1 s1 k q
      unfold isType loadHead
      exact wpAny_bind (wpAny_loadPart (k _ _ (X _ _ hob)) (wpAny_pure q))
    · cases hcx
  ne := fun h tp dd its n sl X htup => by
    obtain ⟨cdx, hcx, _⟩ := any_some dDic
    refine Bool.eq_false_iff.mpr fun q => ?_
    have e : D = tp := Value.ref.inj (beq_iff_eq.mp q)
    subst e
    unfold clsIn at hcx
    split at hcx
    · rename_i c1 d1 cd1 sl1 hob
      have z := (X _ _ hob).symm.trans htup
      cases z
    · cases hcx
  ca := fun X I k => kin_classX dGet dAlt dSub dDic dCls dDes dTak dMro X I k
end
end PySem.W
namespace RT
open PySem PySem.Spec PyProof.Rows L2
/-- a value's type, exceptions that were kept too -/
inductive TyY (K : PySem.W.Frag) (H : Hp) : V → Value → Prop where
  | base {x : V} {t : Value} (h : TyX K H x t) : TyY K H x t
  | exc0 {a D : Addr} (e : H a = some (ExT a (.ref D) none)) (c : ExcC K D) : TyY K H (.ref a) (.ref D)
  | exc1 {a D dd : Addr} {fs : List (Str × V)} (e : H a = some (ExT a (.ref D) (some dd))) (e2 : H dd = some (.xd fs)) (c : ExcC K D) : TyY K H (.ref a) (.ref D)
theorem exT_get {P : Program} {w : World} {H : Hp} {h : Heap} {a : Addr} {cls : Value} {d : Option Addr} (I : HOk P w H h) (e : H a = some (ExT a cls d)) : ∃ (oe : Obj) (vs : Array Value), h.get? a = some oe ∧ oe.cls = cls ∧ oe.dict = d ∧ oe.data = .fields vs := (I a _ e).1
section
variable {X : Cx} {pins : List (Addr × Obj)} {σ : L2.St} {H : Hp} {s : Shared}
theorem inst_of {a D : Addr} {d : Option Addr} {od : Option Obj} (I : Inv X pins σ H s) (e : H a = some (ExT a (.ref D) d)) (h : match d, od with | none, none => True | some dd, some o => s.heap.get? dd = some o | _, _ => False) : ∃ oe vs, PySem.W.InstAt s.heap a oe D od ∧ oe.data = .fields vs := by
  obtain ⟨oe, vs, he, h1, h2, h3⟩ := exT_get I.hok e
  refine ⟨oe, vs, ⟨he, h1, by unfold PySem.W.notCls; rw [h3] <;> rfl, ?_⟩, h3⟩
  rw [h2]
  cases d with
  | none =>
    cases od with
    | none => trivial
    | some o => exact h
  | some dd =>
    cases od with
    | none => exact h
    | some o => exact h
theorem kit_ofY {x : V} {u t : Value} (I : Inv X pins σ H s) (rx : RelV x u) (ty : TyY X.K H x t) : ∃ P : Heap → Prop, PySem.W.KitX X.K u t P ∧ P s.heap ∧ u ≠ .builtin "__main__.__loader__#opaque" := by
  cases ty with
  | base h => exact kit_of I rx h
  | @exc0 a D e c =>
    cases (show u = Value.ref a from rx)
    obtain ⟨oe, vs, J, _⟩ := inst_of (od := none) I e trivial
    exact ⟨_, PySem.W.kitx_excX c.hg c.hk c.hs c.hd c.ha c.hn c.ht c.hm, J, fun z => nomatch z⟩
  | @exc1 a D dd fs e e2 c =>
    cases (show u = Value.ref a from rx)
    obtain ⟨mA, hns, hr⟩ := (show ObjOk X.prog X.w H s.heap dd (.xd fs) from I.hok dd _ e2)
    obtain ⟨od, ho, _⟩ := lookIn_ns hns
    obtain ⟨oe, vs, J, _⟩ := inst_of (od := some od) I e ho
    exact ⟨_, PySem.W.kitx_excX c.hg c.hk c.hs c.hd c.ha c.hn c.ht c.hm, J, fun z => nomatch z⟩
/-- isinstance(x, c); isinstance(x, (c1, c2, ..)) -/
def rIsiY (K : PySem.W.Frag) : List V → Hp → VK → Prop := fun xs H Q => ∃ (x c : V) (t u : Value) (b : Bool), xs = [x, c] ∧ ClsV c u ∧ TyY K H x t ∧ PySem.W.kitOne K t u = some b ∧ Q (.bl b) H
def rIsiTY (K : PySem.W.Frag) : List V → Hp → VK → Prop := fun xs H Q => ∃ (x : V) (tp : Addr) (cs : List V) (t : Value) (us : List Value) (b : Bool), xs = [x, .ref tp] ∧ H tp = some (.tup cs) ∧ Paired ClsV cs us ∧ TyY K H x t ∧ PySem.W.kitAny K t us = some b ∧ Q (.bl b) H
theorem vals2' {x y : V} {us : List Value} (r : Vals [x, y] us) : ∃ u v, us = [u, v] ∧ RelV x u ∧ RelV y v := Vals.two r
theorem call_isiY : CallR X (.builtin "isinstance") (rIsiY X.K) := by
  intro pins s σ H xs us Q I r h
  obtain ⟨x, c, t, u, b, rfl, k, ty, e, q⟩ := h
  obtain ⟨u1, u2, rfl, r1, r2⟩ := vals2' r
  have e2 := k.eq r2
  subst e2
  obtain ⟨P, Z, p, hx⟩ := kit_ofY I r1 ty
  exact PySem.W.kia_one Z I.kIn p e hx fun tk => ⟨.bl b, H, I.tok tk, rfl, q⟩
theorem call_isiTY : CallR X (.builtin "isinstance") (rIsiTY X.K) := by
  intro pins s σ H xs us Q I r h
  obtain ⟨x, tp, cs, t, ws, b, rfl, hT, k, ty, e, q⟩ := h
  obtain ⟨u1, u2, rfl, r1, r2⟩ := vals2' r
  cases (show u2 = Value.ref tp from r2)
  obtain ⟨P, Z, p, hx⟩ := kit_ofY I r1 ty
  obtain ⟨_, its, rv, o, h1, h2, n, h3⟩ := (show ObjOk X.prog X.w H s.heap tp (.tup cs) from I.hok tp _ hT)
  have e3 := ClsV.all k rv
  subst e3
  obtain ⟨oc, od, dt, sl⟩ := o
  simp only at h2 h3
  subst h2 h3
  exact PySem.W.kia_tup Z I.kIn p h1 e hx fun tk => ⟨.bl b, H, I.tok tk, rfl, q⟩
/-- e.f of a kept exception -/
def tXfT (K : PySem.W.Frag) (f : Str) (te : TE) : TE := fun σ H Q => te σ H fun x H1 => ∃ (a C dd : Addr) (fs : List (Str × V)) (v : V), x = .ref a ∧ XfC K C ∧ PySem.W.findIn K (.ref C) f = some none ∧ H1 a = some (ExT a (.ref C) (some dd)) ∧ H1 dd = some (.xd fs) ∧ fs.lookup f = some v ∧ Q v H1
theorem pe_xfT {e : Expr} {te : TE} {pos : Pos} {n : Str} (he : PE X e te) (hb : attributeBase e n X.env (eval e X.env) = eval e X.env := by rfl) : PE X (.Attribute e n pos) (tXfT X.K n te) := by
  refine ⟨fun pins s σ H Q I h => ?_⟩
  refine attr_of hb (thn (he.run pins s σ H _ I h) fun u s1 hh => ?_)
  obtain ⟨x, H1, I1, rx, a, C, dd, fs, v, ex, T, hno, ea, ed, l, q⟩ := hh
  subst ex
  obtain rfl : u = Value.ref a := rx
  obtain ⟨mA, hns, hr⟩ := (show ObjOk X.prog X.w H1 s1.heap dd (.xd fs) from I1.hok dd _ ed)
  obtain ⟨od, ho, hl⟩ := lookIn_ns hns
  obtain ⟨u, hu, ru⟩ := RelO.some_of (v := v) (o := mA n) (by rw [← l]; exact hr n)
  obtain ⟨oe, vs, J, _⟩ := inst_of (od := some od) I1 ea ho
  exact HandSPX.exc_get I1.kIn J T.ga T.gg T.exC (PySem.W.findObj_own T.hdC hno rfl (by rw [hl, hu])) (handed_of ru) ⟨v, H1, I1.tok _, ru, q⟩
end
end RT

set_option Elab.async false
set_option linter.all false
set_option maxRecDepth 100000
set_option maxHeartbeats 4000000
namespace RT
open PySem PySem.Spec PyProof.Rows L2
section
variable {X : Cx} {e : Expr} {es : List Expr} {ta : TA} {p1 p2 pos : Pos}
/-- Base.__init__(self, ..), Base an own class over ValueError without an __init__ -/
theorem pe_ceinit {pl : Sem Bool} {x : Str} {C0 : Addr} {mc : Value} (hg : Gl X x) (hm : X.mg x = some (.ref C0)) (ga : PySem.W.specialIn X.K (.ref C0) "__getattribute__" = some (some (.builtin "type.__getattribute__")))
    (ty : PySem.W.typeIn X.K (.ref C0) = some mc) (hr : PySem.W.readsIn X.K C0 mc = true) (vV : PySem.W.findCls X.K (.ref C0) mc "__init__" = some (.val (.builtin "ValueError.__init__"))) (ha : PA X (e :: es) ta)
    (hc : eval (.Call (.Attribute (.Name x p1) "__init__" p2) (e :: es) [] pos) X.env = (do
      let ov ← eval (.Name x p1) X.env
      standAt p2.atName
      let (f, first) ← holding [ov] (getMethod ov "__init__" pl)
      callWith pos f first (backTo pos (starEach (e :: es) X.env)) (backToKw pos (keywordEach [] X.env))) := by rfl)
    (he : starEach (e :: es) X.env = (false, eval e X.env) :: starEach es X.env := by rfl) (hpl : (backTo pos (starEach es X.env)).any (·.1) = false := by rfl) (hdb : (x == ("__debug__" : Str)) = false := by decide) :
    PE X (.Call (.Attribute (.Name x p1) "__init__" p2) (e :: es) [] pos) (tVeI X.K ta) := by
  refine ⟨fun pins s σ H Q I h => ?_⟩
  refine PySem.W.methodCall_KW (ld_glob I hg hm ?_ hdb) hc
  obtain ⟨m, fr⟩ := I.fr
  refine PySem.W.method_of_cls fr I.ok.mod.kin ga (PySem.W.cls_val fr I.ok.mod.kin ty hr vV (by decide +kernel) ?_)
  show wpAny _ _ (callWith pos (Value.builtin "ValueError.__init__") [] (backTo pos (starEach (e :: es) X.env)) []) _ _ _
  refine PyProof.Rows.callWith_method1 (thn (ha.run pos pins _ σ H _ (I.tok _) h) fun us s1 ⟨vs, H1, I1, r1, a, C, ws, ev, hl, T, ea, q⟩ => ?_) he hpl
  subst ev
  cases r1 with
  | @cons _ u0 _ ur ra rw' =>
    obtain rfl : u0 = Value.ref a := ra
    have hlen : ur.length ≤ sizeLine := by
      rw [← Paired.length rw', sizeLine_eq]
      omega
    exact oinit_ok T I1 ea hlen fun s' J => ⟨.non, H1, J, rfl, q⟩
end
end RT

set_option Elab.async false
set_option linter.all false
set_option maxRecDepth 100000
set_option maxHeartbeats 4000000
/-! further rules: repr of an int or None, {x} of None, max(.., default=), powers of greater ints, s * n -/
namespace RT
open PySem PySem.Spec PyProof.Rows L2
section
variable {X : Cx}
theorem vals1' {x : V} {us : List Value} (r : Vals [x] us) : ∃ u, us = [u] ∧ RelV x u := Vals.one r
/-- repr(n), repr(None) -/
def rRepr0 : List V → Hp → VK → Prop := fun xs H Q => (∃ i, xs = [.int i] ∧ i.natAbs.log2 < 1920 ∧ Q (.str (toString i)) H) ∨ (xs = [.non] ∧ Q (.str "None") H)
theorem call_repr0 : CallR X (.builtin "repr") rRepr0 := by
  intro pins s σ H xs us Q I r h
  rcases h with ⟨i, rfl, hz, q⟩ | ⟨rfl, q⟩
  · obtain ⟨u, rfl, t, rfl⟩ := vals1' r
    exact PySem.P.repr_of_int hz ⟨.str _, H, I.tok _, ⟨_, rfl⟩, q⟩
  · obtain ⟨u, rfl, e⟩ := vals1' r
    obtain rfl : u = Value.none := e
    exact PySem.P.repr_of_none ⟨.str _, H, I.tok _, ⟨_, rfl⟩, q⟩
/-- {x}: a text, an int, None -/
def tFmt0 (te : TE) : TE := fun σ H Q => te σ H fun x H1 => (∃ y : Str, x = .str y ∧ y.length ≤ sizeLine ∧ Q (.str y) H1) ∨ (∃ i : Int, x = .int i ∧ i.natAbs.log2 < 1920 ∧ Q (.str (toString i)) H1) ∨ (x = .non ∧ Q (.str "None") H1)
theorem pe_fmt0 {e : Expr} {te : TE} {pos : Pos} (he : PE X e te) : PE X (.FormattedValue e (-1) none pos) (tFmt0 te) := by
  refine ⟨fun pins s σ H Q I h => ?_⟩
  refine wpAny_FormattedValue_plain (thn (he.run pins s σ H _ I h) fun v s1 hv => ?_)
  obtain ⟨x, H1, I1, r1, q⟩ := hv
  rcases q with ⟨y, rfl, hz, q⟩ | ⟨i, rfl, hz, q⟩ | ⟨rfl, q⟩
  · obtain ⟨t, rfl⟩ := r1
    exact wpAny_formatField_str ⟨.str y, H1, I1, ⟨t, rfl⟩, q⟩ ⟨.str y, H1, I1.tok _, ⟨_, rfl⟩, q⟩ hz
  · obtain ⟨t, rfl⟩ := r1
    exact wpAny_formatField_int hz ⟨.str (toString i), H1, I1.tok _, ⟨_, rfl⟩, q⟩
  · obtain rfl : v = Value.none := r1
    exact wpAny_formatField_none ⟨.str _, H1, I1.tok _, ⟨_, rfl⟩, q⟩
/-- max(xs, default=d) of ints -/
def maxI (d : Int) : List Int → Int
  | [] => d
  | n :: ns => ns.foldl max n
def rMaxD (K : PySem.W.Frag) : List V → List V → Hp → VK → Prop := fun xs zs H Q => ∃ (a : Addr) (ns : List Int) (d : Int), xs = [.ref a] ∧ zs = [.int d] ∧ SqL K H a (ns.map V.int) ∧ Q (.int (maxI d ns)) H
theorem alike_ints (ns : List Int) : PySem.W.AlikeAll (ns.map PyData.int) := by
  refine ⟨fun x hx y hy => ?_, fun x hx => ?_⟩
  · obtain ⟨i, _, rfl⟩ := List.mem_map.mp hx
    obtain ⟨j, _, rfl⟩ := List.mem_map.mp hy
    rfl
  · obtain ⟨i, _, rfl⟩ := List.mem_map.mp hx
    exact fun z => nomatch z
theorem depth_ints : ∀ ns : List Int, PyData.depthAll (ns.map PyData.int) ≤ 1
  | [] => by simp [PyData.depthAll]
  | n :: ns => by
    have h := depth_ints ns
    simp only [List.map_cons, PyData.depthAll, PyData.depth]
    omega
theorem crk_maxD (hc : X.calm = true) (hu : X.A.units + 64 < cLine) : CallRK X (.builtin "max") ["default"] (rMaxD X.K) := by
  intro pins s σ H xs zs us ws Q I rx rz h
  obtain ⟨a, ns, d, rfl, rfl, hs, q⟩ := h
  obtain ⟨u, rfl, e⟩ := vals1' rx
  obtain rfl : u = Value.ref a := e
  obtain ⟨z, rfl, t, rfl⟩ := vals1' rz
  obtain ⟨its, rv, hl0, _⟩ := I.list hs
  have hl := hl0.isList
  have hr := PySem.W.readsAll_of_ints (h := s.heap) rv.ints
  have hd := depth_ints ns
  refine PySem.W.max_list_default (I.ok.hd hc) hl (by simpa using hr) (alike_ints ns) (by omega) (fun e0 h' tk k => ?_) fun y ys i v h' tk bs e hv hR k => ?_
  · have en : ns = [] := List.map_eq_nil_iff.mp e0
    subst en
    exact ⟨.int d, H, I.kept k, ⟨_, rfl⟩, q⟩
  · cases ns with
    | nil => cases e
    | cons n ns =>
      obtain ⟨rfl, rfl⟩ := List.cons.inj e
      rw [PySem.W.maxD_ints] at hR
      cases hR
      exact ⟨.int _, H, I.kept k, ⟨_, rfl⟩, q⟩
/-- a ** b of greater ints -/
def CPowW (i j : Int) : Prop := 0 ≤ j ∧ (Builtin.Int.intBits i : Int) * j ≤ 2 ^ 27
theorem op_powW : OpR X (binaryOp .Pow) (rI CPowW fun i j => .int (i ^ j.toNat)) := opI fun _ _ _ _ _ _ _ hc q => PyProof.Rows.pow_int hc.1 hc.2 q
/-- s * n -/
def rMulS : R2 := fun x y H Q => ∃ z n, x = .str z ∧ y = .int n ∧ PySem.MulOk z n ∧ Q (.str (PySem.Txt.mul z n)) H
theorem op_mulS : OpR X (binaryOp .Mult) rMulS := by
  intro pins s σ H x y v u Q I rx ry h
  obtain ⟨z, n, rfl, rfl, ok, q⟩ := h
  obtain ⟨t, rfl⟩ := rx
  obtain ⟨t', rfl⟩ := ry
  exact SB.mul ok fun t2 k => ⟨.str _, H, I.tok k, ⟨_, rfl⟩, q⟩
end
end RT

set_option Elab.async false
set_option linter.all false
set_option maxRecDepth 100000
set_option maxHeartbeats 4000000
/-! operators, len, in, == by an own class's methods -/
namespace PySem.W
open Lean Elab Tactic Meta PySem PySem.Calls PyProof.Rows
section
variable {prog : Program} {w : World} {A : Around} {E : Value → Shared → Prop} {s : Shared} {K : Frag} {x C L f : Addr} {h₀ : Heap} {m : Str → Option Value} {ox : Obj} {od : Option Obj} {T : String}
theorem rt_binT {op : Operator} {b : Value} {fo ro rc : Option Value} {Q : Value → Shared → Prop} (F : Fr h₀ L s.heap m) (X₀ : K.In h₀) (I : InstAt s.heap x ox C od) (bT : Looks (model prog w) s.heap (typeOf b) (.type T)) (cF : selfFirst K C = true)
    (sF : findIn K (.ref C) (PySem.dunder op.info.2) = some (some (.ref f))) (fF : isFn K (.ref f) = true) (rF : findIn K (.ref C) (dunderR op.info.2) = some rc) (pF : rc = none ∨ ∃ g : Addr, rc = some (.ref g))
    (h1 : findIn K (.type T) (PySem.dunder op.info.2) = some fo) (h2 : findIn K (.type T) (dunderR op.info.2) = some ro) (uF : subIn K (.type T) (.ref C) = some false)
    (h : wpAny (model prog w) A (call (.ref f) [.ref x, b]) (CmpBack Q) E s) : wpAny (model prog w) A (binaryOp op (.ref x) b) Q E s := by
  have X := X₀.keeps F.keep
  obtain ⟨cdx, more, cdE, mroE⟩ := ksp_first cF
  rcases inf : op.info with ⟨sym, nm1⟩
  rw [inf] at sF rF h1 h2
  dsimp only at sF rF h1 h2
  have tried := ksp_try X I sF fF h
  obtain ⟨hp0, g, d, tk0, os⟩ := s
  have k1 : Looks (model prog w) hp0 (typeOf (.ref x)) (.ref C) := I.type
  have k2 : Looks (model prog w) hp0 (typeOf b) (.type T) := bT
  have k3 : Looks (model prog w) hp0 (fillsNumberSlot (.ref C) nm1) true := fills_K X cdE mroE sF
  have k4 : Looks (model prog w) hp0 (fillsNumberSlot (.type T) nm1) ((fo.isSome && !isSeqSlot fo) || (ro.isSome && !isSeqSlot ro)) := ksp_fillsT X h1 h2
  have k5 : Looks (model prog w) hp0 (isSubtype (.type T) (.ref C)) false := looks_subIn X uF
  have k6 : Looks (model prog w) hp0 (numberSlotInPython (.ref C) nm1) true := ksp_inPy X sF rF pF
  have k7 : Looks (model prog w) hp0 (numberSlotInPython (.type T) nm1) false := Looks.of_pure rfl
  have k8 : Looks (model prog w) hp0 (typeLookup (.type T) (dunderR nm1)) ro := looks_findIn X h2
  generalize ((fo.isSome && !isSeqSlot fo) || (ro.isSome && !isSeqSlot ro)) = side at k4
  have apart : (Value.ref C == Value.type T) = false := Bool.eq_false_iff.mpr fun q => by cases beq_iff_eq.mp q
  simp only [binaryOp, inf]
  refine wpAny_holding (wpAny_bind ?_)
  unfold binaryOp1
  refine wpAny_bind (k1.at (wpAny_bind (k2.at (wpAny_bind (k3.at ?_)))))
  simp only [apart, Bool.false_eq_true, if_false]
  cases side with
  | false =>
    ksp_lk
    refine wpAny_mono tried (fun r s' hrr => ?_) fun _ _ e => e
    obtain ⟨v, rfl, hqq⟩ := hrr
    ksp_lk
    exact hqq
  | true =>
    ksp_lk
    refine wpAny_mono tried (fun r s' hrr => ?_) fun _ _ e => e
    obtain ⟨v, rfl, hqq⟩ := hrr
    ksp_lk
    exact hqq
end
end PySem.W
namespace RT
open PySem PySem.Spec PyProof.Rows L2
section
variable {X : Cx} {CX : CXT} {k : Nat} {C f : Addr} {fd : FuncData} {ps : List Str} {sp : Sp} {E : XK}
/-- what is asked of an own operator's class beside its method, for a right operand of a built-in type -/
structure RightT (K : PySem.W.Frag) (C : Addr) (op : Operator) (T : String) : Prop where
  r0 : PySem.W.findIn K (.ref C) (dunderR op.info.2) = some none
  t1 : ∃ fo, PySem.W.findIn K (.type T) (PySem.dunder op.info.2) = some fo
  t2 : ∃ ro, PySem.W.findIn K (.type T) (dunderR op.info.2) = some ro
  sb : PySem.W.subIn K (.type T) (.ref C) = some false
/-- x op y, x an instance of the class at C, y one too, or of a built-in type -/
def rBinO (K : PySem.W.Frag) (C : Addr) (op : Operator) (sp : Sp) (E : XK) : R2 := fun x y H Q => ∃ a dx fs, x = .ref a ∧ H a = some (.ins C dx fs) ∧ ((∃ b dy gs, y = .ref b ∧ H b = some (.ins C dy gs)) ∨ ∃ T, TyY K H y (.type T) ∧ RightT K C op T) ∧ sp [x, y] H Q E
theorem op_binO {op : Operator} (hc : PySem.W.selfFirst X.K C = true) (hm : Meth X.K C (PySem.dunder op.info.2) f) (F : FnOk X.prog X.w X.K X.mg X.base CX k f fd ps sp) (hr : Room k X.A) (hb : Binds X.K fd ps []) (hx : Passes CX X E) : OpR X (binaryOp op) (rBinO X.K C op sp E) := by
  intro pins s σ H x y v u Q I rx ry h
  obtain ⟨a, dx, fs, rfl, ea, ty, q⟩ := h
  cases (show v = Value.ref a from rx)
  obtain ⟨mA, O, _⟩ := ins_get I.hok ea
  obtain ⟨od, J, _⟩ := O.look
  obtain ⟨m, hF⟩ := I.fr
  have go : wpAny (model X.prog X.w) X.A (call (.ref f) [.ref a, u]) (PySem.W.CmpBack (EP X pins σ Q)) X.xe s := by
    refine wpAny_mono (run_fn (ds := []) (dvs := []) F hr hb .nil hx I (vs := [.ref a, y]) (.cons rfl (.cons ry .nil)) q) (fun w s' z => ?_) fun _ _ x => x
    obtain ⟨z', H', I', rz, qz⟩ := z
    exact SlX.cmpback rz ⟨z', H', I', rz, qz⟩
  rcases ty with ⟨b, dy, gs, rfl, eb⟩ | ⟨T, ty, R⟩
  · cases (show u = Value.ref b from ry)
    obtain ⟨mB, O', _⟩ := ins_get I.hok eb
    obtain ⟨od', J', _⟩ := O'.look
    exact PySem.W.binop_K hF I.ok.mod.kin J J'.type hc hm.at_ hm.fn go
  · obtain ⟨P, Z, p, _⟩ := kit_ofY I ry ty
    obtain ⟨fo, t1⟩ := R.t1
    obtain ⟨ro, t2⟩ := R.t2
    exact PySem.W.rt_binT hF I.ok.mod.kin J (Z.ty _ _ I.kIn p) hc hm.at_ hm.fn R.r0 (.inl rfl) t1 t2 R.sb go
/-- -x, ~x -/
def rUnO (C : Addr) (sp : Sp) (E : XK) : V → Hp → VK → Prop := fun x H Q => ∃ a dx fs, x = .ref a ∧ H a = some (.ins C dx fs) ∧ sp [x] H Q E
theorem un_negO (hm : Meth X.K C "__neg__" f) (F : FnOk X.prog X.w X.K X.mg X.base CX k f fd ps sp) (hr : Room k X.A) (hb : Binds X.K fd ps []) (hx : Passes CX X E) : UnR X (unaryOp .USub) (rUnO C sp E) := by
  intro pins s σ H x v Q I rx h
  obtain ⟨a, dx, fs, rfl, ea, q⟩ := h
  cases (show v = Value.ref a from rx)
  obtain ⟨mA, O, _⟩ := ins_get I.hok ea
  obtain ⟨od, J, _⟩ := O.look
  obtain ⟨m, hF⟩ := I.fr
  exact PySem.W.ksp_neg hF I.ok.mod.kin J hm.at_ hm.fn (run_fn (ds := []) (dvs := []) F hr hb .nil hx I (vs := [.ref a]) (.cons rfl .nil) q)
theorem un_invO (hm : Meth X.K C "__invert__" f) (F : FnOk X.prog X.w X.K X.mg X.base CX k f fd ps sp) (hr : Room k X.A) (hb : Binds X.K fd ps []) (hx : Passes CX X E) : UnR X (unaryOp .Invert) (rUnO C sp E) := by
  intro pins s σ H x v Q I rx h
  obtain ⟨a, dx, fs, rfl, ea, q⟩ := h
  cases (show v = Value.ref a from rx)
  obtain ⟨mA, O, _⟩ := ins_get I.hok ea
  obtain ⟨od, J, _⟩ := O.look
  obtain ⟨m, hF⟩ := I.fr
  exact PySem.W.ksp_inv hF I.ok.mod.kin J hm.at_ hm.fn (run_fn (ds := []) (dvs := []) F hr hb .nil hx I (vs := [.ref a]) (.cons rfl .nil) q)
/-- x == y by x's own __eq__, y of any kind that does not go first -/
def rEqO (K : PySem.W.Frag) (C : Addr) (sp : Sp) (E : XK) : R2 := fun x y H Q => ∃ a dx fs t, x = .ref a ∧ H a = some (.ins C dx fs) ∧ ((∃ b dy gs, y = .ref b ∧ H b = some (.ins C dy gs) ∧ t = .ref C) ∨ TyY K H y t) ∧ PySem.W.notFirst K C t = true ∧ sp [x, y] H Q E
theorem op_eqO {op : CmpOp} (hop : ∀ a b, compareOp op a b = richCompare op a b) (hm : Meth X.K C (cmpInfo op).2.1 f) (F : FnOk X.prog X.w X.K X.mg X.base CX k f fd ps sp) (hr : Room k X.A) (hb : Binds X.K fd ps []) (hx : Passes CX X E) :
    OpR X (compareOp op) (rEqO X.K C sp E) := by
  intro pins s σ H x y v u Q I rx ry h
  obtain ⟨a, dx, fs, t, rfl, ea, ty, hn, q⟩ := h
  cases (show v = Value.ref a from rx)
  obtain ⟨mA, O, _⟩ := ins_get I.hok ea
  obtain ⟨od, J, _⟩ := O.look
  obtain ⟨m, hF⟩ := I.fr
  have L : PySem.W.Looks (model X.prog X.w) s.heap (typeOf u) t := by
    rcases ty with ⟨b, dy, gs, rfl, eb, rfl⟩ | ty
    · cases (show u = Value.ref b from ry)
      obtain ⟨mB, O', _⟩ := ins_get I.hok eb
      obtain ⟨od', J', _⟩ := O'.look
      exact J'.type
    · obtain ⟨P, Z, p, _⟩ := kit_ofY I ry ty
      exact Z.ty _ _ I.kIn p
  rw [hop]
  refine PySem.W.cmp_K (op := op) (tb := t) hr.units0 hF I.ok.mod.kin J L hn hm.at_ hm.fn ?_
  refine wpAny_mono (run_fn (ds := []) (dvs := []) F hr hb .nil hx I (vs := [.ref a, y]) (.cons rfl (.cons ry .nil)) q) (fun w s' z => ?_) fun _ _ x => x
  obtain ⟨z', H', I', rz, qz⟩ := z
  exact SlX.cmpback rz ⟨z', H', I', rz, qz⟩
/-- y in x by x's own __contains__, which hands back a bool -/
def rInO (C : Addr) (sp : Sp) (E : XK) (neg : Bool) : R2 := fun y x H Q => ∃ a dx fs, x = .ref a ∧ H a = some (.ins C dx fs) ∧ sp [x, y] H (fun v H' => ∃ b, v = .bl b ∧ Q (.bl (if neg then !b else b)) H') E
theorem op_inO (hm : Meth X.K C "__contains__" f) (F : FnOk X.prog X.w X.K X.mg X.base CX k f fd ps sp) (hr : Room k X.A) (hb : Binds X.K fd ps []) (hx : Passes CX X E) : OpR X (compareOp .In) (rInO C sp E false) := by
  intro pins s σ H y x u v Q I ry rx h
  obtain ⟨a, dx, fs, rfl, ea, q⟩ := h
  cases (show v = Value.ref a from rx)
  obtain ⟨mA, O, _⟩ := ins_get I.hok ea
  obtain ⟨od, J, _⟩ := O.look
  obtain ⟨m, hF⟩ := I.fr
  refine PySem.W.in_K hF I.ok.mod.kin J hm.at_ hm.fn (wpAny_mono (run_fn (ds := []) (dvs := []) F hr hb .nil hx I (vs := [.ref a, y]) (.cons rfl (.cons ry .nil)) q) (fun w s' z => ?_) fun _ _ x => x)
  obtain ⟨z', H', I', rz, b, rfl, qz⟩ := z
  cases (show w = Value.bool b from rz)
  exact wpAny_truthy_bool ⟨.bl b, H', I', rfl, qz⟩
theorem op_notInO (hm : Meth X.K C "__contains__" f) (F : FnOk X.prog X.w X.K X.mg X.base CX k f fd ps sp) (hr : Room k X.A) (hb : Binds X.K fd ps []) (hx : Passes CX X E) : OpR X (compareOp .NotIn) (rInO C sp E true) := by
  intro pins s σ H y x u v Q I ry rx h
  obtain ⟨a, dx, fs, rfl, ea, q⟩ := h
  cases (show v = Value.ref a from rx)
  obtain ⟨mA, O, _⟩ := ins_get I.hok ea
  obtain ⟨od, J, _⟩ := O.look
  obtain ⟨m, hF⟩ := I.fr
  refine PySem.W.notIn_K hF I.ok.mod.kin J hm.at_ hm.fn (wpAny_mono (run_fn (ds := []) (dvs := []) F hr hb .nil hx I (vs := [.ref a, y]) (.cons rfl (.cons ry .nil)) q) (fun w s' z => ?_) fun _ _ x => x)
  obtain ⟨z', H', I', rz, b, rfl, qz⟩ := z
  cases (show w = Value.bool b from rz)
  exact wpAny_truthy_bool ⟨.bl (!b), H', I', rfl, qz⟩
/-- len(x) by x's own __len__ -/
def rLenO (C : Addr) (sp : Sp) (E : XK) : List V → Hp → VK → Prop := fun xs H Q => ∃ a dx fs, xs = [.ref a] ∧ H a = some (.ins C dx fs) ∧ sp [.ref a] H (fun v H' => ∃ n, v = .int n ∧ 0 ≤ n ∧ n < 2 ^ 63 ∧ Q (.int n) H') E
theorem call_lenO (hm : Meth X.K C "__len__" f) (F : FnOk X.prog X.w X.K X.mg X.base CX k f fd ps sp) (hr : Room (k + 1) X.A) (hb : Binds X.K fd ps []) (hx : Passes CX X E) : CallR X (.builtin "len") (rLenO C sp E) := by
  intro pins s σ H xs us Q I r h
  obtain ⟨a, dx, fs, rfl, ea, q⟩ := h
  obtain ⟨u, rfl, ru⟩ := vals1' r
  cases (show u = Value.ref a from ru)
  obtain ⟨mA, O, _⟩ := ins_get I.hok ea
  obtain ⟨od, J, _⟩ := O.look
  obtain ⟨m, hF⟩ := I.fr
  have r2 : Vals [V.ref a] [Value.ref a] := .cons rfl .nil
  have hl : ([Value.ref a] : List Value).length = ps.length := by
    rw [← r2.length]
    exact F.len _ _ _ _ q
  refine PySem.W.len_K hF I.ok.mod.kin J hm.at_ hm.fn (wpAny_call (codeAny_mono (F.run X.A.in1 X.stack s H ⟨[.ref a], []⟩ [.ref a] [.ref a] _ E hr.in1 I.env0.in1 (by simpa using hb s [.ref a] I.kIn (by simpa using hl)) r2 q) fun r s' hq => ?_))
  cases r with
  | error er => exact hx pins σ H s er s' I hq
  | ok fl =>
    cases fl with
    | ret u =>
      obtain ⟨v, H', I', rv, n, rfl, n0, n1, qz⟩ := I.after hq
      obtain ⟨t, rfl⟩ := (show ∃ t, u = Value.int n t from rv)
      exact ⟨⟨n0, n1⟩, .int n, H', I'.tok _, ⟨_, rfl⟩, qz⟩
    | next => exact False.elim hq
    | brk => exact False.elim hq
    | cont => exact False.elim hq
end
end RT

set_option Elab.async false
set_option linter.all false
set_option maxRecDepth 100000
set_option maxHeartbeats 4000000
/-! defs that are called where nothing is being shown: repr of lists and tuples -/
namespace RT
open PySem PySem.Spec PyProof.Rows L2
/-- as FnOk, where no repr runs around -/
structure FnG (P : Program) (w : World) (K : PySem.W.Frag) (mg : Str → Option Value) (base : Heap) (CX : CXT) (k : Nat) (f : Addr) (fd : FuncData) (ps : List Str) (sp : Sp) : Prop where
  len : ∀ vs H Q E, sp vs H Q E → vs.length = ps.length
  go : ∀ (A : Around) (outer : List Env) (s : Shared) (H : Hp) (args : Args) (us : List Value) (vs : List V) (Q : VK) (E : XK), A.guards = some [] → Room k A → Env0 P w K mg base A outer s H → BindsTo s fd args (ps.zip us) → Vals vs us → sp vs H Q E →
    codeAny (model P w) A (.call (.ref f) args) (CR CX outer P w H s Q E) s
theorem FnG.of {P : Program} {w : World} {K : PySem.W.Frag} {mg : Str → Option Value} {base : Heap} {CX : CXT} {k : Nat} {f : Addr} {fd : FuncData} {ps : List Str} {sp : Sp} (F : FnOk P w K mg base CX k f fd ps sp) : FnG P w K mg base CX k f fd ps sp :=
  ⟨F.len, fun A outer s H args us vs Q E _ => F.run A outer s H args us vs Q E⟩
theorem fnG_of {CX : CXT} {P : Program} {w : World} {K : PySem.W.Frag} {mg : Str → Option Value} {base : Heap} {k : Nat} {f : Addr} {name qual : Str} {params : Arguments} {body : List Stmt} {scope : Scope} {dV kV doc pm cdv ct oc : Value} {an od : Option Addr}
    {osl : Array (Option Value)} {N ps : List Str} {sp : Sp} (at_ : K.lookup f = some ⟨oc, od, .func (PySem.W.fnOf name qual params body scope dV kV doc pm an cdv ct), osl⟩) (code : PySem.W.codeIn K cdv qual = true) (S : FnScope N ps scope)
    (len : ∀ vs H Q E, sp vs H Q E → vs.length = ps.length)
    (walk : ∀ (A : Around) (outer : List Env) (s : Shared) (H : Hp) (vs : List V) (Q : VK) (E : XK), A.guards = some [] → Room k (A.deeper (envOfC qual scope s.heap.objs.size f cdv)) → sp vs H Q E →
      ∃ t, PSs (cxOf CX P w K mg base N qual scope f cdv A outer s H E) body t ∧ t { nx := fun _ H' => Q .non H', rt := Q } (start N vs) H) :
    FnG P w K mg base CX (k + 1) f (PySem.W.fnOf name qual params body scope dV kV doc pm an cdv ct) ps sp where
  len := len
  go := fun A outer s H args us vs Q E hg room env binds vals said => by
    have size := len _ _ _ _ said
    have here : K.In s.heap := env.mod.kin.keeps fun b o e => (env.bs b o e).1
    have free : s.heap.NoLimit := env.mod.nolimit.keeps fun b o e => (env.bs b o e).1
    have kinds : ∀ y ∈ ps.zip us, scope.names.lookup y.1 = some .local ∨ (scope.names.lookup y.1 = some .cell ∧ ((cellsFrom (s.heap.objs.size + 1) scope.names []).lookup y.1).isSome = true) := by
      rintro ⟨n, v⟩ hy
      exact (S.par n (List.of_mem_zip hy).1).imp id fun q => ⟨q, PySem.W.cellsFrom_some _ _ _ (.inl q)⟩
    refine codeAny_call_function room.depth (here _ _ at_) rfl S.co S.gen rfl (PySem.W.codeRec_of here code) (binds _ _ _ _ ?_)
    refine wpAny_newFunctionEnv_cells S.kind kinds fun e1 he s1 x => ?_
    subst he
    obtain ⟨t, ht, hq⟩ := walk A outer s H vs Q E hg (room.deeper _) said
    refine ⟨free.keeps x.toInCall.keep, codeAny_func ?_⟩
    refine wpAny_mono (ht.run [] s1 (start N vs) H _ (inv_start S room.hd env size vals x) hq) (fun fl s' done => ?_) fun _ _ z => z
    match fl, done with
    | .ret u, ⟨v, _, H', J, rv, q⟩ => exact ⟨v, H', J.os, J.bare, J.base, J.hok, rv, q⟩
    | .next, ⟨_, H', J, q⟩ => exact ⟨V.non, H', J.os, J.bare, J.base, J.hok, rfl, q⟩
    | .brk, ⟨_, _, _, q⟩ => exact q.elim
    | .cont, ⟨_, _, _, q⟩ => exact q.elim
section
variable {P : Program} {w : World} {K : PySem.W.Frag} {mg : Str → Option Value} {base : Heap} {CX : CXT}
/-- a def of the text keeps its promise where nothing is being shown -/
theorem okG {x qual : Str} {pa : Arguments} {bd : List Stmt} {sc : Scope} {dvs : List V} {kws : List (Str × V)} {f : Addr} {fd : FuncData} {N ps : List Str} {k : Nat} {sp : Sp} (F : FunD K x qual pa bd sc dvs kws f fd) (S : FnScope N ps sc) (len : ∀ vs H Q E, sp vs H Q E → vs.length = ps.length)
    (walk : ∀ (cdv : Value) (A : Around) (outer : List Env) (s : Shared) (H : Hp) (vs : List V) (Q : VK) (E : XK), A.guards = some [] → Room k (A.deeper (envOfC qual sc s.heap.objs.size f cdv)) → sp vs H Q E →
      ∃ t, PSs (cxOf CX P w K mg base N qual sc f cdv A outer s H E) bd t ∧ t { nx := fun _ H' => Q .non H', rt := Q } (start N vs) H) : FnG P w K mg base CX (k + 1) f fd ps sp := by
  obtain ⟨oc, od, dV, kV, doc, pm, an, cdv, ct, osl, rfl, lk, hcd, _, _⟩ := F.ex
  exact fnG_of lk hcd S len fun A outer s H vs Q E hg hr h => walk cdv A outer s H vs Q E hg hr h
end
section
variable {X : Cx} {CX : CXT} {k : Nat} {f : Addr} {fd : FuncData} {ps : List Str} {sp : Sp} {dvs : List V} {ds : List Value} {E : XK} {e : Expr} {es : List Expr} {t : TA} {x : Str} {p pos : Pos}
theorem pe_callG (F : FnG X.prog X.w X.K X.mg X.base CX k f fd ps sp) (hG : X.A.guards = some []) (hr : Room k X.A) (hg : Gl X x) (hm : X.mg x = some (.ref f)) (hk : PySem.W.keepIn X.K (.ref f) = true) (hb : Binds X.K fd ps ds) (hd : Vals dvs ds) (hx : Passes CX X E)
    (ha : PA X (e :: es) t) (hdb : (x == ("__debug__" : Str)) = false := by decide) (he : starEach (e :: es) X.env = (false, eval e X.env) :: starEach es X.env := by rfl) (hpl : (backTo pos (starEach es X.env)).any (·.1) = false := by rfl) :
    PE X (.Call (.Name x p) (e :: es) [] pos) (tCall sp dvs E t) := by
  refine ⟨fun pins s σ H Q I h => wpAny_Call_Name_kw (ld_glob I hg hm ?_ hdb)⟩
  refine PySem.W.callWith_K (h₀ := X.base) I.ok.mod.kin hk (thn (ha.run pos pins s σ H _ I h) fun us s1 ⟨vs, H1, I1, r, q⟩ => ⟨I1.kIn, ?_⟩) he hpl
  have r2 := r.append hd
  have hl : (us ++ ds).length = ps.length := r2.length.symm.trans (F.len _ _ _ _ q)
  refine wpAny_call (codeAny_mono (F.go X.A X.stack s1 H1 ⟨us, []⟩ (us ++ ds) (vs ++ dvs) Q E hG hr I1.env0 (hb s1 us I1.kIn hl) r2 q) fun r s' hq => ?_)
  match r, hq with
  | .error e, hq => exact hx pins σ H1 s1 e s' I1 hq
  | .ok (.ret u), hq => exact I1.after hq
/-- repr of data at any depth -/
def rReprD (K : PySem.W.Frag) : List V → Hp → VK → Prop := fun xs H Q => ∃ (a : Addr) (d : PyData), xs = [.ref a] ∧ Dp K H (.ref a) d ∧ d.showable = true ∧ d.hasDict = false ∧ d.depth ≤ 40 ∧ d.shown.length ≤ sizeLine ∧ Q (.str d.shown) H
theorem call_reprD (hG : X.A.guards = some []) (hu : X.A.units + 64 < cLine) : CallR X (.builtin "repr") (rReprD X.K) := by
  intro pins s σ H xs us Q I r h
  obtain ⟨a, d, rfl, D, hs, hd, hz, hl, q⟩ := h
  obtain ⟨u, rfl, ru⟩ := vals1' r
  obtain ⟨as, rd⟩ := Dp.reads I d _ _ D ru
  cases (show u = Value.ref a from ru)
  exact repr_of_reads' rd hs (PyData.noDict_hsm hd) hG (by omega) (fun _ _ e => e) (fun h' u tk k => ⟨.str d.shown, H, I.kept k, ⟨u, rfl⟩, q⟩) hl
end
/-! ### the law's own call -/
/-- the abstract heap at the law's entry: the script's list, locked -/
def scriptH (a : Addr) (vs : List Value) (ns : List Int) : Hp := fun b => if b = a then some (.frz { cls := .type "list", data := .seq vs.toArray } (.lst (ns.map V.int))) else none
section
variable {P : Program} {w : World} {K : PySem.W.Frag} {mg mb : Str → Option Value} {CX : CXT} {k : Nat} {fa a : Addr} {fd : FuncData} {x : Str} {sp : Sp} {s : Shared} {vs : List Value} {ns : List Int}
theorem enterG (H : Hp) (alone : ∀ b u, H b = some u → b = a ∧ ∃ o xs, u = .frz o (.lst xs)) (free : ∀ b, H b ≠ none → K.lookup b = none) (hok : HOk P w H s.heap)
    (KX : K.In s.heap) (gl : s.heap.Ns mainGlobals mg) (bl : s.heap.Ns builtinsNs mb) (bb : ∀ x : Str, x ≠ "__name__" → mb x = bootBuiltins x) (lim : s.heap.NoLimit) (gn : s.gens = #[]) (room : Room k callerA)
    (F : ∀ base : Heap, K.In base → base.Ns mainGlobals mg → FnG P w K mg base CX k fa fd [x] sp) (binds : ∀ (s : Shared) (u : Value), BindsTo s fd ⟨[u], []⟩ [(x, u)]) (said : sp [.ref a] H (fun v _ => v = .bl true) fun _ _ _ => False)
    (noX : ∀ e s', CX [] H s (fun _ _ _ => False) e s' → False) :
    codeAny (model P w) callerA (.call (.ref fa) ⟨[.ref a], []⟩) (fun r s' => r = .ok (.ret (.bool true)) ∧ OldK s.heap s'.heap ∧ s'.os = s.os ∧ AllBare s'.gens) s := by
  have noDict : ∀ {b : Addr} {o : Obj} {es : Array DictEntry} {n : Nat}, s.heap.get? b = some o → o.data = .dict es n → H b = none := fun {b o es n} e d => by
    cases q : H b with
    | none => rfl
    | some u =>
      obtain ⟨_, ob, xs, rfl⟩ := alone b u q
      obtain ⟨e1, _, its, m, _, e2⟩ := (show ObjOk P w H s.heap b (.frz ob (.lst xs)) from hok b _ q)
      rw [e] at e2
      cases e2
      cases d
  have ns_ : ∀ {b : Addr} {m : Str → Option Value}, s.heap.Ns b m → (hidT s.heap H).Ns b m := fun {b m} ⟨o, es, n, e, d, r⟩ => ⟨o, es, n, hidT_get e (noDict e d), d, r⟩
  have kb : K.In (hidT s.heap H) := fun b o e => hidT_get (KX b o e) (by
    cases q : H b with
    | none => rfl
    | some u =>
      have z := free b (by rw [q]; exact fun z => nomatch z)
      rw [e] at z
      cases z)
  have md : Mod K mg (hidT s.heap H) := ⟨kb, ns_ gl, ⟨mb, ns_ bl, bb⟩, by
    obtain ⟨mc, h1, h2⟩ := lim
    exact ⟨mc, ns_ h1, h2⟩⟩
  have env : Env0 P w K mg (hidT s.heap H) callerA [] s H := ⟨rfl, md, fun b o e => of_hidT e, Nat.le_of_eq (hidT_size _ _), trivial, (fun b hb => absurd (show b ∈ ([] : List Addr) from hb) (by simp)), hok, .of_eq gn⟩
  refine codeAny_mono ((F _ kb (ns_ gl)).go callerA [] s H ⟨[.ref a], []⟩ [.ref a] [.ref a] _ _ rfl room env (binds s (.ref a)) (.cons rfl .nil) said) fun r s' h => ?_
  match r, h with
  | .error e, h => exact (noX e s' h).elim
  | .ok (.ret u), ⟨v, H', os, bare, un, hok', rv, q⟩ =>
    have ev : v = .bl true := q
    subst ev
    obtain rfl : u = Value.bool true := rv
    refine ⟨rfl, OldK.of_keep fun b o e => ?_, os, bare⟩
    cases q : H b with
    | none => exact un.keep b o e q (fun z => nomatch z) (fun z => nomatch z)
    | some u =>
      obtain ⟨_, ob, xs, rfl⟩ := alone b u q
      obtain ⟨e1, _⟩ := hok b _ q
      obtain ⟨e2, _⟩ := hok' b _ (un.frzs b ob _ q)
      rw [e] at e1
      cases e1
      exact e2
theorem law_callG (KX : K.In s.heap) (gl : s.heap.Ns mainGlobals mg) (bl : s.heap.Ns builtinsNs mb) (bb : ∀ x : Str, x ≠ "__name__" → mb x = bootBuiltins x) (lim : s.heap.NoLimit) (gn : s.gens = #[])
    (obj : s.heap.get? a = some { cls := .type "list", data := .seq vs.toArray }) (hi : IntsAre vs ns) (hl : ns.length ≤ sizeLine) (room : Room k callerA)
    (F : ∀ base : Heap, K.In base → base.Ns mainGlobals mg → FnG P w K mg base CX k fa fd [x] sp) (binds : ∀ (s : Shared) (u : Value), BindsTo s fd ⟨[u], []⟩ [(x, u)])
    (said : ∀ H : Hp, SqL K H a (ns.map V.int) → sp [.ref a] H (fun v _ => v = .bl true) fun _ _ _ => False) (noX : ∀ H e s', CX [] H s (fun _ _ _ => False) e s' → False) :
    codeAny (model P w) callerA (.call (.ref fa) ⟨[.ref a], []⟩) (fun r s' => r = .ok (.ret (.bool true)) ∧ OldK s.heap s'.heap ∧ s'.os = s.os ∧ AllBare s'.gens) s := by
  have rv := vals_ints hi
  cases hk : K.lookup a with
  | some o =>
    have e := KX a o hk
    rw [obj] at e
    cases e
    exact enterG (fun _ => none) (fun b u z => nomatch z) (fun b z => (z rfl).elim) (fun b u z => nomatch z) KX gl bl bb lim gn room F binds
      (said _ (.inr ⟨_, vs.toArray, _, hk, rfl, rfl, rfl, by rw [List.size_toArray, hi.length]; exact hl, by simpa using rv⟩)) (noX _)
  | none =>
    have at_ : ∀ b u, scriptH a vs ns b = some u → b = a ∧ u = .frz { cls := .type "list", data := .seq vs.toArray } (.lst (ns.map V.int)) := fun b u z => by
      unfold scriptH at z
      by_cases hb : b = a
      · rw [if_pos hb] at z
        exact ⟨hb, (Option.some.inj z).symm⟩
      · rw [if_neg hb] at z
        cases z
    refine enterG (scriptH a vs ns) (fun b u z => ?_) (fun b z => ?_) (fun b u z => ?_) KX gl bl bb lim gn room F binds (said _ (.inl (.inr ⟨{ cls := .type "list", data := .seq vs.toArray }, by unfold scriptH; rw [if_pos rfl]⟩))) (noX _)
    · obtain ⟨e, rfl⟩ := at_ b u z
      exact ⟨e, _, _, rfl⟩
    · cases q : scriptH a vs ns b with
      | none => exact (z q).elim
      | some u =>
        rw [(at_ b u q).1]
        exact hk
    · obtain ⟨rfl, rfl⟩ := at_ b u z
      exact ⟨obj, by rw [List.length_map]; exact hl, vs, _, rv, obj⟩
end
/-- the end of a law's proof: the head's facts give the law's def, the def keeps its promise -/
theorem walk_ofG {l : PySem.W.OpenLaw} {n k : Nat} {q : Program} {loose : List Str} {XP : (Str → Option Value) → Heap → Prop} {YP : World → Heap → Prop} {d : DefRec} {CX : World → CXT} {x : Str}
    (hn : l.most = some n) (hn2 : n ≤ sizeLine) (hdf : d.params.defaults = []) (room : Room k callerA)
    (F : ∀ (w : World) (mg : Str → Option Value) (fa : Addr) (h : Heap), YP w h → h.Ns mainGlobals mg → mg d.name = some (.ref fa) →
      ∃ (K : PySem.W.Frag) (fd : FuncData) (sp : Sp), K.In h ∧ (∀ (s : Shared) (u : Value), BindsTo s fd ⟨[u], []⟩ [(x, u)]) ∧
        (∀ (H : Hp) (a : Addr) (ns : List Int), ns.length ≤ n → (∀ z ∈ ns, Builtin.Int.intBits z ≤ 1048576) → SqL K H a (ns.map V.int) → sp [.ref a] H (fun v _ => v = .bl true) fun _ _ _ => False) ∧
        ∀ base : Heap, K.In base → base.Ns mainGlobals mg → FnG l.prog w K mg base (CX w) k fa fd [x] sp)
    (noX : ∀ (w : World) (H : Hp) (s : Shared) (e : Value) (s' : Shared), CX w [] H s (fun _ _ _ => False) e s' → False) :
    PySem.W.WalkO q loose XP YP l.row.toRowW d [] (fun f vs => PySem.call f vs) := by
  refine Att.attach_callB hn hdf fun w s₀ s₁ mg mb fa o pm cd doc a vs ns G Y ho hd hcd hmg hobj hints hlen hbits hg => ?_
  obtain ⟨K, fd, sp, KX, hb, said, hF⟩ := F w mg fa _ Y G.T.g hmg
  exact law_callG KX G.T.g G.T.b G.T.builtins G.T.nolimit hg hobj hints (Nat.le_trans hlen hn2) room hF hb (fun H hS => said H a ns hlen hbits hS) fun H e s' => noX w H s₁ e s'
end RT

set_option Elab.async false
set_option linter.all false
set_option maxRecDepth 100000
set_option maxHeartbeats 4000000
/-! a head whose facts are any Bools of the written part, and defs by any address (a property's getter too) -/
namespace HP
open PySem PySem.Spec PyProof.Rows L2 He
/-- a def of the text, where it stands -/
structure DefA where
  adr : PySem.W.Frag → Addr
  name : Str
  qual : Str
  params : Arguments
  body : List Stmt
  scope : Scope
  dfl : List Dv := []
  kwd : List (Str × Dv) := []
def DefA.told (K : PySem.W.Frag) (d : DefA) : FnW := match K.lookup (d.adr K) with
  | some ⟨_, _, .func fd, _⟩ => some (fd.name, fd.qualname, fd.params, fd.body, fd.scope, fd.globals, fd.closure, fd.builtins)
  | _ => none
def DefA.want (d : DefA) : FnW := some (d.name, d.qual, d.params, .stmts d.body, d.scope, mainGlobals, [], builtinsNs)
def DefA.dvs (K : PySem.W.Frag) (d : DefA) : List V := d.dfl.map (Dv.v K)
def DefA.kws (K : PySem.W.Frag) (d : DefA) : List (Str × V) := d.kwd.map fun q => (q.1, q.2.v K)
def DefA.fine (K : PySem.W.Frag) (d : DefA) : Bool := PySem.W.keepIn K (.ref (d.adr K)) && (match K.lookup (d.adr K) with
  | some ⟨_, _, .func fd, _⟩ => PySem.W.codeIn K fd.code d.qual && (dflB K fd.defaults (d.dvs K) && kwdB K fd.kwdefaults (d.kws K))
  | _ => false)
theorem DefA.funD {K : PySem.W.Frag} {d : DefA} (e : d.told K = d.want) (c : d.fine K = true) : ∃ fd, FunD K d.name d.qual d.params d.body d.scope (d.dvs K) (d.kws K) (d.adr K) fd := by
  obtain ⟨kp, more⟩ := ba c
  unfold DefA.told at e
  split at e
  · rename_i oc od fd osl at_
    rw [at_] at more
    obtain ⟨k1, k2⟩ := ba more
    obtain ⟨k3, k4⟩ := ba k2
    cases fd
    unfold DefA.want at e
    injection e with e
    simp only [Prod.mk.injEq] at e
    obtain ⟨rfl, rfl, rfl, rfl, rfl, rfl, rfl, rfl⟩ := e
    exact ⟨_, ⟨oc, od, _, _, _, _, _, _, _, osl, rfl, at_, k1, dflB_ok k3, kwdB_ok k4⟩, kp⟩
  · cases e
abbrev Fact := PySem.W.Frag → Bool
abbrev Al := Bool × List FnW
def obsA (fa : List Fact) (fn : List DefA) (K : PySem.W.Frag) : Al := ((fa.all fun f => f K) && fn.all fun d => d.fine K, fn.map fun d => d.told K)
def wantA (fn : List DefA) : Al := (true, fn.map DefA.want)
def obsAG (n : Nat) (fa : List Fact) (fn : List DefA) (g : Addr → Option Obj) : Al := obsA fa fn (frG g (asD g n))
structure SaysA (fa : List Fact) (fn : List DefA) (K : PySem.W.Frag) : Prop where
  eq : obsA fa fn K = wantA fn
def hookA (n : Nat) (fa : List Fact) (fn : List DefA) : PySem.W.Hook where
  α := Al
  obs := fun s => obsAG n fa fn s.heap.get?
  val := fun _ => wantA fn
  says := fun _ h => ∃ K : PySem.W.Frag, K.In h ∧ SaysA fa fn K
  of := fun _ _ e => ⟨_, frG_in, ⟨e⟩⟩
  keeps := fun _ _ _ ⟨K, hK, c⟩ k => ⟨K, PySem.W.Frag.In.keeps hK k, c⟩
theorem obsAG_eq {n : Nat} {fa : List Fact} {fn : List DefA} {g : Addr → Option Obj} {s : Shared} (h : ∀ a, g a = s.heap.get? a) : obsAG n fa fn g = (hookA n fa fn).obs s := by
  rw [show g = s.heap.get? from funext h] <;> rfl
section
variable {fa : List Fact} {fn : List DefA} {K : PySem.W.Frag}
theorem SaysA.fact (c : SaysA fa fn K) (i : Nat) {f : Fact} (h : fa[i]? = some f := by rfl) : f K = true :=
  List.all_eq_true.mp (ba (congrArg Prod.fst c.eq)).1 f (List.mem_of_getElem? h)
theorem SaysA.def_ (c : SaysA fa fn K) (i : Nat) {d : DefA} (h : fn[i]? = some d := by rfl) : ∃ fd, FunD K d.name d.qual d.params d.body d.scope (d.dvs K) (d.kws K) (d.adr K) fd := by
  have hd : d ∈ fn := List.mem_of_getElem? h
  refine DefA.funD ?_ (List.all_eq_true.mp (ba (congrArg Prod.fst c.eq)).2 d hd)
  have e : fn.map (fun d => d.told K) = fn.map DefA.want := congrArg Prod.snd c.eq
  have e1 := congrArg (fun l => l[i]?) e
  simp only [List.getElem?_map, h, Option.map_some, Option.some.injEq] at e1
  exact e1
end
/-! ### facts beside He.Fa's -/
/-- a property of the class x -/
def getA (x f : Str) (K : PySem.W.Frag) : Addr := match PySem.W.recIn K (ma K (ga K x) f) "property" with
  | some (.ref g :: _) => g
  | _ => 0
def propB (x f : Str) : Fact := fun K => eqO (PySem.W.findIn K (.ref (ga K x)) f) (some (some (.ref (ma K (ga K x) f)))) && (eqO (PySem.W.specialIn K (.ref (ma K (ga K x) f)) "__get__") (some (some (.builtin "property.__get__"))) && (decide (PySem.W.takesIn K (.ref (ma K (ga K x) f)) = some true) &&
  (match PySem.W.recIn K (ma K (ga K x) f) "property" with
    | some (.ref _ :: _) => true
    | _ => false)))
theorem propB_ok {x f : Str} {K : PySem.W.Frag} (h : propB x f K = true) : PropOf K (ga K x) f (ma K (ga K x) f) (getA x f K) := by
  obtain ⟨h1, h⟩ := ba h
  obtain ⟨h2, h⟩ := ba h
  obtain ⟨h3, h4⟩ := ba h
  refine ⟨eqO_ok h1, eqO_ok h2, of_decide_eq_true h3, ?_⟩
  unfold getA
  split at h4
  · rename_i g rest e
    rw [e]
    exact ⟨rest, rfl⟩
  · cases h4
/-- own operators: the class goes first in its own order; no reflected method -/
def firstB (x : Str) : Fact := fun K => PySem.W.selfFirst K (ga K x)
def notFirstB (x : Str) (t : PySem.W.Frag → Value) : Fact := fun K => PySem.W.notFirst K (ga K x) (t K)
def rightB (x : Str) (op : Operator) (T : String) : Fact := fun K => eqO (PySem.W.findIn K (.ref (ga K x)) (dunderR op.info.2)) (some none) && ((PySem.W.findIn K (.type T) (PySem.dunder op.info.2)).isSome && ((PySem.W.findIn K (.type T) (dunderR op.info.2)).isSome && decide (PySem.W.subIn K (.type T) (.ref (ga K x)) = some false)))
theorem rightB_ok {x : Str} {op : Operator} {T : String} {K : PySem.W.Frag} (h : rightB x op T K = true) : RT.RightT K (ga K x) op T := by
  obtain ⟨h1, h⟩ := ba h
  obtain ⟨h2, h⟩ := ba h
  obtain ⟨h3, h4⟩ := ba h
  exact ⟨eqO_ok h1, Option.isSome_iff_exists.mp h2, Option.isSome_iff_exists.mp h3, of_decide_eq_true h4⟩
/-- isinstance of an instance of the class x asks its class rightly -/
def isiB (x : Str) : Fact := fun K => eqO (PySem.W.findIn K (.ref (ga K x)) "__class__") (some (some (.builtin "object.__class__"))) && (eqO (PySem.W.specialIn K (.builtin "object.__class__") "__get__") (some (some (.builtin "getset_descriptor.__get__"))) && (decide (PySem.W.takesIn K (.builtin "object.__class__") = some true) && decide (PySem.W.mroIn K (ga K x) (.type "object") = some true)))
structure IsiC (K : PySem.W.Frag) (C : Addr) : Prop where
  ha : PySem.W.findIn K (.ref C) "__class__" = some (some (.builtin "object.__class__"))
  hn : PySem.W.specialIn K (.builtin "object.__class__") "__get__" = some (some (.builtin "getset_descriptor.__get__"))
  ht : PySem.W.takesIn K (.builtin "object.__class__") = some true
  hm : PySem.W.mroIn K C (.type "object") = some true
theorem isiB_ok {x : Str} {K : PySem.W.Frag} (h : isiB x K = true) : IsiC K (ga K x) := by
  obtain ⟨h1, h⟩ := ba h
  obtain ⟨h2, h⟩ := ba h
  obtain ⟨h3, h4⟩ := ba h
  exact ⟨eqO_ok h1, eqO_ok h2, of_decide_eq_true h3, of_decide_eq_true h4⟩
/-- a global that is a tuple of flat values -/
def flatOf : Value → Option V
  | .none => some .non
  | .bool b => some (.bl b)
  | .int i _ => some (.int i)
  | .str x _ => some (.str x)
  | _ => none
theorem flatOf_ok {v : Value} {x : V} (h : flatOf v = some x) : RelV x v := by
  cases v <;> simp only [flatOf, Option.some.injEq, reduceCtorEq] at h <;> subst h <;> first | rfl | exact ⟨_, rfl⟩
theorem flats_ok : ∀ {vs : List Value} {xs : List V}, vs.map flatOf = xs.map some → Vals xs vs
  | [], [], _ => .nil
  | [], _ :: _, h => by cases h
  | _ :: _, [], h => by cases h
  | v :: vs, x :: xs, h => by
    simp only [List.map_cons, List.cons.injEq] at h
    exact .cons (flatOf_ok h.1) (flats_ok h.2)
def tupB (x : Str) (xs : List V) : Fact := fun K => match K.lookup (ga K x) with
  | some o => eqO (some (some o.cls)) (some (some (.type "tuple"))) && (match o.data with
    | .seq its _ => decide (its.toList.map flatOf = xs.map some) && decide (its.size ≤ sizeLine)
    | _ => false)
  | none => false
theorem tupB_ok {x : Str} {xs : List V} {K : PySem.W.Frag} (h : tupB x xs K = true) : ∀ H : Hp, SqT K H (ga K x) xs := by
  intro H
  unfold tupB at h
  split at h
  · rename_i o e
    obtain ⟨h1, h2⟩ := ba h
    split at h2
    · rename_i its n ed
      obtain ⟨h3, h4⟩ := ba h2
      exact .inr ⟨o, its, n, e, Option.some.inj (Option.some.inj (eqO_ok h1)), ed, of_decide_eq_true h4, flats_ok (of_decide_eq_true h3)⟩
    · cases h2
  · cases h
def neB (x : Str) : Fact := fun K => eqO (PySem.W.findIn K (.ref (ga K x)) "__ne__") (some (some (.builtin "object.__ne__")))
theorem neB_ok {x : Str} {K : PySem.W.Frag} (h : neB x K = true) : PySem.W.findIn K (.ref (ga K x)) "__ne__" = some (some (.builtin "object.__ne__")) := eqO_ok h
def fnB (x m : Str) : Fact := fun K => PySem.W.fnIn K (ma K (ga K x) m)
def kitB1 (t c : PySem.W.Frag → Value) (b : Bool) : Fact := fun K => decide (PySem.W.kitOne K (t K) (c K) = some b)
def kitA1 (t : PySem.W.Frag → Value) (cs : List Str) (b : Bool) : Fact := fun K => decide (PySem.W.kitAny K (t K) (cs.map fun x => .ref (ga K x)) = some b)
def fa_ (f : Fa) : Fact := fun K => f.ok K
end HP

set_option Elab.async false
set_option linter.all false
set_option maxRecDepth 100000
set_option maxHeartbeats 4000000
namespace K29
open PySem PySem.Spec PyProof.Rows L2 RT
def top (i : Nat) : Stmt := PySem.Challenge.pw_plotpens_k29_degrees_and_odd_points.main.body.getD i (.Pass ⟨0, 0, 0, 0⟩)
abbrev s_wall : Stmt := top 0
abbrev sis_integer : Stmt := top 6
abbrev sis_integer_within : Stmt := top 7
abbrev sis_tuple_of : Stmt := top 8
abbrev sis_point : Stmt := top 9
abbrev scheck_point : Stmt := top 10
abbrev stally : Stmt := top 12
abbrev sodd_ones : Stmt := top 13
abbrev sPicture_init : Stmt := inClass (top 15) 0
abbrev sPicture_edges : Stmt := inClass (top 15) 1
abbrev sPicture_len : Stmt := inClass (top 15) 2
abbrev sPicture_eq : Stmt := inClass (top 15) 3
abbrev sPicture_contains : Stmt := inClass (top 15) 4
abbrev sPicture_xor : Stmt := inClass (top 15) 5
abbrev sPicture_moved : Stmt := inClass (top 15) 6
abbrev sPicture_turned : Stmt := inClass (top 15) 7
abbrev sis_edge : Stmt := top 16
abbrev sends_of_edge : Stmt := top 17
abbrev scheck_edges : Stmt := top 18
abbrev scheck_picture : Stmt := top 19
abbrev sdegree_at : Stmt := top 21
abbrev sodd_points : Stmt := top 22
abbrev sis_even : Stmt := top 23
abbrev s_law_well : Stmt := top 25
abbrev s_law_dip : Stmt := top 26
abbrev s_law_toggle : Stmt := top 27
abbrev s_law_frame : Stmt := top 28
abbrev s_law_sketch : Stmt := top 29
abbrev s_law_ends : Stmt := top 30
abbrev s_law_degrees : Stmt := top 31
abbrev s_law_odd : Stmt := top 32
abbrev s_law_right : Stmt := top 33
abbrev slaw : Stmt := top 34
abbrev Nis_integer : List Str := ["value"]
theorem scis_integer : FnScope Nis_integer ["value"] (defScope sis_integer) := ⟨rfl, rfl, rfl, by decide +kernel, rfl, by decide +kernel, by decide +kernel⟩
abbrev Nis_integer_within : List Str := ["value", "least", "most"]
theorem scis_integer_within : FnScope Nis_integer_within ["value", "least", "most"] (defScope sis_integer_within) := ⟨rfl, rfl, rfl, by decide +kernel, rfl, by decide +kernel, by decide +kernel⟩
abbrev Nis_tuple_of : List Str := ["value", "many"]
theorem scis_tuple_of : FnScope Nis_tuple_of ["value", "many"] (defScope sis_tuple_of) := ⟨rfl, rfl, rfl, by decide +kernel, rfl, by decide +kernel, by decide +kernel⟩
abbrev Nis_point : List Str := ["value"]
theorem scis_point : FnScope Nis_point ["value"] (defScope sis_point) := ⟨rfl, rfl, rfl, by decide +kernel, rfl, by decide +kernel, by decide +kernel⟩
abbrev Ncheck_point : List Str := ["point"]
theorem sccheck_point : FnScope Ncheck_point ["point"] (defScope scheck_point) := ⟨rfl, rfl, rfl, by decide +kernel, rfl, by decide +kernel, by decide +kernel⟩
abbrev Ntally : List Str := ["values", "numbers", "value"]
theorem sctally : FnScope Ntally ["values"] (defScope stally) := ⟨rfl, rfl, rfl, by decide +kernel, rfl, by decide +kernel, by decide +kernel⟩
abbrev Nodd_ones : List Str := ["values", "numbers"]
theorem scodd_ones : FnScope Nodd_ones ["values"] (defScope sodd_ones) := ⟨rfl, rfl, rfl, by decide +kernel, rfl, by decide +kernel, by decide +kernel⟩
abbrev NPicture_init : List Str := ["self", "edges"]
theorem scPicture_init : FnScope NPicture_init ["self", "edges"] (defScope sPicture_init) := ⟨rfl, rfl, rfl, by decide +kernel, rfl, by decide +kernel, by decide +kernel⟩
abbrev NPicture_edges : List Str := ["self"]
theorem scPicture_edges : FnScope NPicture_edges ["self"] (defScope sPicture_edges) := ⟨rfl, rfl, rfl, by decide +kernel, rfl, by decide +kernel, by decide +kernel⟩
abbrev NPicture_len : List Str := ["self"]
theorem scPicture_len : FnScope NPicture_len ["self"] (defScope sPicture_len) := ⟨rfl, rfl, rfl, by decide +kernel, rfl, by decide +kernel, by decide +kernel⟩
abbrev NPicture_eq : List Str := ["self", "other"]
theorem scPicture_eq : FnScope NPicture_eq ["self", "other"] (defScope sPicture_eq) := ⟨rfl, rfl, rfl, by decide +kernel, rfl, by decide +kernel, by decide +kernel⟩
abbrev NPicture_contains : List Str := ["self", "x"]
theorem scPicture_contains : FnScope NPicture_contains ["self", "x"] (defScope sPicture_contains) := ⟨rfl, rfl, rfl, by decide +kernel, rfl, by decide +kernel, by decide +kernel⟩
abbrev NPicture_xor : List Str := ["self", "other", "mine", "others"]
theorem scPicture_xor : FnScope NPicture_xor ["self", "other"] (defScope sPicture_xor) := ⟨rfl, rfl, rfl, by decide +kernel, rfl, by decide +kernel, by decide +kernel⟩
abbrev NPicture_moved : List Str := ["self", "dx", "dy"]
theorem scPicture_moved : FnScope NPicture_moved ["self", "dx", "dy"] (defScope sPicture_moved) := ⟨rfl, rfl, rfl, by decide +kernel, rfl, by decide +kernel, by decide +kernel⟩
abbrev NPicture_turned : List Str := ["self", "quarters"]
theorem scPicture_turned : FnScope NPicture_turned ["self", "quarters"] (defScope sPicture_turned) := ⟨rfl, rfl, rfl, by decide +kernel, rfl, by decide +kernel, by decide +kernel⟩
abbrev Nis_edge : List Str := ["value"]
theorem scis_edge : FnScope Nis_edge ["value"] (defScope sis_edge) := ⟨rfl, rfl, rfl, by decide +kernel, rfl, by decide +kernel, by decide +kernel⟩
abbrev Nends_of_edge : List Str := ["edge", "x", "y", "side"]
theorem scends_of_edge : FnScope Nends_of_edge ["edge"] (defScope sends_of_edge) := ⟨rfl, rfl, rfl, by decide +kernel, rfl, by decide +kernel, by decide +kernel⟩
abbrev Ncheck_edges : List Str := ["edges"]
theorem sccheck_edges : FnScope Ncheck_edges ["edges"] (defScope scheck_edges) := ⟨rfl, rfl, rfl, by decide +kernel, rfl, by decide +kernel, by decide +kernel⟩
abbrev Ncheck_picture : List Str := ["picture"]
theorem sccheck_picture : FnScope Ncheck_picture ["picture"] (defScope scheck_picture) := ⟨rfl, rfl, rfl, by decide +kernel, rfl, by decide +kernel, by decide +kernel⟩
abbrev Ndegree_at : List Str := ["picture", "point", "x", "y", "near"]
theorem scdegree_at : FnScope Ndegree_at ["picture", "point"] (defScope sdegree_at) := ⟨rfl, rfl, rfl, by decide +kernel, rfl, by decide +kernel, by decide +kernel⟩
abbrev Nodd_points : List Str := ["picture"]
theorem scodd_points : FnScope Nodd_points ["picture"] (defScope sodd_points) := ⟨rfl, rfl, rfl, by decide +kernel, rfl, by decide +kernel, by decide +kernel⟩
abbrev Nis_even : List Str := ["picture"]
theorem scis_even : FnScope Nis_even ["picture"] (defScope sis_even) := ⟨rfl, rfl, rfl, by decide +kernel, rfl, by decide +kernel, by decide +kernel⟩
abbrev N_law_well : List Str := ["script", "k", "cell"]
theorem sc_law_well : FnScope N_law_well ["script", "k"] (defScope s_law_well) := ⟨rfl, rfl, rfl, by decide +kernel, rfl, by decide +kernel, by decide +kernel⟩
abbrev N_law_dip : List Str := ["ink", "many", "found", "mixed"]
theorem sc_law_dip : FnScope N_law_dip ["ink", "many"] (defScope s_law_dip) := ⟨rfl, rfl, rfl, by decide +kernel, rfl, by decide +kernel, by decide +kernel⟩
abbrev N_law_toggle : List Str := ["found", "some", "edge_here"]
theorem sc_law_toggle : FnScope N_law_toggle ["found", "some"] (defScope s_law_toggle) := ⟨rfl, rfl, rfl, by decide +kernel, rfl, by decide +kernel, by decide +kernel⟩
abbrev N_law_frame : List Str := ["x", "y"]
theorem sc_law_frame : FnScope N_law_frame ["x", "y"] (defScope s_law_frame) := ⟨rfl, rfl, rfl, by decide +kernel, rfl, by decide +kernel, by decide +kernel⟩
abbrev N_law_sketch : List Str := ["ink", "most", "wide_off", "way", "wide", "found", "place", "many", "turn", "side", "x", "y", "back", "some", "lots", "cut", "dx", "dy"]
theorem sc_law_sketch : FnScope N_law_sketch ["ink", "most", "wide_off"] (defScope s_law_sketch) := ⟨rfl, rfl, rfl, by decide +kernel, rfl, by decide +kernel, by decide +kernel⟩
abbrev N_law_ends : List Str := ["edge_here", "x", "y", "side"]
theorem sc_law_ends : FnScope N_law_ends ["edge_here"] (defScope s_law_ends) := ⟨rfl, rfl, rfl, by decide +kernel, rfl, by decide +kernel, by decide +kernel⟩
abbrev N_law_degrees : List Str := ["edges_here", "found", "edge_here", "point_here"]
theorem sc_law_degrees : FnScope N_law_degrees ["edges_here"] (defScope s_law_degrees) := ⟨rfl, rfl, rfl, by decide +kernel, rfl, by decide +kernel, by decide +kernel⟩
abbrev N_law_odd : List Str := ["edges_here", "counts"]
theorem sc_law_odd : FnScope N_law_odd ["edges_here"] (defScope s_law_odd) := ⟨rfl, rfl, rfl, by decide +kernel, rfl, by decide +kernel, by decide +kernel⟩
abbrev N_law_right : List Str := ["ink", "edges_here", "one", "counts", "due", "kept", "again", "told", "known", "some", "x", "y", "spot"]
theorem sc_law_right : FnScope N_law_right ["ink", "edges_here"] (defScope s_law_right) := ⟨rfl, rfl, rfl, by decide +kernel, rfl, by decide +kernel, by decide +kernel⟩
abbrev Nlaw : List Str := ["script", "k", "ink", "most", "some"]
theorem sclaw : FnScope Nlaw ["script"] (defScope slaw) := ⟨rfl, rfl, rfl, by decide +kernel, rfl, by decide +kernel, by decide +kernel⟩
/-! ### the head -/
def dis_integer : HP.DefA := ⟨fun K => He.fAd K ("is_integer", none), "is_integer", "is_integer", defArgs sis_integer, defBody sis_integer, defScope sis_integer, [], []⟩
def dis_integer_within : HP.DefA := ⟨fun K => He.fAd K ("is_integer_within", none), "is_integer_within", "is_integer_within", defArgs sis_integer_within, defBody sis_integer_within, defScope sis_integer_within, [], []⟩
def dis_tuple_of : HP.DefA := ⟨fun K => He.fAd K ("is_tuple_of", none), "is_tuple_of", "is_tuple_of", defArgs sis_tuple_of, defBody sis_tuple_of, defScope sis_tuple_of, [], []⟩
def dis_point : HP.DefA := ⟨fun K => He.fAd K ("is_point", none), "is_point", "is_point", defArgs sis_point, defBody sis_point, defScope sis_point, [], []⟩
def dcheck_point : HP.DefA := ⟨fun K => He.fAd K ("check_point", none), "check_point", "check_point", defArgs scheck_point, defBody scheck_point, defScope scheck_point, [], []⟩
def dtally : HP.DefA := ⟨fun K => He.fAd K ("tally", none), "tally", "tally", defArgs stally, defBody stally, defScope stally, [], []⟩
def dodd_ones : HP.DefA := ⟨fun K => He.fAd K ("odd_ones", none), "odd_ones", "odd_ones", defArgs sodd_ones, defBody sodd_ones, defScope sodd_ones, [], []⟩
def dPicture_init : HP.DefA := ⟨fun K => He.fAd K ("Picture", some "__init__"), "__init__", "Picture.__init__", defArgs sPicture_init, defBody sPicture_init, defScope sPicture_init, [], []⟩
def dPicture_edges : HP.DefA := ⟨HP.getA "Picture" "edges", "edges", "Picture.edges", defArgs sPicture_edges, defBody sPicture_edges, defScope sPicture_edges, [], []⟩
def dPicture_len : HP.DefA := ⟨fun K => He.fAd K ("Picture", some "__len__"), "__len__", "Picture.__len__", defArgs sPicture_len, defBody sPicture_len, defScope sPicture_len, [], []⟩
def dPicture_eq : HP.DefA := ⟨fun K => He.fAd K ("Picture", some "__eq__"), "__eq__", "Picture.__eq__", defArgs sPicture_eq, defBody sPicture_eq, defScope sPicture_eq, [], []⟩
def dPicture_contains : HP.DefA := ⟨fun K => He.fAd K ("Picture", some "__contains__"), "__contains__", "Picture.__contains__", defArgs sPicture_contains, defBody sPicture_contains, defScope sPicture_contains, [], []⟩
def dPicture_xor : HP.DefA := ⟨fun K => He.fAd K ("Picture", some "__xor__"), "__xor__", "Picture.__xor__", defArgs sPicture_xor, defBody sPicture_xor, defScope sPicture_xor, [], []⟩
def dPicture_moved : HP.DefA := ⟨fun K => He.fAd K ("Picture", some "moved"), "moved", "Picture.moved", defArgs sPicture_moved, defBody sPicture_moved, defScope sPicture_moved, [], []⟩
def dPicture_turned : HP.DefA := ⟨fun K => He.fAd K ("Picture", some "turned"), "turned", "Picture.turned", defArgs sPicture_turned, defBody sPicture_turned, defScope sPicture_turned, [], []⟩
def dis_edge : HP.DefA := ⟨fun K => He.fAd K ("is_edge", none), "is_edge", "is_edge", defArgs sis_edge, defBody sis_edge, defScope sis_edge, [], []⟩
def dends_of_edge : HP.DefA := ⟨fun K => He.fAd K ("ends_of_edge", none), "ends_of_edge", "ends_of_edge", defArgs sends_of_edge, defBody sends_of_edge, defScope sends_of_edge, [], []⟩
def dcheck_edges : HP.DefA := ⟨fun K => He.fAd K ("check_edges", none), "check_edges", "check_edges", defArgs scheck_edges, defBody scheck_edges, defScope scheck_edges, [], []⟩
def dcheck_picture : HP.DefA := ⟨fun K => He.fAd K ("check_picture", none), "check_picture", "check_picture", defArgs scheck_picture, defBody scheck_picture, defScope scheck_picture, [], []⟩
def ddegree_at : HP.DefA := ⟨fun K => He.fAd K ("degree_at", none), "degree_at", "degree_at", defArgs sdegree_at, defBody sdegree_at, defScope sdegree_at, [], []⟩
def dodd_points : HP.DefA := ⟨fun K => He.fAd K ("odd_points", none), "odd_points", "odd_points", defArgs sodd_points, defBody sodd_points, defScope sodd_points, [], []⟩
def dis_even : HP.DefA := ⟨fun K => He.fAd K ("is_even", none), "is_even", "is_even", defArgs sis_even, defBody sis_even, defScope sis_even, [], []⟩
def d_law_well : HP.DefA := ⟨fun K => He.fAd K ("_law_well", none), "_law_well", "_law_well", defArgs s_law_well, defBody s_law_well, defScope s_law_well, [], []⟩
def d_law_dip : HP.DefA := ⟨fun K => He.fAd K ("_law_dip", none), "_law_dip", "_law_dip", defArgs s_law_dip, defBody s_law_dip, defScope s_law_dip, [], []⟩
def d_law_toggle : HP.DefA := ⟨fun K => He.fAd K ("_law_toggle", none), "_law_toggle", "_law_toggle", defArgs s_law_toggle, defBody s_law_toggle, defScope s_law_toggle, [], []⟩
def d_law_frame : HP.DefA := ⟨fun K => He.fAd K ("_law_frame", none), "_law_frame", "_law_frame", defArgs s_law_frame, defBody s_law_frame, defScope s_law_frame, [], []⟩
def d_law_sketch : HP.DefA := ⟨fun K => He.fAd K ("_law_sketch", none), "_law_sketch", "_law_sketch", defArgs s_law_sketch, defBody s_law_sketch, defScope s_law_sketch, [], []⟩
def d_law_ends : HP.DefA := ⟨fun K => He.fAd K ("_law_ends", none), "_law_ends", "_law_ends", defArgs s_law_ends, defBody s_law_ends, defScope s_law_ends, [], []⟩
def d_law_degrees : HP.DefA := ⟨fun K => He.fAd K ("_law_degrees", none), "_law_degrees", "_law_degrees", defArgs s_law_degrees, defBody s_law_degrees, defScope s_law_degrees, [], []⟩
def d_law_odd : HP.DefA := ⟨fun K => He.fAd K ("_law_odd", none), "_law_odd", "_law_odd", defArgs s_law_odd, defBody s_law_odd, defScope s_law_odd, [], []⟩
def d_law_right : HP.DefA := ⟨fun K => He.fAd K ("_law_right", none), "_law_right", "_law_right", defArgs s_law_right, defBody s_law_right, defScope s_law_right, [], []⟩
def dlaw : HP.DefA := ⟨fun K => He.fAd K ("law", none), "law", "law", defArgs slaw, defBody slaw, defScope slaw, [], []⟩
def fns : List HP.DefA := [dis_integer, dis_integer_within, dis_tuple_of, dis_point, dcheck_point, dtally, dodd_ones, dPicture_init, dPicture_edges, dPicture_len, dPicture_eq, dPicture_contains, dPicture_xor, dPicture_moved, dPicture_turned, dis_edge, dends_of_edge, dcheck_edges, dcheck_picture, ddegree_at, dodd_points, dis_even, d_law_well, d_law_dip, d_law_toggle, d_law_frame, d_law_sketch, d_law_ends, d_law_degrees, d_law_odd, d_law_right, dlaw]
def fa0 : List HP.Fact := [HP.fa_ (.glo "is_integer"), HP.fa_ (.glo "is_integer_within"), HP.fa_ (.glo "is_tuple_of"), HP.fa_ (.glo "is_point"), HP.fa_ (.glo "check_point"), HP.fa_ (.glo "tally"), HP.fa_ (.glo "odd_ones"), HP.propB "Picture" "edges", HP.fa_ (.meth "Picture" "__len__"), HP.fa_ (.meth "Picture" "__eq__"), HP.fa_ (.meth "Picture" "__contains__"), HP.fa_ (.meth "Picture" "__xor__"), HP.fa_ (.meth "Picture" "moved"), HP.fa_ (.meth "Picture" "turned"), HP.fa_ (.glo "is_edge"), HP.fa_ (.glo "ends_of_edge"), HP.fa_ (.glo "check_edges"), HP.fa_ (.glo "check_picture"), HP.fa_ (.glo "degree_at"), HP.fa_ (.glo "odd_points"), HP.fa_ (.glo "is_even"), HP.fa_ (.glo "_law_well"), HP.fa_ (.glo "_law_dip"), HP.fa_ (.glo "_law_toggle"), HP.fa_ (.glo "_law_frame")]
def fa1 : List HP.Fact := [HP.fa_ (.glo "_law_sketch"), HP.fa_ (.glo "_law_ends"), HP.fa_ (.glo "_law_degrees"), HP.fa_ (.glo "_law_odd"), HP.fa_ (.glo "_law_right"), HP.fa_ (.glo "law"), HP.fa_ (.glo "PlotError"), HP.fa_ (.glo "InvalidPoint"), HP.fa_ (.glo "InvalidPicture"), HP.fa_ (.glo "Picture"), HP.fa_ (.cls "Picture"), HP.fa_ (.mkr "Picture"), HP.isiB "Picture", HP.kitB1 (fun K => .ref (He.ga K "Picture")) (fun K => .ref (He.ga K "Picture")) true, HP.fa_ (.noat "Picture" "_edges"), HP.fa_ (.noat "Picture" "_has"), HP.fa_ (.free "ValueError"), HP.fa_ (.free "all"), HP.fa_ (.free "bool"), HP.fa_ (.free "int"), HP.fa_ (.free "isinstance"), HP.fa_ (.free "len"), HP.fa_ (.free "list"), HP.fa_ (.free "max"), HP.fa_ (.free "min")]
def fa2 : List HP.Fact := [HP.fa_ (.free "property"), HP.fa_ (.free "range"), HP.fa_ (.free "repr"), HP.fa_ (.free "set"), HP.fa_ (.free "sorted"), HP.fa_ (.free "tuple")]
def facts : List HP.Fact := fa0 ++ fa1 ++ fa2
def nm0 : List Str := ["_wall", "PlotError", "InvalidPoint", "InvalidPicture", "is_integer", "is_integer_within", "is_tuple_of", "is_point", "check_point", "tally", "odd_ones", "Picture", "is_edge", "ends_of_edge", "check_edges", "check_picture", "degree_at", "odd_points", "is_even", "_law_well", "_law_dip", "_law_toggle", "_law_frame", "_law_sketch", "_law_ends", "_law_degrees", "_law_odd", "_law_right"]
def names : List Str := nm0
structure Tx (K : PySem.W.Frag) (mg : Str → Option Value) : Prop where
  g_is_integer : mg "is_integer" = some (.ref (He.ga K "is_integer"))
  g_is_integer_within : mg "is_integer_within" = some (.ref (He.ga K "is_integer_within"))
  g_is_tuple_of : mg "is_tuple_of" = some (.ref (He.ga K "is_tuple_of"))
  g_is_point : mg "is_point" = some (.ref (He.ga K "is_point"))
  g_check_point : mg "check_point" = some (.ref (He.ga K "check_point"))
  g_tally : mg "tally" = some (.ref (He.ga K "tally"))
  g_odd_ones : mg "odd_ones" = some (.ref (He.ga K "odd_ones"))
  p_Picture_edges : PropOf K (He.ga K "Picture") "edges" (He.ma K (He.ga K "Picture") "edges") (HP.getA "Picture" "edges" K)
  m_Picture_len : Meth K (He.ga K "Picture") "__len__" (He.ma K (He.ga K "Picture") "__len__")
  m_Picture_eq : Meth K (He.ga K "Picture") "__eq__" (He.ma K (He.ga K "Picture") "__eq__")
  m_Picture_contains : Meth K (He.ga K "Picture") "__contains__" (He.ma K (He.ga K "Picture") "__contains__")
  m_Picture_xor : Meth K (He.ga K "Picture") "__xor__" (He.ma K (He.ga K "Picture") "__xor__")
  m_Picture_moved : Meth K (He.ga K "Picture") "moved" (He.ma K (He.ga K "Picture") "moved")
  m_Picture_turned : Meth K (He.ga K "Picture") "turned" (He.ma K (He.ga K "Picture") "turned")
  g_is_edge : mg "is_edge" = some (.ref (He.ga K "is_edge"))
  g_ends_of_edge : mg "ends_of_edge" = some (.ref (He.ga K "ends_of_edge"))
  g_check_edges : mg "check_edges" = some (.ref (He.ga K "check_edges"))
  g_check_picture : mg "check_picture" = some (.ref (He.ga K "check_picture"))
  g_degree_at : mg "degree_at" = some (.ref (He.ga K "degree_at"))
  g_odd_points : mg "odd_points" = some (.ref (He.ga K "odd_points"))
  g_is_even : mg "is_even" = some (.ref (He.ga K "is_even"))
  g__law_well : mg "_law_well" = some (.ref (He.ga K "_law_well"))
  g__law_dip : mg "_law_dip" = some (.ref (He.ga K "_law_dip"))
  g__law_toggle : mg "_law_toggle" = some (.ref (He.ga K "_law_toggle"))
  g__law_frame : mg "_law_frame" = some (.ref (He.ga K "_law_frame"))
  g__law_sketch : mg "_law_sketch" = some (.ref (He.ga K "_law_sketch"))
  g__law_ends : mg "_law_ends" = some (.ref (He.ga K "_law_ends"))
  g__law_degrees : mg "_law_degrees" = some (.ref (He.ga K "_law_degrees"))
  g__law_odd : mg "_law_odd" = some (.ref (He.ga K "_law_odd"))
  g__law_right : mg "_law_right" = some (.ref (He.ga K "_law_right"))
  g_law : mg "law" = some (.ref (He.ga K "law"))
  g_PlotError : mg "PlotError" = some (.ref (He.ga K "PlotError"))
  g_InvalidPoint : mg "InvalidPoint" = some (.ref (He.ga K "InvalidPoint"))
  g_InvalidPicture : mg "InvalidPicture" = some (.ref (He.ga K "InvalidPicture"))
  g_Picture : mg "Picture" = some (.ref (He.ga K "Picture"))
  c_Picture : Cls K (He.ga K "Picture")
  k_Picture : Mk K (He.ga K "Picture") (He.ma K (He.ga K "Picture") "__init__")
  i_Picture : HP.IsiC K (He.ga K "Picture")
  t_Picture : PySem.W.kitOne K (.ref (He.ga K "Picture")) (.ref (He.ga K "Picture")) = some true
  n_Picture__edges : NoAttr K (He.ga K "Picture") "_edges"
  n_Picture__has : NoAttr K (He.ga K "Picture") "_has"
  z_ValueError : mg "ValueError" = none
  z_all : mg "all" = none
  z_bool : mg "bool" = none
  z_int : mg "int" = none
  z_isinstance : mg "isinstance" = none
  z_len : mg "len" = none
  z_list : mg "list" = none
  z_max : mg "max" = none
  z_min : mg "min" = none
  z_property : mg "property" = none
  z_range : mg "range" = none
  z_repr : mg "repr" = none
  z_set : mg "set" = none
  z_sorted : mg "sorted" = none
  z_tuple : mg "tuple" = none
structure Ds (K : PySem.W.Frag) where
  fd_is_integer : FuncData
  F_is_integer : FunD K "is_integer" "is_integer" (defArgs sis_integer) (defBody sis_integer) (defScope sis_integer) [] [] (dis_integer.adr K) fd_is_integer
  fd_is_integer_within : FuncData
  F_is_integer_within : FunD K "is_integer_within" "is_integer_within" (defArgs sis_integer_within) (defBody sis_integer_within) (defScope sis_integer_within) [] [] (dis_integer_within.adr K) fd_is_integer_within
  fd_is_tuple_of : FuncData
  F_is_tuple_of : FunD K "is_tuple_of" "is_tuple_of" (defArgs sis_tuple_of) (defBody sis_tuple_of) (defScope sis_tuple_of) [] [] (dis_tuple_of.adr K) fd_is_tuple_of
  fd_is_point : FuncData
  F_is_point : FunD K "is_point" "is_point" (defArgs sis_point) (defBody sis_point) (defScope sis_point) [] [] (dis_point.adr K) fd_is_point
  fd_check_point : FuncData
  F_check_point : FunD K "check_point" "check_point" (defArgs scheck_point) (defBody scheck_point) (defScope scheck_point) [] [] (dcheck_point.adr K) fd_check_point
  fd_tally : FuncData
  F_tally : FunD K "tally" "tally" (defArgs stally) (defBody stally) (defScope stally) [] [] (dtally.adr K) fd_tally
  fd_odd_ones : FuncData
  F_odd_ones : FunD K "odd_ones" "odd_ones" (defArgs sodd_ones) (defBody sodd_ones) (defScope sodd_ones) [] [] (dodd_ones.adr K) fd_odd_ones
  fd_Picture_init : FuncData
  F_Picture_init : FunD K "__init__" "Picture.__init__" (defArgs sPicture_init) (defBody sPicture_init) (defScope sPicture_init) [] [] (dPicture_init.adr K) fd_Picture_init
  fd_Picture_edges : FuncData
  F_Picture_edges : FunD K "edges" "Picture.edges" (defArgs sPicture_edges) (defBody sPicture_edges) (defScope sPicture_edges) [] [] (dPicture_edges.adr K) fd_Picture_edges
  fd_Picture_len : FuncData
  F_Picture_len : FunD K "__len__" "Picture.__len__" (defArgs sPicture_len) (defBody sPicture_len) (defScope sPicture_len) [] [] (dPicture_len.adr K) fd_Picture_len
  fd_Picture_eq : FuncData
  F_Picture_eq : FunD K "__eq__" "Picture.__eq__" (defArgs sPicture_eq) (defBody sPicture_eq) (defScope sPicture_eq) [] [] (dPicture_eq.adr K) fd_Picture_eq
  fd_Picture_contains : FuncData
  F_Picture_contains : FunD K "__contains__" "Picture.__contains__" (defArgs sPicture_contains) (defBody sPicture_contains) (defScope sPicture_contains) [] [] (dPicture_contains.adr K) fd_Picture_contains
  fd_Picture_xor : FuncData
  F_Picture_xor : FunD K "__xor__" "Picture.__xor__" (defArgs sPicture_xor) (defBody sPicture_xor) (defScope sPicture_xor) [] [] (dPicture_xor.adr K) fd_Picture_xor
  fd_Picture_moved : FuncData
  F_Picture_moved : FunD K "moved" "Picture.moved" (defArgs sPicture_moved) (defBody sPicture_moved) (defScope sPicture_moved) [] [] (dPicture_moved.adr K) fd_Picture_moved
  fd_Picture_turned : FuncData
  F_Picture_turned : FunD K "turned" "Picture.turned" (defArgs sPicture_turned) (defBody sPicture_turned) (defScope sPicture_turned) [] [] (dPicture_turned.adr K) fd_Picture_turned
  fd_is_edge : FuncData
  F_is_edge : FunD K "is_edge" "is_edge" (defArgs sis_edge) (defBody sis_edge) (defScope sis_edge) [] [] (dis_edge.adr K) fd_is_edge
  fd_ends_of_edge : FuncData
  F_ends_of_edge : FunD K "ends_of_edge" "ends_of_edge" (defArgs sends_of_edge) (defBody sends_of_edge) (defScope sends_of_edge) [] [] (dends_of_edge.adr K) fd_ends_of_edge
  fd_check_edges : FuncData
  F_check_edges : FunD K "check_edges" "check_edges" (defArgs scheck_edges) (defBody scheck_edges) (defScope scheck_edges) [] [] (dcheck_edges.adr K) fd_check_edges
  fd_check_picture : FuncData
  F_check_picture : FunD K "check_picture" "check_picture" (defArgs scheck_picture) (defBody scheck_picture) (defScope scheck_picture) [] [] (dcheck_picture.adr K) fd_check_picture
  fd_degree_at : FuncData
  F_degree_at : FunD K "degree_at" "degree_at" (defArgs sdegree_at) (defBody sdegree_at) (defScope sdegree_at) [] [] (ddegree_at.adr K) fd_degree_at
  fd_odd_points : FuncData
  F_odd_points : FunD K "odd_points" "odd_points" (defArgs sodd_points) (defBody sodd_points) (defScope sodd_points) [] [] (dodd_points.adr K) fd_odd_points
  fd_is_even : FuncData
  F_is_even : FunD K "is_even" "is_even" (defArgs sis_even) (defBody sis_even) (defScope sis_even) [] [] (dis_even.adr K) fd_is_even
  fd__law_well : FuncData
  F__law_well : FunD K "_law_well" "_law_well" (defArgs s_law_well) (defBody s_law_well) (defScope s_law_well) [] [] (d_law_well.adr K) fd__law_well
  fd__law_dip : FuncData
  F__law_dip : FunD K "_law_dip" "_law_dip" (defArgs s_law_dip) (defBody s_law_dip) (defScope s_law_dip) [] [] (d_law_dip.adr K) fd__law_dip
  fd__law_toggle : FuncData
  F__law_toggle : FunD K "_law_toggle" "_law_toggle" (defArgs s_law_toggle) (defBody s_law_toggle) (defScope s_law_toggle) [] [] (d_law_toggle.adr K) fd__law_toggle
  fd__law_frame : FuncData
  F__law_frame : FunD K "_law_frame" "_law_frame" (defArgs s_law_frame) (defBody s_law_frame) (defScope s_law_frame) [] [] (d_law_frame.adr K) fd__law_frame
  fd__law_sketch : FuncData
  F__law_sketch : FunD K "_law_sketch" "_law_sketch" (defArgs s_law_sketch) (defBody s_law_sketch) (defScope s_law_sketch) [] [] (d_law_sketch.adr K) fd__law_sketch
  fd__law_ends : FuncData
  F__law_ends : FunD K "_law_ends" "_law_ends" (defArgs s_law_ends) (defBody s_law_ends) (defScope s_law_ends) [] [] (d_law_ends.adr K) fd__law_ends
  fd__law_degrees : FuncData
  F__law_degrees : FunD K "_law_degrees" "_law_degrees" (defArgs s_law_degrees) (defBody s_law_degrees) (defScope s_law_degrees) [] [] (d_law_degrees.adr K) fd__law_degrees
  fd__law_odd : FuncData
  F__law_odd : FunD K "_law_odd" "_law_odd" (defArgs s_law_odd) (defBody s_law_odd) (defScope s_law_odd) [] [] (d_law_odd.adr K) fd__law_odd
  fd__law_right : FuncData
  F__law_right : FunD K "_law_right" "_law_right" (defArgs s_law_right) (defBody s_law_right) (defScope s_law_right) [] [] (d_law_right.adr K) fd__law_right
  fd_law : FuncData
  F_law : FunD K "law" "law" (defArgs slaw) (defBody slaw) (defScope slaw) [] [] (dlaw.adr K) fd_law
theorem tx_of {K : PySem.W.Frag} {h : Heap} {mg : Str → Option Value} (X : K.In h) (G : h.Ns mainGlobals mg) (c : HP.SaysA facts fns K) : Tx K mg where
  g_is_integer := He.glo_ok X G (c.fact 0 rfl)
  g_is_integer_within := He.glo_ok X G (c.fact 1 rfl)
  g_is_tuple_of := He.glo_ok X G (c.fact 2 rfl)
  g_is_point := He.glo_ok X G (c.fact 3 rfl)
  g_check_point := He.glo_ok X G (c.fact 4 rfl)
  g_tally := He.glo_ok X G (c.fact 5 rfl)
  g_odd_ones := He.glo_ok X G (c.fact 6 rfl)
  p_Picture_edges := HP.propB_ok (c.fact 7 rfl)
  m_Picture_len := He.meth_ok (c.fact 8 rfl)
  m_Picture_eq := He.meth_ok (c.fact 9 rfl)
  m_Picture_contains := He.meth_ok (c.fact 10 rfl)
  m_Picture_xor := He.meth_ok (c.fact 11 rfl)
  m_Picture_moved := He.meth_ok (c.fact 12 rfl)
  m_Picture_turned := He.meth_ok (c.fact 13 rfl)
  g_is_edge := He.glo_ok X G (c.fact 14 rfl)
  g_ends_of_edge := He.glo_ok X G (c.fact 15 rfl)
  g_check_edges := He.glo_ok X G (c.fact 16 rfl)
  g_check_picture := He.glo_ok X G (c.fact 17 rfl)
  g_degree_at := He.glo_ok X G (c.fact 18 rfl)
  g_odd_points := He.glo_ok X G (c.fact 19 rfl)
  g_is_even := He.glo_ok X G (c.fact 20 rfl)
  g__law_well := He.glo_ok X G (c.fact 21 rfl)
  g__law_dip := He.glo_ok X G (c.fact 22 rfl)
  g__law_toggle := He.glo_ok X G (c.fact 23 rfl)
  g__law_frame := He.glo_ok X G (c.fact 24 rfl)
  g__law_sketch := He.glo_ok X G (c.fact 25 rfl)
  g__law_ends := He.glo_ok X G (c.fact 26 rfl)
  g__law_degrees := He.glo_ok X G (c.fact 27 rfl)
  g__law_odd := He.glo_ok X G (c.fact 28 rfl)
  g__law_right := He.glo_ok X G (c.fact 29 rfl)
  g_law := He.glo_ok X G (c.fact 30 rfl)
  g_PlotError := He.glo_ok X G (c.fact 31 rfl)
  g_InvalidPoint := He.glo_ok X G (c.fact 32 rfl)
  g_InvalidPicture := He.glo_ok X G (c.fact 33 rfl)
  g_Picture := He.glo_ok X G (c.fact 34 rfl)
  c_Picture := He.cls_ok (c.fact 35 rfl)
  k_Picture := He.mkr_ok (c.fact 36 rfl)
  i_Picture := HP.isiB_ok (c.fact 37 rfl)
  t_Picture := of_decide_eq_true (c.fact 38 rfl)
  n_Picture__edges := He.noat_ok (c.fact 39 rfl)
  n_Picture__has := He.noat_ok (c.fact 40 rfl)
  z_ValueError := He.free_ok X G (c.fact 41 rfl)
  z_all := He.free_ok X G (c.fact 42 rfl)
  z_bool := He.free_ok X G (c.fact 43 rfl)
  z_int := He.free_ok X G (c.fact 44 rfl)
  z_isinstance := He.free_ok X G (c.fact 45 rfl)
  z_len := He.free_ok X G (c.fact 46 rfl)
  z_list := He.free_ok X G (c.fact 47 rfl)
  z_max := He.free_ok X G (c.fact 48 rfl)
  z_min := He.free_ok X G (c.fact 49 rfl)
  z_property := He.free_ok X G (c.fact 50 rfl)
  z_range := He.free_ok X G (c.fact 51 rfl)
  z_repr := He.free_ok X G (c.fact 52 rfl)
  z_set := He.free_ok X G (c.fact 53 rfl)
  z_sorted := He.free_ok X G (c.fact 54 rfl)
  z_tuple := He.free_ok X G (c.fact 55 rfl)
theorem ds_of {K : PySem.W.Frag} (c : HP.SaysA facts fns K) : Nonempty (Ds K) := by
  obtain ⟨f0, p0⟩ := c.def_ 0 (d := dis_integer) rfl
  obtain ⟨f1, p1⟩ := c.def_ 1 (d := dis_integer_within) rfl
  obtain ⟨f2, p2⟩ := c.def_ 2 (d := dis_tuple_of) rfl
  obtain ⟨f3, p3⟩ := c.def_ 3 (d := dis_point) rfl
  obtain ⟨f4, p4⟩ := c.def_ 4 (d := dcheck_point) rfl
  obtain ⟨f5, p5⟩ := c.def_ 5 (d := dtally) rfl
  obtain ⟨f6, p6⟩ := c.def_ 6 (d := dodd_ones) rfl
  obtain ⟨f7, p7⟩ := c.def_ 7 (d := dPicture_init) rfl
  obtain ⟨f8, p8⟩ := c.def_ 8 (d := dPicture_edges) rfl
  obtain ⟨f9, p9⟩ := c.def_ 9 (d := dPicture_len) rfl
  obtain ⟨f10, p10⟩ := c.def_ 10 (d := dPicture_eq) rfl
  obtain ⟨f11, p11⟩ := c.def_ 11 (d := dPicture_contains) rfl
  obtain ⟨f12, p12⟩ := c.def_ 12 (d := dPicture_xor) rfl
  obtain ⟨f13, p13⟩ := c.def_ 13 (d := dPicture_moved) rfl
  obtain ⟨f14, p14⟩ := c.def_ 14 (d := dPicture_turned) rfl
  obtain ⟨f15, p15⟩ := c.def_ 15 (d := dis_edge) rfl
  obtain ⟨f16, p16⟩ := c.def_ 16 (d := dends_of_edge) rfl
  obtain ⟨f17, p17⟩ := c.def_ 17 (d := dcheck_edges) rfl
  obtain ⟨f18, p18⟩ := c.def_ 18 (d := dcheck_picture) rfl
  obtain ⟨f19, p19⟩ := c.def_ 19 (d := ddegree_at) rfl
  obtain ⟨f20, p20⟩ := c.def_ 20 (d := dodd_points) rfl
  obtain ⟨f21, p21⟩ := c.def_ 21 (d := dis_even) rfl
  obtain ⟨f22, p22⟩ := c.def_ 22 (d := d_law_well) rfl
  obtain ⟨f23, p23⟩ := c.def_ 23 (d := d_law_dip) rfl
  obtain ⟨f24, p24⟩ := c.def_ 24 (d := d_law_toggle) rfl
  obtain ⟨f25, p25⟩ := c.def_ 25 (d := d_law_frame) rfl
  obtain ⟨f26, p26⟩ := c.def_ 26 (d := d_law_sketch) rfl
  obtain ⟨f27, p27⟩ := c.def_ 27 (d := d_law_ends) rfl
  obtain ⟨f28, p28⟩ := c.def_ 28 (d := d_law_degrees) rfl
  obtain ⟨f29, p29⟩ := c.def_ 29 (d := d_law_odd) rfl
  obtain ⟨f30, p30⟩ := c.def_ 30 (d := d_law_right) rfl
  obtain ⟨f31, p31⟩ := c.def_ 31 (d := dlaw) rfl
  exact ⟨⟨f0, p0, f1, p1, f2, p2, f3, p3, f4, p4, f5, p5, f6, p6, f7, p7, f8, p8, f9, p9, f10, p10, f11, p11, f12, p12, f13, p13, f14, p14, f15, p15, f16, p16, f17, p17, f18, p18, f19, p19, f20, p20, f21, p21, f22, p22, f23, p23, f24, p24, f25, p25, f26, p26, f27, p27, f28, p28, f29, p29, f30, p30, f31, p31⟩⟩
theorem b_is_integer {K : PySem.W.Frag} (D : Ds K) : Binds K D.fd_is_integer ["value"] [] := D.F_is_integer.bindsN fun _ _ _ _ _ _ us hl => match us, hl with | [_], _ => rfl
theorem b_is_integer_within {K : PySem.W.Frag} (D : Ds K) : Binds K D.fd_is_integer_within ["value", "least", "most"] [] := D.F_is_integer_within.bindsN fun _ _ _ _ _ _ us hl => match us, hl with | [_, _, _], _ => rfl
theorem b_is_tuple_of {K : PySem.W.Frag} (D : Ds K) : Binds K D.fd_is_tuple_of ["value", "many"] [] := D.F_is_tuple_of.bindsN fun _ _ _ _ _ _ us hl => match us, hl with | [_, _], _ => rfl
theorem b_is_point {K : PySem.W.Frag} (D : Ds K) : Binds K D.fd_is_point ["value"] [] := D.F_is_point.bindsN fun _ _ _ _ _ _ us hl => match us, hl with | [_], _ => rfl
theorem b_check_point {K : PySem.W.Frag} (D : Ds K) : Binds K D.fd_check_point ["point"] [] := D.F_check_point.bindsN fun _ _ _ _ _ _ us hl => match us, hl with | [_], _ => rfl
theorem b_tally {K : PySem.W.Frag} (D : Ds K) : Binds K D.fd_tally ["values"] [] := D.F_tally.bindsN fun _ _ _ _ _ _ us hl => match us, hl with | [_], _ => rfl
theorem b_odd_ones {K : PySem.W.Frag} (D : Ds K) : Binds K D.fd_odd_ones ["values"] [] := D.F_odd_ones.bindsN fun _ _ _ _ _ _ us hl => match us, hl with | [_], _ => rfl
theorem b_Picture_init {K : PySem.W.Frag} (D : Ds K) : Binds K D.fd_Picture_init ["self", "edges"] [] := D.F_Picture_init.bindsN fun _ _ _ _ _ _ us hl => match us, hl with | [_, _], _ => rfl
theorem b_Picture_edges {K : PySem.W.Frag} (D : Ds K) : Binds K D.fd_Picture_edges ["self"] [] := D.F_Picture_edges.bindsN fun _ _ _ _ _ _ us hl => match us, hl with | [_], _ => rfl
theorem b_Picture_len {K : PySem.W.Frag} (D : Ds K) : Binds K D.fd_Picture_len ["self"] [] := D.F_Picture_len.bindsN fun _ _ _ _ _ _ us hl => match us, hl with | [_], _ => rfl
theorem b_Picture_eq {K : PySem.W.Frag} (D : Ds K) : Binds K D.fd_Picture_eq ["self", "other"] [] := D.F_Picture_eq.bindsN fun _ _ _ _ _ _ us hl => match us, hl with | [_, _], _ => rfl
theorem b_Picture_contains {K : PySem.W.Frag} (D : Ds K) : Binds K D.fd_Picture_contains ["self", "x"] [] := D.F_Picture_contains.bindsN fun _ _ _ _ _ _ us hl => match us, hl with | [_, _], _ => rfl
theorem b_Picture_xor {K : PySem.W.Frag} (D : Ds K) : Binds K D.fd_Picture_xor ["self", "other"] [] := D.F_Picture_xor.bindsN fun _ _ _ _ _ _ us hl => match us, hl with | [_, _], _ => rfl
theorem b_Picture_moved {K : PySem.W.Frag} (D : Ds K) : Binds K D.fd_Picture_moved ["self", "dx", "dy"] [] := D.F_Picture_moved.bindsN fun _ _ _ _ _ _ us hl => match us, hl with | [_, _, _], _ => rfl
theorem b_Picture_turned {K : PySem.W.Frag} (D : Ds K) : Binds K D.fd_Picture_turned ["self", "quarters"] [] := D.F_Picture_turned.bindsN fun _ _ _ _ _ _ us hl => match us, hl with | [_, _], _ => rfl
theorem b_is_edge {K : PySem.W.Frag} (D : Ds K) : Binds K D.fd_is_edge ["value"] [] := D.F_is_edge.bindsN fun _ _ _ _ _ _ us hl => match us, hl with | [_], _ => rfl
theorem b_ends_of_edge {K : PySem.W.Frag} (D : Ds K) : Binds K D.fd_ends_of_edge ["edge"] [] := D.F_ends_of_edge.bindsN fun _ _ _ _ _ _ us hl => match us, hl with | [_], _ => rfl
theorem b_check_edges {K : PySem.W.Frag} (D : Ds K) : Binds K D.fd_check_edges ["edges"] [] := D.F_check_edges.bindsN fun _ _ _ _ _ _ us hl => match us, hl with | [_], _ => rfl
theorem b_check_picture {K : PySem.W.Frag} (D : Ds K) : Binds K D.fd_check_picture ["picture"] [] := D.F_check_picture.bindsN fun _ _ _ _ _ _ us hl => match us, hl with | [_], _ => rfl
theorem b_degree_at {K : PySem.W.Frag} (D : Ds K) : Binds K D.fd_degree_at ["picture", "point"] [] := D.F_degree_at.bindsN fun _ _ _ _ _ _ us hl => match us, hl with | [_, _], _ => rfl
theorem b_odd_points {K : PySem.W.Frag} (D : Ds K) : Binds K D.fd_odd_points ["picture"] [] := D.F_odd_points.bindsN fun _ _ _ _ _ _ us hl => match us, hl with | [_], _ => rfl
theorem b_is_even {K : PySem.W.Frag} (D : Ds K) : Binds K D.fd_is_even ["picture"] [] := D.F_is_even.bindsN fun _ _ _ _ _ _ us hl => match us, hl with | [_], _ => rfl
theorem b__law_well {K : PySem.W.Frag} (D : Ds K) : Binds K D.fd__law_well ["script", "k"] [] := D.F__law_well.bindsN fun _ _ _ _ _ _ us hl => match us, hl with | [_, _], _ => rfl
theorem b__law_dip {K : PySem.W.Frag} (D : Ds K) : Binds K D.fd__law_dip ["ink", "many"] [] := D.F__law_dip.bindsN fun _ _ _ _ _ _ us hl => match us, hl with | [_, _], _ => rfl
theorem b__law_toggle {K : PySem.W.Frag} (D : Ds K) : Binds K D.fd__law_toggle ["found", "some"] [] := D.F__law_toggle.bindsN fun _ _ _ _ _ _ us hl => match us, hl with | [_, _], _ => rfl
theorem b__law_frame {K : PySem.W.Frag} (D : Ds K) : Binds K D.fd__law_frame ["x", "y"] [] := D.F__law_frame.bindsN fun _ _ _ _ _ _ us hl => match us, hl with | [_, _], _ => rfl
theorem b__law_sketch {K : PySem.W.Frag} (D : Ds K) : Binds K D.fd__law_sketch ["ink", "most", "wide_off"] [] := D.F__law_sketch.bindsN fun _ _ _ _ _ _ us hl => match us, hl with | [_, _, _], _ => rfl
theorem b__law_ends {K : PySem.W.Frag} (D : Ds K) : Binds K D.fd__law_ends ["edge_here"] [] := D.F__law_ends.bindsN fun _ _ _ _ _ _ us hl => match us, hl with | [_], _ => rfl
theorem b__law_degrees {K : PySem.W.Frag} (D : Ds K) : Binds K D.fd__law_degrees ["edges_here"] [] := D.F__law_degrees.bindsN fun _ _ _ _ _ _ us hl => match us, hl with | [_], _ => rfl
theorem b__law_odd {K : PySem.W.Frag} (D : Ds K) : Binds K D.fd__law_odd ["edges_here"] [] := D.F__law_odd.bindsN fun _ _ _ _ _ _ us hl => match us, hl with | [_], _ => rfl
theorem b__law_right {K : PySem.W.Frag} (D : Ds K) : Binds K D.fd__law_right ["ink", "edges_here"] [] := D.F__law_right.bindsN fun _ _ _ _ _ _ us hl => match us, hl with | [_, _], _ => rfl
theorem b_law {K : PySem.W.Frag} (D : Ds K) : Binds K D.fd_law ["script"] [] := D.F_law.bindsN fun _ _ _ _ _ _ us hl => match us, hl with | [_], _ => rfl
abbrev Rw : PySem.W.OpenRow := PySem.W.OpenLaw.row PySem.Challenge.rw_plotpens_k29_degrees_and_odd_points
abbrev hk : PySem.W.Hook := HP.hookA 6 facts fns
def ob (s : PySem.W.SharedT) : HP.Al := HP.obsAG 6 facts fns (HandSHeadRun.getT s)
theorem ob_eq (s : PySem.W.SharedT) : ob s = hk.obs s.abs := HP.obsAG_eq (HandSHeadRun.getT_eq s)
end K29

set_option Elab.async false
set_option linter.all false
set_option maxRecDepth 100000
set_option maxHeartbeats 4000000
/-! tables of sets: every slot is met on every way, for masks up to 2047 -/
namespace TT
open PySem PySem.Spec PyProof.Rows L2
/-- the slots that are met from x on, as bits -/
def marks (m : Nat) : Nat → Nat → Nat → Nat
  | 0, _, seen => seen
  | k + 1, x, seen => marks m k ((x * 5 + 1) % (m + 1)) (seen ||| (1 <<< x))
theorem lcgI_next (m x : Nat) : ∀ b, lcgI m ((x * 5 + 1) % (m + 1)) b = lcgI m x (b + 1)
  | 0 => rfl
  | b + 1 => by
    show (lcgI m ((x * 5 + 1) % (m + 1)) b * 5 + 1) % (m + 1) = (lcgI m x (b + 1) * 5 + 1) % (m + 1)
    rw [lcgI_next m x b]
theorem marks_bit (m j : Nat) : ∀ (k x seen : Nat), (marks m k x seen).testBit j = true → seen.testBit j = true ∨ ∃ b, b < k ∧ lcgI m x b = j
  | 0, x, seen, h => .inl h
  | k + 1, x, seen, h => by
    rcases marks_bit m j k _ _ h with h | ⟨b, hb, e⟩
    · rw [Nat.testBit_or, Bool.or_eq_true] at h
      rcases h with h | h
      · exact .inl h
      · refine .inr ⟨0, Nat.succ_pos _, ?_⟩
        rw [Nat.one_shiftLeft, Nat.testBit_two_pow] at h
        exact of_decide_eq_true h
    · exact .inr ⟨b + 1, Nat.succ_lt_succ hb, by rw [← lcgI_next]; exact e⟩
/-- all slots are met from 0 on, and then 0 again -/
def Round (m : Nat) : Prop := (∀ j, j ≤ m → ∃ b, b ≤ m ∧ lcgI m 0 b = j) ∧ lcgI m 0 (m + 1) = 0
theorem round_of {m : Nat} (h1 : marks m (m + 1) 0 0 = 2 ^ (m + 1) - 1) (h2 : lcgI m 0 (m + 1) = 0) : Round m := by
  refine ⟨fun j hj => ?_, h2⟩
  have hb : (marks m (m + 1) 0 0).testBit j = true := by
    rw [h1, Nat.testBit_two_pow_sub_one]
    exact decide_eq_true (Nat.lt_succ_of_le hj)
  rcases marks_bit m j _ _ _ hb with h | ⟨b, hb, e⟩
  · rw [Nat.zero_testBit] at h
    cases h
  · exact ⟨b, Nat.le_of_lt_succ hb, e⟩
theorem lcgI_add (m x a : Nat) : ∀ k, lcgI m (lcgI m x a) k = lcgI m x (a + k)
  | 0 => rfl
  | k + 1 => by
    show (lcgI m (lcgI m x a) k * 5 + 1) % (m + 1) = (lcgI m x (a + k) * 5 + 1) % (m + 1)
    rw [lcgI_add m x a k]
/-- from anywhere each slot is met within a round -/
theorem Round.any {m : Nat} (R : Round m) {i j : Nat} (hi : i ≤ m) (hj : j ≤ m) : ∃ k, k ≤ m ∧ lcgI m i k = j := by
  obtain ⟨a, ha, rfl⟩ := R.1 i hi
  obtain ⟨b, hb, rfl⟩ := R.1 j hj
  by_cases c : a ≤ b
  · refine ⟨b - a, by omega, ?_⟩
    rw [lcgI_add, Nat.add_sub_cancel' c]
  · refine ⟨m + 1 - a + b, by omega, ?_⟩
    rw [lcgI_add, ← Nat.add_assoc, Nat.add_sub_cancel' (by omega), ← lcgI_add, R.2]
/-- what a table's mask has to grant: on the way of any hash each slot is where a run begins, early enough -/
def Full (m : Nat) : Prop := ∀ (h : Int) (j : Nat), j ≤ m → ∃ n, n ≤ m + 12 ∧ runI m (SetTable.bits h) n = j
theorem Round.full {m : Nat} (R : Round m) : Full m := fun h j hj => by
  obtain ⟨k, hk, e⟩ := R.any (runI_le m (SetTable.bits h) 12) hj
  exact ⟨12 + k, by omega, (runI_tail (bits_lt h) k).trans e⟩
theorem full7 : Full 7 := Round.full (round_of (by decide +kernel) (by decide +kernel))
theorem full31 : Full 31 := Round.full (round_of (by decide +kernel) (by decide +kernel))
theorem full127 : Full 127 := Round.full (round_of (by decide +kernel) (by decide +kernel))
theorem full511 : Full 511 := Round.full (round_of (by decide +kernel) (by decide +kernel))
theorem full2047 : Full 2047 := Round.full (round_of (by decide +kernel) (by decide +kernel))
/-- the masks that come, up to so many items -/
inductive Mask : Nat → Prop
  | a : Mask 7
  | b : Mask 31
  | c : Mask 127
  | d : Mask 511
  | e : Mask 2047
theorem Mask.full {m : Nat} (M : Mask m) : Full m := by
  cases M
  · exact full7
  · exact full31
  · exact full127
  · exact full511
  · exact full2047
theorem Mask.odd {m : Nat} (M : Mask m) : m % 2 = 1 := by cases M <;> rfl
theorem Mask.le {m : Nat} (M : Mask m) : m ≤ 2047 := by cases M <;> decide
theorem grown_5 : SetTable.sizeAbove (SetTable.grown 5) = 32 := by decide +kernel
theorem grown_19 : SetTable.sizeAbove (SetTable.grown 19) = 128 := by decide +kernel
theorem grown_77 : SetTable.sizeAbove (SetTable.grown 77) = 512 := by decide +kernel
theorem grown_307 : SetTable.sizeAbove (SetTable.grown 307) = 2048 := by decide +kernel
/-- a table that is too full is laid anew with the next mask, which has room -/
theorem Mask.next {m n : Nat} (M : Mask m) (h1 : n * 5 < m * 3) (h2 : (n + 1) * 5 ≥ m * 3) (h3 : n + 1 ≤ 1228) : ∃ m', Mask m' ∧ SetTable.sizeAbove (SetTable.grown (n + 1)) = m' + 1 ∧ (n + 1) * 5 < m' * 3 := by
  cases M
  · obtain rfl : n = 4 := by omega
    exact ⟨31, .b, grown_5, by omega⟩
  · obtain rfl : n = 18 := by omega
    exact ⟨127, .c, grown_19, by omega⟩
  · obtain rfl : n = 76 := by omega
    exact ⟨511, .d, grown_77, by omega⟩
  · obtain rfl : n = 306 := by omega
    exact ⟨2047, .e, grown_307, by omega⟩
  · omega
theorem slot_in {m : Nat} {h : Int} {k : Nat} : way m h k ≤ m := by
  have b := runEnd_bd (runI_le m (SetTable.bits h) 0)
  have q := nth_in (m := m) k (runAt m (SetTable.bits h % (m + 1)) (SetTable.bits h)) (by
    show SetTable.bits h % (m + 1) + (SetTable.runEnd m (SetTable.bits h % (m + 1)) - SetTable.bits h % (m + 1)) ≤ m
    have b' : SetTable.runEnd m (SetTable.bits h % (m + 1)) ≤ m ∧ SetTable.bits h % (m + 1) ≤ SetTable.runEnd m (SetTable.bits h % (m + 1)) ∧ SetTable.runEnd m (SetTable.bits h % (m + 1)) ≤ SetTable.bits h % (m + 1) + 9 := b
    omega)
  exact Nat.le_trans (Nat.le_add_right _ _) q
end TT

set_option Elab.async false
set_option linter.all false
set_option maxRecDepth 100000
set_option maxHeartbeats 4000000
/-! where hashes sit in a table -/
namespace TT
open PySem PySem.Spec PyProof.Rows L2
/-- hashes and their slots: each slot is the first free one on its hash's way, given the others -/
structure Placed (m : Nat) (hs : List Int) (ps : List Nat) : Prop where
  len : ps.length = hs.length
  bd : ∀ j ∈ ps, j ≤ m
  reach : ∀ (i : Nat) (h : Int) (j : Nat), hs[i]? = some h → ps[i]? = some j → ∃ K, way m h K = j ∧ ∀ k, k < K → way m h k ∈ ps
theorem Placed.nil (m : Nat) : Placed m [] [] := ⟨rfl, fun j hj => (by cases hj), fun i h j e => (by simp at e)⟩
/-- the first free slot of a way -/
theorem Placed.free {m : Nat} {hs : List Int} {ps : List Nat} (T : Placed m hs ps) (F : Full m) (few : hs.length ≤ m) (h : Int) :
    ∃ K, K < 10 * SetTable.turns m ∧ K ≤ off m (SetTable.bits h % (m + 1)) (SetTable.bits h) (m + 12) ∧ way m h K ∉ ps ∧ ∀ k, k < K → way m h k ∈ ps := by
  obtain ⟨j, hj, out⟩ := st_missing ps (m + 1) (by rw [T.len]; omega)
  obtain ⟨n, hn, e⟩ := F h j (Nat.le_of_lt_succ hj)
  obtain ⟨k0, hk0, e0⟩ := run_nth m (SetTable.bits h) n
  have at0 : way m h k0 = j := by
    show (nth m (runAt m (SetTable.bits h % (m + 1)) (SetTable.bits h)) k0).j = j
    rw [e0]
    exact e
  have at1 : way m h (off m (SetTable.bits h % (m + 1)) (SetTable.bits h) n) = j := by
    show (nth m (runAt m (SetTable.bits h % (m + 1)) (SetTable.bits h)) (off m (SetTable.bits h % (m + 1)) (SetTable.bits h) n)).j = j
    rw [nth_off, itL_run]
    exact e
  obtain ⟨K, l0, l1, l2⟩ := st_least (p := fun k => way m h k ∉ ps) k0 (by show way m h k0 ∉ ps; rw [at0]; exact out)
  have l3 : K ≤ off m (SetTable.bits h % (m + 1)) (SetTable.bits h) n := by
    refine Nat.le_of_not_lt fun z => l2 _ z ?_
    show way m h (off m (SetTable.bits h % (m + 1)) (SetTable.bits h) n) ∉ ps
    rw [at1]
    exact out
  have mono : ∀ (b' i' c d : Nat), off m i' b' c ≤ off m i' b' (c + d) := fun b' i' c d => by
    induction c generalizing b' i' with
    | zero => exact Nat.zero_le _
    | succ c ih =>
      rw [Nat.add_right_comm]
      exact Nat.add_le_add_left (ih _ _) _
  have tu : SetTable.turns m = m + 15 := rfl
  refine ⟨K, by omega, Nat.le_trans l3 ?_, l1, fun k hk => Classical.byContradiction (l2 k hk)⟩
  have q := mono (SetTable.bits h) (SetTable.bits h % (m + 1)) n (m + 12 - n)
  rwa [Nat.add_sub_cancel' hn] at q
/-- one more, at any place of both lists -/
theorem Placed.ins {m : Nat} {hs : List Int} {ps : List Nat} (T : Placed m hs ps) {h : Int} {K p : Nat} (hp : p ≤ hs.length) (hb : ∀ k, k < K → way m h k ∈ ps) :
    Placed m (hs.take p ++ h :: hs.drop p) (ps.take p ++ way m h K :: ps.drop p) := by
  have hp' : p ≤ ps.length := by rw [T.len]; exact hp
  refine ⟨by rw [len_ins _ hp, len_ins _ hp', T.len], fun j hj => ?_, fun i h' j' e1 e2 => ?_⟩
  · rcases mem_ins.1 hj with rfl | hj
    · exact slot_in
    · exact T.bd j hj
  · have go : ∀ i', hs[i']? = some h' → ps[i']? = some j' → ∃ K', way m h' K' = j' ∧ ∀ k, k < K' → way m h' k ∈ ps.take p ++ way m h K :: ps.drop p := fun i' f1 f2 => by
      obtain ⟨K', e, b⟩ := T.reach i' h' j' f1 f2
      exact ⟨K', e, fun k hk => mem_ins.2 (.inr (b k hk))⟩
    rw [tins_get hs hp] at e1
    rw [tins_get ps hp'] at e2
    by_cases c : i < p
    · rw [if_pos c] at e1 e2
      exact go i e1 e2
    · rw [if_neg c] at e1 e2
      by_cases d : i = p
      · rw [if_pos d] at e1 e2
        cases e1
        cases e2
        exact ⟨K, rfl, fun k hk => mem_ins.2 (.inr (hb k hk))⟩
      · rw [if_neg d] at e1 e2
        exact go (i - 1) e1 e2
/-- what sits on the way before a free slot -/
theorem Placed.before {m : Nat} {hs : List Int} {ps : List Nat} (T : Placed m hs ps) {h : Int} {K i j : Nat} (out : way m h K ∉ ps) (e1 : hs[i]? = some h) (e2 : ps[i]? = some j) : ∃ k, k < K ∧ way m h k = j := by
  obtain ⟨K', rfl, b⟩ := T.reach i h j e1 e2
  refine ⟨K', Nat.lt_of_not_le fun z => ?_, rfl⟩
  rcases Nat.lt_or_eq_of_le z with c | c
  · exact out (b K c)
  · exact out (c ▸ List.mem_of_getElem? e2)

/-! ### laying all anew -/
/-- the array of who sits where, for hashes and their slots -/
structure Seats (m : Nat) (hs : List Int) (ps : List Nat) (ow : Array (Option Nat)) : Prop where
  size : ow.size = m + 1
  ok : Placed m hs ps
  who : ∀ j, j ≤ m → ∀ k, oAt ow j = some k ↔ ps[k]? = some j
theorem Seats.init (m : Nat) : Seats m [] [] (Array.replicate (m + 1) none) where
  size := Array.size_replicate
  ok := .nil m
  who := fun j hj k => by
    rw [oAt_init hj]
    constructor
    · intro z; cases z
    · intro z; simp at z
theorem Seats.free {m : Nat} {hs : List Int} {ps : List Nat} {ow : Array (Option Nat)} (S : Seats m hs ps ow) {j : Nat} (hj : j ≤ m) : (oAt ow j).isNone = true ↔ j ∉ ps := by
  constructor
  · intro z y
    obtain ⟨k, ek⟩ := List.mem_iff_getElem?.mp y
    rw [(S.who j hj k).2 ek] at z
    cases z
  · intro z
    cases c : oAt ow j with
    | none => rfl
    | some k => exact absurd (List.mem_of_getElem? ((S.who j hj k).1 c)) z
theorem Seats.step {m : Nat} {hs : List Int} {ps : List Nat} {ow : Array (Option Nat)} (S : Seats m hs ps ow) (F : Full m) (few : hs.length ≤ m) (h : Int) :
    ∃ j, SetTable.layClean.free m ow (SetTable.turns m) (SetTable.bits h % (m + 1)) (SetTable.bits h) = some j ∧ Seats m (hs ++ [h]) (ps ++ [j]) (ow.setIfInBounds j (some hs.length)) := by
  obtain ⟨K, _, hK, out, b⟩ := S.ok.free F few h
  have hjm : way m h K ≤ m := slot_in
  refine ⟨way m h K, free_spec m ow (SetTable.turns m) (m + 12) _ _ K (by unfold SetTable.turns; omega) hK (fun k hk => ?_) ((S.free hjm).2 out), ?_⟩
  · have q := b k hk
    cases z : (oAt ow (nth m (runAt m (SetTable.bits h % (m + 1)) (SetTable.bits h)) k).j).isNone with
    | false => rfl
    | true => exact absurd q ((S.free slot_in).1 z)
  have l := S.ok.len
  refine ⟨by rw [Array.size_setIfInBounds]; exact S.size, ?_, fun j hj k => ?_⟩
  · have q := S.ok.ins (p := hs.length) (h := h) (K := K) (Nat.le_refl _) b
    rw [List.take_length, List.drop_length, ← l, List.take_length, List.drop_length] at q
    exact q
  · by_cases c : j = way m h K
    · rw [c, oAt_set_self _ (by rw [S.size]; omega)]
      constructor
      · intro z
        cases z
        rw [← l, List.getElem?_append_right (Nat.le_refl _), Nat.sub_self]
        rfl
      · intro z
        by_cases d : k < ps.length
        · rw [List.getElem?_append_left d] at z
          exact absurd (List.mem_of_getElem? z) out
        · by_cases d' : k = ps.length
          · rw [d', l]
          · rw [List.getElem?_eq_none (by rw [List.length_append, List.length_singleton]; omega)] at z
            cases z
    · rw [oAt_set_ne _ c, S.who j hj k]
      by_cases d : k < ps.length
      · rw [List.getElem?_append_left d]
      · constructor
        · intro z
          exact absurd (List.getElem?_eq_some_iff.mp z).1 d
        · intro z
          by_cases d' : k = ps.length
          · rw [d', List.getElem?_append_right (Nat.le_refl _), Nat.sub_self] at z
            exact absurd (Option.some.inj z).symm c
          · rw [List.getElem?_eq_none (by rw [List.length_append, List.length_singleton]; omega)] at z
            cases z
theorem Seats.all {m : Nat} (F : Full m) : ∀ (more hs : List Int) (ps : List Nat) (ow : Array (Option Nat)), Seats m hs ps ow → hs.length + more.length ≤ m →
    ∃ ps' ow', more.foldl (stepF m) (some (ow, hs.length)) = some (ow', (hs ++ more).length) ∧ Seats m (hs ++ more) ps' ow'
  | [], hs, ps, ow, S, _ => ⟨ps, ow, by rw [List.append_nil]; rfl, by rw [List.append_nil]; exact S⟩
  | h :: more, hs, ps, ow, S, few => by
    rw [List.length_cons] at few
    obtain ⟨j, e, S'⟩ := S.step F (by omega) h
    have l : (hs ++ [h]).length = hs.length + 1 := by rw [List.length_append]; rfl
    obtain ⟨ps', ow', e', S''⟩ := Seats.all F more (hs ++ [h]) _ _ S' (by rw [l]; omega)
    rw [l, List.append_assoc] at e'
    rw [List.append_assoc] at S''
    exact ⟨ps', ow', by rw [List.foldl_cons, stepF_some e]; exact e', S''⟩
/-- all hashes laid anew: in which order, and where -/
theorem relaid_placed (t : SetTable) {hs : Array Int} {wanted m : Nat} (hw : SetTable.sizeAbove wanted = m + 1) (F : Full m) (few : hs.size ≤ m) :
    ∃ t' order, t.relaid hs wanted = some (t', order) ∧ order.toList.Perm (List.range hs.size) ∧ Ris t'.place.toList ∧ Placed m (order.toList.map fun i => hs.getD i 0) t'.place.toList ∧ t'.mask = m ∧ t'.led = t.led ∧ t'.plain = t.plain ∧ t'.dummies = #[] := by
  obtain ⟨ps, ow, e, S⟩ := Seats.all F hs.toList [] [] _ (Seats.init m) (by rw [Array.length_toList]; show 0 + hs.size ≤ m; omega)
  rw [List.nil_append] at S e
  have hr : t.relaid hs wanted = some (tabOf t m ow, ((liveOf m ow).map (·.2)).toArray) := by
    rw [relaid_eq, hw, Nat.add_sub_cancel, layClean_eq]
    have e' : hs.toList.foldl (stepF m) (some (Array.replicate (m + 1) none, 0)) = some (ow, hs.toList.length) := e
    rw [e']
    rfl
  have ris := ris_live (fun j => ow.getD j none) (List.range (m + 1)) (List.pairwise_lt_range)
  have r1 : Ris ((liveOf m ow).map (·.1)) := ris.1
  have mem : ∀ j k, (j, k) ∈ liveOf m ow ↔ ps[k]? = some j := fun j k => by
    rw [mem_live S.size]
    constructor
    · rintro ⟨a, b⟩
      exact (S.who j a k).1 b
    · intro b
      have a : j ≤ m := S.ok.bd j (List.mem_of_getElem? b)
      exact ⟨a, (S.who j a k).2 b⟩
  refine ⟨_, _, hr, ?_, r1, ⟨?_, fun j hj => ?_, fun i h j e1 e2 => ?_⟩, rfl, rfl, rfl, rfl⟩
  · -- the order
    show ((liveOf m ow).map (·.2)).Perm (List.range hs.size)
    refine (List.perm_ext_iff_of_nodup ?_ List.nodup_range).mpr fun k => ?_
    · refine List.pairwise_map.mpr (List.Pairwise.imp_of_mem (fun {a b} ha hb ne z => ?_) (List.pairwise_map.mp r1))
      have h1 := (mem a.1 a.2).1 ha
      have h2 := (mem b.1 b.2).1 hb
      have z' : a.2 = b.2 := z
      rw [z', h2] at h1
      have : b.1 = a.1 := Option.some.inj h1
      have ne' : a.1 < b.1 := ne
      omega
    · rw [List.mem_range, List.mem_map]
      have l : ps.length = hs.size := S.ok.len
      constructor
      · rintro ⟨⟨j, k'⟩, hm, rfl⟩
        have q := (List.getElem?_eq_some_iff.mp ((mem j k').1 hm)).1
        show k' < hs.size
        omega
      · intro z
        exact ⟨(ps[k]'(by omega), k), (mem _ k).2 (List.getElem?_eq_getElem _), rfl⟩
  · show ((liveOf m ow).map (·.1)).length = (((liveOf m ow).map (·.2)).map fun i => hs.getD i 0).length
    rw [List.length_map, List.length_map, List.length_map]
  · have hj' : j ∈ (liveOf m ow).map (·.1) := hj
    obtain ⟨⟨j', k⟩, hm, rfl⟩ := List.mem_map.mp hj'
    exact S.ok.bd j' (List.mem_of_getElem? ((mem j' k).1 hm))
  · have e1' : (((liveOf m ow).map (·.2)).map fun i => hs.getD i 0)[i]? = some h := e1
    have e2' : ((liveOf m ow).map (·.1))[i]? = some j := e2
    rw [List.getElem?_map] at e2'
    obtain ⟨⟨j', k⟩, hq, rfl⟩ := Option.map_eq_some_iff.mp e2'
    rw [List.getElem?_map, List.getElem?_map, hq] at e1'
    have eh : hs.getD k 0 = h := Option.some.inj e1'
    have hk := (mem j' k).1 (List.mem_of_getElem? hq)
    have hl : k < hs.toList.length := by
      have := (List.getElem?_eq_some_iff.mp hk).1
      rw [← S.ok.len]
      exact this
    have eh' : hs.toList[k]? = some h := by
      rw [List.getElem?_eq_getElem hl, ← eh]
      congr 1
      have hl' : k < hs.size := hl
      simp [Array.getD, hl']
    obtain ⟨K, w1, w2⟩ := S.ok.reach k h j' eh' hk
    refine ⟨K, w1, fun k' hk' => ?_⟩
    obtain ⟨k2, hk2⟩ := List.mem_iff_getElem?.mp (w2 k' hk')
    exact List.mem_map.mpr ⟨(_, k2), (mem _ k2).2 hk2, rfl⟩
end TT

set_option Elab.async false
set_option linter.all false
set_option maxRecDepth 100000
set_option maxHeartbeats 8000000
/-! sets of tuples of ints, up to 1228 of them -/
namespace TT
open PySem PySem.Spec PyProof.Rows L2
abbrev hashesOf (P : Program) (w : World) (L : List (Addr × List Int)) : List Int := L.map fun p => thash P w p.2
/-- the set at a holds the tuples of L, in the order of its table -/
structure TSet (P : Program) (w : World) (h : Heap) (a : Addr) (L : List (Addr × List Int)) (es : Array (Int × Value)) (ep : Nat) (t : SetTable) : Prop where
  ob : ∃ o, h.get? a = some o ∧ o.ExactSet ∧ o.data = .set es ep t
  rows : es.toList = rowsOf P w L
  ris : Ris t.place.toList
  dm : t.dummies = #[]
  pl : Placed t.mask (hashesOf P w L) t.place.toList
  mask : Mask t.mask
  nd : (L.map (·.2)).Nodup
  tup : ∀ p ∈ L, IsT P w h p.2 p.1
  plain : t.plain = true
  led : w.params.followText "set-order" = true ∨ t.led = true
  room : L.length * 5 < t.mask * 3
section
variable {P : Program} {w : World} {A : Around} {E : Value → Shared → Prop} {s : Shared} {a : Addr} {L : List (Addr × List Int)} {es : Array (Int × Value)} {ep : Nat} {t : SetTable}
theorem TSet.few {h : Heap} (R : TSet P w h a L es ep t) : L.length ≤ 1228 := by
  have h1 := R.room
  have h2 := R.mask.le
  omega
theorem TSet.many {h : Heap} (R : TSet P w h a L es ep t) : es.size = L.length := by
  rw [← Array.length_toList, R.rows]
  exact List.length_map ..
theorem TSet.seats {h : Heap} (R : TSet P w h a L es ep t) : t.place.size = L.length := by
  rw [← Array.length_toList, R.pl.len]
  exact List.length_map ..
theorem TSet.fits {h : Heap} (R : TSet P w h a L es ep t) : t.fits es.size = true := by
  have h1 := R.many
  have h2 := R.seats
  have h3 := R.room
  unfold SetTable.fits SetTable.fill
  rw [R.dm, Bool.and_eq_true, beq_iff_eq, decide_eq_true_eq]
  exact ⟨h2.trans h1.symm, by show t.place.size + 0 ≤ t.mask; omega⟩
theorem TSet.steady {h : Heap} (R : TSet P w h a L es ep t) : ¬ t.gaveWay = true := by
  unfold SetTable.gaveWay
  rw [R.mask.odd]
  decide
theorem TSet.entry {h : Heap} (R : TSet P w h a L es ep t) {i : Nat} {p : Addr × List Int} (e : L[i]? = some p) : es[i]? = some (thash P w p.2, Value.ref p.1) := by
  have q := R.rows
  rw [← Array.getElem?_toList, q]
  show (L.map fun p => (thash P w p.2, Value.ref p.1))[i]? = _
  rw [List.getElem?_map, e]
  rfl
theorem TSet.tuples {h : Heap} (R : TSet P w h a L es ep t) {ys : List (Int × Value)} (hy : ∀ e ∈ ys, e ∈ es.toList) : ∀ y ∈ ys.map (·.2), ∃ k' c, y = Value.ref c ∧ IsT P w h k' c := fun y m => by
  obtain ⟨e, he, rfl⟩ := List.mem_map.mp m
  have he' := hy e he
  rw [R.rows] at he'
  obtain ⟨p, hp, rfl⟩ := List.mem_map.mp he'
  exact ⟨p.2, p.1, rfl, R.tup p hp⟩
/-- the search for a tuple, from any step of its way on -/
theorem seek (R : TSet P w s.heap a L es ep t) {x : Addr} {k : List Int} (hx : IsT P w s.heap k x) (hu : A.units < cLine) {g : SetTable.Probe} (hg : g = runAt t.mask (SetTable.bits (thash P w k) % (t.mask + 1)) (SetTable.bits (thash P w k)))
    {K : Nat} (bound : K < 10 * SetTable.turns t.mask) (out : (nth t.mask g K).j ∉ t.place.toList) (taken : ∀ c, c < K → (nth t.mask g c).j ∈ t.place.toList) {Q : SetFound → Shared → Prop}
    (found : k ∈ L.map (·.2) → Q (.there none) s) (absent : k ∉ L.map (·.2) → Q (.free (nth t.mask g K).j false) s) :
    ∀ (f c : Nat) (stand : Option SetTable.Probe), stand.getD (t.probeStart (thash P w k)) = nth t.mask g c → c ≤ K → K - c < f →
      (∀ (i : Nat) p, L[i]? = some p → p.2 = k → ∃ c', c ≤ c' ∧ c' < K ∧ t.place.toList[i]? = some (nth t.mask g c').j) →
      wpAny (model P w) A (setSearchFrom a (.ref x) (thash P w k) true f stand) Q E s := by
  obtain ⟨ob, at0, exact0, dat⟩ := R.ob
  have clean : ∀ n, (nth t.mask g n).dummy = none := by
    have step : ∀ (n : Nat) (p : SetTable.Probe), p.dummy = none → (nth t.mask p n).dummy = none := fun n => by
      induction n with
      | zero => exact fun p h => h
      | succ n ih =>
        intro p h
        refine ih _ ?_
        unfold adv
        split
        · exact h
        · exact h
    exact fun n => step n g (by rw [hg]; rfl)
  have onward : ∀ c q, nth t.mask (nth t.mask g c) q = nth t.mask g (c + q) := fun c q => (nth_add t.mask c g q).symm
  have hashOf : ∀ (i : Nat) p, L[i]? = some p → (es[i]?.map (·.1)).getD 0 = thash P w p.2 := fun i p e => by rw [R.entry e]; rfl
  intro f
  induction f with
  | zero => exact fun c stand _ _ z _ => absurd z (Nat.not_lt_zero _)
  | succ f ih =>
    intro c stand hst hc hf there
    rw [setSearchFrom_succ]
    refine wpAny_bind (wpAny_setState_of at0 dat R.fits ?_)
    dsimp only
    refine wp_if_neg R.steady ?_
    first | refine wpAny_bind (wpAny_pure ?_) | skip
    have ans := go_spec t R.ris R.dm (fun i => (es[i]?.map (·.1)).getD 0) (thash P w k) (10 * SetTable.turns t.mask) (K - c) (nth t.mask g c) (clean c) (by omega)
      (fun q hq => by rw [onward]; exact taken _ (by omega)) (by rw [onward, Nat.add_sub_cancel' hc]; exact out)
    simp only [onward] at ans
    rw [hst]
    have known : ∀ (c' i : Nat) p, L[i]? = some p → p.2 = k → t.place.toList[i]? = some (nth t.mask g (c + c')).j → (es[i]?.map (·.1)).getD 0 = thash P w k := fun c' i p e ek _ => by rw [hashOf i p e, ek]
    rcases ans with ⟨q, i, hq, at1, same, none1, met⟩ | ⟨none1, met⟩
    · rw [show t.probe (fun i => (es[i]?.map (·.1)).getD 0) (thash P w k) (nth t.mask g c) = _ from met]
      dsimp only
      have il : i < L.length := by
        have z := (List.getElem?_eq_some_iff.mp at1).1
        rw [Array.length_toList, R.seats] at z
        exact z
      obtain ⟨p, ep1⟩ : ∃ p, L[i]? = some p := ⟨L[i], List.getElem?_eq_getElem il⟩
      have pin : p ∈ L := List.mem_of_getElem? ep1
      have live := slot_live R.ris at1
      have tail : wpAny (model P w) A (searchRest a (.ref x) (thash P w k) true f es t (nth t.mask g (c + q)).j i (nth t.mask g (c + (q + 1)))) Q E s := by
        unfold searchRest
        rw [R.entry ep1]
        dsimp only
        refine wpAny_bind (wpAny_holding (wpAny_eqBool_tuple hu (R.tup p pin) hx ?_))
        refine wpAny_bind (wpAny_setState_of at0 dat R.fits ?_)
        dsimp only
        by_cases eq : p.2 = k
        · refine wp_if_pos (by simp [eq]) (wpAny_pure (found ?_))
          exact List.mem_map.mpr ⟨p, pin, eq⟩
        · refine wp_if_neg (by simp [eq]) ?_
          first | refine wpAny_bind (wpAny_pure ?_) | skip
          rw [sameMem]
          dsimp only
          simp only [if_true, live, R.entry ep1]
          refine wpAny_bind (wpAny_isSame_ref_self (wpAny_bind (wpAny_pure ?_)))
          simp only [if_true]
          refine wp_if_neg (by simp [eq]) ?_
          refine ih (c + (q + 1)) _ rfl (by omega) (by omega) fun i' p' e' ek' => ?_
          obtain ⟨c', a1, a2, a3⟩ := there i' p' e' ek'
          refine ⟨c', Nat.le_of_not_lt fun z => ?_, a2, a3⟩
          obtain ⟨d, rfl⟩ : ∃ d, c' = c + d := ⟨c' - c, by omega⟩
          rcases Nat.lt_or_eq_of_le (show d ≤ q by omega) with y | y
          · exact none1 d i' y a3 (known d i' p' e' ek' a3)
          · rw [y] at a3
            have s0 := slot_live R.ris a3
            rw [live] at s0
            injection s0 with s0
            rw [← s0, ep1] at e'
            cases e'
            exact eq ek'
      by_cases led : t.led = true
      · refine wp_if_neg (by simp [led]) ?_
        first | refine wpAny_bind (wpAny_pure ?_) | skip
        exact tail
      · refine wp_if_pos (by simp [led]) ?_
        refine wpAny_bind (seen_tup hx (R.tuples fun e he => ?_) ?_)
        · have he1 : e ∈ es ∧ e.1 = thash P w k := by simpa using he
          simpa using he1.1
        · refine wp_if_neg (by decide) ?_
          first | refine wpAny_bind (wpAny_pure ?_) | skip
          exact tail
    · rw [show t.probe (fun i => (es[i]?.map (·.1)).getD 0) (thash P w k) (nth t.mask g c) = _ from met]
      dsimp only
      rw [Nat.add_sub_cancel' hc]
      refine wpAny_pure (absent fun m => ?_)
      obtain ⟨p, pin, ek⟩ := List.mem_map.mp m
      obtain ⟨i, e⟩ := List.mem_iff_getElem?.mp pin
      obtain ⟨c', a1, a2, a3⟩ := there i p e ek
      obtain ⟨d, rfl⟩ : ∃ d, c' = c + d := ⟨c' - c, by omega⟩
      exact none1 d i (by omega) a3 (known d i p e ek a3)
/-- the search as adding asks for it -/
theorem seek_all (R : TSet P w s.heap a L es ep t) {x : Addr} {k : List Int} (hx : IsT P w s.heap k x) (hu : A.units < cLine) {Q : SetFound → Shared → Prop} (found : k ∈ L.map (·.2) → Q (.there none) s)
    (absent : ∀ K, k ∉ L.map (·.2) → way t.mask (thash P w k) K ∉ t.place.toList → (∀ c, c < K → way t.mask (thash P w k) c ∈ t.place.toList) → Q (.free (way t.mask (thash P w k) K) false) s) :
    wpAny (model P w) A (setSearch a (.ref x) (thash P w k) true) Q E s := by
  have ro := R.room
  have le := R.mask.le
  obtain ⟨K, k1, _, k2, k3⟩ := R.pl.free R.mask.full (by rw [List.length_map]; omega) (thash P w k)
  have tu : SetTable.turns t.mask = t.mask + 15 := rfl
  unfold setSearch
  refine seek R hx hu rfl k1 k2 k3 found (fun z => absent K z k2 k3) 100000 0 none rfl (Nat.zero_le _) (by omega) fun i p e ek => ?_
  have il : i < t.place.toList.length := by
    rw [Array.length_toList, R.seats]
    exact (List.getElem?_eq_some_iff.mp e).1
  have ej := List.getElem?_eq_getElem il
  obtain ⟨c, hc, ec⟩ := R.pl.before k2 (h := thash P w k) (i := i) (by rw [List.getElem?_map, e, ← ek]; rfl) ej
  exact ⟨c, Nat.zero_le _, hc, by rw [ej, ← ec]⟩
end
end TT

set_option Elab.async false
set_option linter.all false
set_option maxRecDepth 100000
set_option maxHeartbeats 8000000
/-! adding a tuple to a set -/
namespace TT
open PySem PySem.Spec PyProof.Rows L2
section
variable {P : Program} {w : World} {A : Around} {E : Value → Shared → Prop} {s : Shared} {a : Addr} {L : List (Addr × List Int)} {es : Array (Int × Value)} {ep : Nat} {t : SetTable}
/-- what a set has while it is too full -/
structure Bulky (P : Program) (w : World) (h : Heap) (a : Addr) (L : List (Addr × List Int)) (es : Array (Int × Value)) (ep : Nat) (t : SetTable) : Prop where
  ob : ∃ o, h.get? a = some o ∧ o.ExactSet ∧ o.data = .set es ep t
  rows : es.toList = rowsOf P w L
  dm : t.dummies = #[]
  seats : t.place.size = L.length
  fit : L.length ≤ t.mask
  nd : (L.map (·.2)).Nodup
  tup : ∀ p ∈ L, IsT P w h p.2 p.1
  plain : t.plain = true
  led : w.params.followText "set-order" = true ∨ t.led = true
theorem relay (B : Bulky P w s.heap a L es ep t) {wanted m : Nat} (hw : SetTable.sizeAbove wanted = m + 1) (M : Mask m) (room : L.length * 5 < m * 3) {Q : Unit → Shared → Prop}
    (hQ : ∀ h' L' es' ep' t', Heap.SameBut a s.heap h' → TSet P w h' a L' es' ep' t' → L'.Perm L → Q () { s with heap := h' }) : wpAny (model P w) A (setRelay a wanted) Q E s := by
  obtain ⟨ob, at0, exact0, dat⟩ := B.ob
  have many : es.size = L.length := by
    rw [← Array.length_toList, B.rows]
    exact List.length_map ..
  have fits : t.fits es.size = true := by
    have h1 := B.seats
    have h2 := B.fit
    unfold SetTable.fits SetTable.fill
    rw [B.dm, Bool.and_eq_true, beq_iff_eq, decide_eq_true_eq]
    exact ⟨h1.trans many.symm, by show t.place.size + 0 ≤ t.mask; omega⟩
  have le := M.le
  obtain ⟨t', order, e, perm, ris, pl, em, el, epl, ed⟩ := relaid_placed t (hs := es.map (·.1)) hw M.full (by rw [Array.size_map, many]; omega)
  rw [Array.size_map, many] at perm
  obtain ⟨L', r1, r2, r3⟩ := order_rows L es order B.rows perm
  rw [← r3] at pl
  have size' : (order.filterMap (es[·]?)).size = L.length := by
    rw [← Array.length_toList, r1]
    exact (List.length_map ..).trans r2.length_eq
  rw [setRelay_eq]
  refine wpAny_bind (wpAny_setState_of at0 dat fits ?_)
  dsimp only
  refine wp_if_neg (by rw [sizeLine_eq, hw]; omega) ?_
  first | refine wpAny_bind (wpAny_pure ?_) | skip
  rw [e]
  dsimp only
  refine wpAny_bind (wp_if_neg (by rw [size', many]; simp) ?_)
  first | refine wpAny_bind (wpAny_pure ?_) | skip
  refine wpAny_pure ?_
  dsimp only
  refine wpAny_storeSet_of at0 dat ?_ (by rw [size', sizeLine_eq]; omega)
  have only : Heap.SameBut a s.heap (s.heap.update a (Obj.putSet (order.filterMap (es[·]?)) t')) := Heap.SameBut.update ..
  refine hQ _ L' _ (ep + 1) t' only ⟨⟨_, store_at at0 dat, exact0, rfl⟩, r1, ris, ed, by rw [em]; exact pl, by rw [em]; exact M, (r2.map (·.2)).nodup_iff.mpr B.nd, fun p hp => isT_same (B.tup p (r2.mem_iff.mp hp)) at0 dat only, by rw [epl]; exact B.plain, by rw [el]; exact B.led, by rw [em, r2.length_eq]; exact room⟩ r2
/-- a.add(x) -/
theorem add_tup (R : TSet P w s.heap a L es ep t) {x : Addr} {k : List Int} (hx : IsT P w s.heap k x) (hu : A.units < cLine) (few : L.length + 1 ≤ 1228) {Q : Bool → Shared → Prop}
    (hQ : ∀ b h' L' es' ep' t', Heap.SameBut a s.heap h' → TSet P w h' a L' es' ep' t' → (k ∈ L.map (·.2) → L' = L) → (k ∉ L.map (·.2) → L'.Perm ((x, k) :: L)) → Q b { s with heap := h' }) :
    wpAny (model P w) A (setAddHashed a (.ref x) (thash P w k)) Q E s := by
  obtain ⟨ob, at0, exact0, dat⟩ := R.ob
  have many := R.many
  have room := R.room
  unfold setAddHashed
  refine wpAny_holding ?_
  rw [show (100000 : Nat) = 99999 + 1 from rfl, setAddHashedIn_succ]
  refine wpAny_bind (wpAny_setState_of at0 dat R.fits ?_)
  dsimp only
  refine wp_if_neg (by simp [byScan, Value.scannable]) ?_
  first | refine wpAny_bind (wpAny_pure ?_) | skip
  refine wpAny_bind (seek_all R hx hu (fun z => ?_) fun K new out taken => ?_)
  · exact wpAny_pure (hQ false s.heap L es ep t (Heap.SameBut.refl a s.heap) R (fun _ => rfl) fun y => absurd z y)
  · dsimp only
    refine wpAny_bind (wpAny_setState_of at0 dat R.fits ?_)
    dsimp only
    -- the table with the slot put in
    obtain ⟨j, ej⟩ : ∃ j, j = way t.mask (thash P w k) K := ⟨_, rfl⟩
    obtain ⟨q, eq⟩ : ∃ q, q = SetTable.below t.place j := ⟨_, rfl⟩
    have cut := (below_cut R.ris j).1
    rw [← eq] at cut
    have hq : q ≤ (hashesOf P w L).length := by
      have := R.seats
      rw [List.length_map]
      omega
    have place1 : (t.put j).1.place.toList = t.place.toList.take q ++ j :: t.place.toList.drop q := by rw [eq]; exact put_place t j
    have pl1 : Placed t.mask (hashesOf P w (L.take q ++ (x, k) :: L.drop q)) (t.put j).1.place.toList := by
      rw [place1, ej]
      have z := R.pl.ins (h := thash P w k) (K := K) hq taken
      unfold hashesOf at z ⊢
      rw [List.map_append, List.map_cons, List.map_take, List.map_drop]
      exact z
    have ris1 : Ris (t.put j).1.place.toList := by
      refine ris_insert R.ris fun z => ?_
      rw [ej] at z
      exact out (List.mem_of_getElem? (by rw [Array.getElem?_toList]; exact z))
    have dm1 := put_dm R.dm j
    have perm1 := put_perm L q (x, k)
    have len1 : (L.take q ++ (x, k) :: L.drop q).length = L.length + 1 := perm1.length_eq
    have rows1 : (SetTable.insertAt es q (thash P w k, Value.ref x)).toList = rowsOf P w (L.take q ++ (x, k) :: L.drop q) := by
      rw [SetTable.toList_insertAt, rows_put, R.rows]
    have nd1 : ((L.take q ++ (x, k) :: L.drop q).map (·.2)).Nodup := (perm1.map (·.2)).nodup_iff.mpr (List.nodup_cons.mpr ⟨new, R.nd⟩)
    have two : (t.put j).2 = q := eq.symm
    have fixed : (t.put j).1.mask = t.mask ∧ (t.put j).1.led = t.led ∧ (t.put j).1.plain = t.plain := ⟨rfl, rfl, rfl⟩
    rw [← ej]
    generalize t.put j = tp at place1 pl1 ris1 dm1 two fixed ⊢
    obtain ⟨t1, q'⟩ := tp
    dsimp only at place1 pl1 ris1 dm1 two fixed ⊢
    subst two
    obtain ⟨f1, f2, f3⟩ := fixed
    have plain1 : t1.plain = true := f3.trans R.plain
    first
      | (refine wpAny_bind ?_; refine wp_if_pos plain1 ?_; refine hashBy_tup hx ?_)
      | refine wp_if_pos plain1 (wpAny_bind (hashBy_tup hx ?_))
    simp only [if_true]
    generalize L.take q' ++ (x, k) :: L.drop q' = L1 at pl1 perm1 len1 rows1 nd1
    have many1 : (SetTable.insertAt es q' (thash P w k, Value.ref x)).size = L.length + 1 := by
      rw [← Array.length_toList, rows1, ← len1]
      exact List.length_map ..
    generalize SetTable.insertAt es q' (thash P w k, Value.ref x) = es1 at rows1 many1 ⊢
    refine wpAny_bind (wpAny_storeSet_of at0 dat ?_ (by rw [many1, sizeLine_eq]; omega))
    have only : Heap.SameBut a s.heap (s.heap.update a (Obj.putSet es1 t1)) := Heap.SameBut.update ..
    have at1 := store_at (es' := es1) (t' := t1) at0 dat
    generalize s.heap.update a (Obj.putSet es1 t1) = h1 at only at1 ⊢
    have tup1 : ∀ p ∈ L1, IsT P w h1 p.2 p.1 := fun p hp => by
      rcases List.mem_cons.mp (perm1.mem_iff.mp hp) with rfl | hp
      · exact isT_same hx at0 dat only
      · exact isT_same (R.tup p hp) at0 dat only
    have led1 : w.params.followText "set-order" = true ∨ t1.led = true := by rw [f2]; exact R.led
    have seats1 : t1.place.size = L1.length := by
      rw [← Array.length_toList, pl1.len]
      exact List.length_map ..
    have fill1 : t1.fill = L.length + 1 := by
      show t1.place.size + t1.dummies.size = _
      rw [dm1, seats1, len1]
      rfl
    have mask1 : Mask t1.mask := by rw [f1]; exact R.mask
    rw [← f1] at pl1
    by_cases full : t1.tooFull = true
    · have big : (L.length + 1) * 5 ≥ t1.mask * 3 := by
        have z := full
        unfold SetTable.tooFull at z
        rwa [decide_eq_true_eq, fill1] at z
      obtain ⟨m', M', w1, w2⟩ := mask1.next (n := L.length) (by rw [f1]; exact room) big few
      have B : Bulky P w h1 a L1 es1 (ep + 1) t1 := ⟨⟨_, at1, exact0, rfl⟩, rows1, dm1, seats1, by rw [len1, f1]; omega, nd1, tup1, plain1, led1⟩
      rw [many]
      have go : wpAny (model P w) A (setRelay a (SetTable.grown (L.length + 1))) (fun _ s' => wpAny (model P w) A (pure true) Q E s') E { s with heap := h1 } :=
        relay (s := { s with heap := h1 }) B w1 M' (by rw [len1]; exact w2) fun h2 L2 es2 ep2 t2 only2 R2 perm2 =>
          wpAny_pure (hQ true h2 L2 es2 ep2 t2 (only.trans only2) R2 (fun z => absurd z new) fun _ => perm2.trans perm1)
      first
        | (refine wpAny_bind ?_; refine wp_if_pos (by simp [full]) ?_; exact go)
        | (refine wp_if_pos (by simp [full]) ?_; refine wpAny_bind ?_; exact go)
    · first
        | refine wp_if_neg (by simp [full]) ?_
        | (refine wpAny_bind ?_; refine wp_if_neg (by simp [full]) ?_; refine wpAny_pure ?_)
      refine wpAny_pure (hQ true h1 L1 es1 (ep + 1) t1 only ⟨⟨_, at1, exact0, rfl⟩, rows1, ris1, dm1, pl1, mask1, nd1, tup1, plain1, led1, ?_⟩ (fun z => absurd z new) fun _ => perm1)
      have z := full
      unfold SetTable.tooFull at z
      rw [decide_eq_true_eq, fill1] at z
      rw [len1]
      omega
end
end TT

set_option Elab.async false
set_option linter.all false
set_option maxRecDepth 100000
set_option maxHeartbeats 4000000
/-! an instance called, by its own __call__; x != y by an own __eq__ -/
namespace PySem.W
open PySem PySem.Spec PySem.Calls PyProof.Rows
theorem rt_callInst {M : Model} {A : Around} {E : Value → Shared → Prop} {s : Shared} {pos : Pos} {x C : Addr} {Q : Value → Shared → Prop} {args : List (Bool × Sem Value)} (plain : (args.any (·.1) || ([] : List (Option Str × Sem Value)).any (·.1.isNone)) = false)
    (h : wpAny M A (evalArgs (.ref x) true args []) (fun a s1 => (∃ ox od, InstAt s1.heap x ox C od ∧ ox.data = .plain) ∧ wpAny M A (call (.ref x) ([] ++ a.pos) a.kw) Q E s1) E s) : wpAny M A (callWith pos (.ref x) [] args []) Q E s := by
  unfold callWith
  refine wpAny_bind (wpAny_holding (wpAny_mono h (fun a s1 h1 => wpAny_bind (wpAny_standAt ?_)) fun _ _ y => y))
  obtain ⟨⟨ox, od, I, hd⟩, go⟩ := h1
  have L := kco_keeper (M := M) I hd
  simp only [plain]
  refine wpAny_bind (L.here (wpAny_bind (wpAny_mono (wpAny_operateT go) (fun r s2 hr => wpAny_bind (wpAny_holding (wpAny_point (wpAny_pure hr)))) fun _ _ y => y)))
/-- x != b where the class has its own __eq__ and object's __ne__: what __eq__ says, turned -/
theorem rt_ne {prog : Program} {w : World} {A : Around} {E : Value → Shared → Prop} {s : Shared} {K : Frag} {x C f : Addr} {ox : Obj} {od : Option Obj} {b tb : Value} {Q : Value → Shared → Prop} (hu : A.units + 1 < cLine) (X : K.In s.heap) (I : InstAt s.heap x ox C od)
    (hb : Looks (model prog w) s.heap (typeOf b) tb) (hn : notFirst K C tb = true) (ne : findIn K (.ref C) "__ne__" = some (some (.builtin "object.__ne__"))) (hm : mroIn K C (.type "object") = some true)
    (eq : findIn K (.ref C) "__eq__" = some (some (.ref f))) (fn : isFn K (.ref f) = true) (h : wpAny (model prog w) A.in1 (call (.ref f) [.ref x, b]) (fun r s' => ∃ k, r = .bool k ∧ Q (.bool (!k)) s') E s) :
    wpAny (model prog w) A (richCompare .NotEq (.ref x) b) Q E s := by
  have inst : Looks (model prog w) s.heap (isInstance (.ref x) (.type "object")) true := I.type.andThen (looks_mroIn X hm)
  have body : wpAny (model prog w) A (call (.builtin "object.__ne__") [.ref x, b]) (fun r s' => ∃ k, r = .bool k ∧ Q (.bool k) s') E s := by
    refine wpAny_call (codeAny_call_builtin F.cmp_object.ne.plain F.cmpEntry_ne (check_slot (owner := "object") (n := "__ne__") F.cmpKind_ne F.cmpSplit_ne inst (F.cmpArgs_ne _ _) ?_))
    unfold Builtin.«object.__ne__»
    refine wpAny_bind (wpAny_of_eq (a := ((Value.ref x : Value), [b])) (by first | rfl | (simp only [slotArgs]; rfl)) ?_)
    refine wpAny_bind (wpAny_cRoomFor hu ?_)
    refine wpAny_bind (ifBound_K X I eq fn (wpAny_mono h (fun r s' z => ?_) fun _ _ z => z))
    obtain ⟨k, rfl, q⟩ := z
    exact wpAny_bind (wpAny_truthy_bool (wpAny_pure ⟨!k, rfl, q⟩))
  have one : wpAny (model prog w) A (tryCompare (.ref x) "__ne__" b) (fun r s' => ∃ v, r = some v ∧ Q v s') E s := by
    unfold tryCompare
    refine wpAny_bind ?_
    simp only [callSpecialIfBound?, bindSpecialIfBound?]
    refine wpAny_holding (wpAny_bind (wpAny_bind (wpAny_bind (I.type.here ((looks_findIn X ne).here ?_)))))
    simp only [F.cmp_object.ne.bind]
    refine wpAny_bind (wpAny_askSetting (wpAny_ite ?_))
    have last : wpAny (model prog w) A (call (.builtin "object.__ne__") ([.ref x] ++ [b]) >>= fun v => pure (some v)) (fun r s' => wpAny (model prog w) A (match r with
        | some .notImplemented | none => pure none
        | some v => pure (some v)) (fun r s' => ∃ v, r = some v ∧ Q v s') E s') E s := by
      refine wpAny_bind (wpAny_mono body (fun r s' z => ?_) fun _ _ z => z)
      obtain ⟨k, rfl, q⟩ := z
      exact wpAny_pure (wpAny_pure ⟨_, rfl, q⟩)
    split
    · exact wpAny_bind (wpAny_pure (wpAny_pure last))
    · exact wpAny_tryCatch (wpAny_bind (wpAny_pure (wpAny_pure last)))
  unfold richCompare
  simp only [oneThing_ref]
  refine wpAny_holding (wpAny_bind (wpAny_cRoomFor (by omega) ?_))
  refine wpAny_bind (I.type.here (wpAny_bind (hb.here ?_)))
  have out : ∀ {g : Option Value → Sem Value}, (∀ v, g (some v) = pure v) → wpAny (model prog w) A (tryCompare (.ref x) "__ne__" b >>= g) Q E s := fun {g} hg => wpAny_bind (wpAny_mono one (fun r s' z => by
    obtain ⟨v, rfl, q⟩ := z
    rw [hg]
    exact wpAny_pure q) fun _ _ z => z)
  split
  · rename_i q
    have e : subIn K tb (.ref C) = some false := by
      rcases Bool.or_eq_true_iff.mp hn with e | e
      · rw [beq_iff_eq.mp e] at q
        simp at q
      · exact beq_iff_eq.mp e
    refine wpAny_bind ((looks_subIn X e).here ?_)
    simp only [Bool.false_eq_true, if_false]
    exact out fun v => rfl
  · refine wpAny_bind (wpAny_pure ?_)
    simp only [Bool.false_eq_true, if_false]
    exact out fun v => rfl
end PySem.W
namespace RT
open PySem PySem.Spec PyProof.Rows L2
section
variable {X : Cx} {CX : CXT} {k i : Nat} {C f : Addr} {fd : FuncData} {ps : List Str} {sp : Sp} {E : XK} {x : Str} {p pos : Pos} {e : Expr} {es : List Expr} {t : TA}
/-- x(e, ..), x a local name that holds an instance of the class at C -/
def tCallO (i : Nat) (C : Addr) (sp : Sp) (E : XK) (t : TA) : TE := fun σ H Q => ∃ a, σ[i]? = some (some (.ref a)) ∧ t σ H fun vs H1 => (∃ dx fs, H1 a = some (.ins C dx fs)) ∧ sp (.ref a :: vs) H1 Q E
theorem pe_callO (hm : Meth X.K C "__call__" f) (hfn : PySem.W.fnIn X.K f = true) (F : FnOk X.prog X.w X.K X.mg X.base CX k f fd ps sp) (hr : Room k X.A) (hN : X.N[i]? = some x) (hv : Vis X.env.scope x) (hb : Binds X.K fd ps []) (hx : Passes CX X E) (ha : PA X (e :: es) t)
    (hdb : (x == ("__debug__" : Str)) = false := by decide) (hcd : (x == ("__classdict__" : Str)) = false := by decide)
    (he : starEach (e :: es) X.env = (false, eval e X.env) :: starEach es X.env := by rfl) (hpl : (backTo pos (starEach es X.env)).any (·.1) = false := by rfl) : PE X (.Call (.Name x p) (e :: es) [] pos) (tCallO i C sp E t) := by
  refine ⟨fun pins s σ H Q I h => ?_⟩
  obtain ⟨a, at_, ht⟩ := h
  refine wpAny_Call_Name_kw (thn ((pe_var (pos := p) hN hv hdb hcd).run pins s σ H (fun v H1 => v = .ref a ∧ H1 = H) I ⟨.ref a, at_, rfl, rfl⟩) fun u s1 ⟨v, H1, I1, r1, q1⟩ => ?_)
  obtain ⟨rfl, rfl⟩ := q1
  cases (show u = Value.ref a from r1)
  rw [he]
  refine PySem.W.rt_callInst (C := C) (by show ((false || (backTo pos (starEach es X.env)).any (·.1)) || false) = false; rw [hpl]; rfl) (Calls.evalArgs_plain ?_)
  have ha' : wpAny (model X.prog X.w) X.A (spliced (backTo pos (starEach (e :: es) X.env))) (AP X pins σ _) X.xe s1 := ha.run pos pins s1 σ _ _ I1 ht
  rw [he] at ha'
  refine thn ha' fun us s2 ⟨vs, H2, I2, r, ⟨dx, fs, ea⟩, q⟩ => ?_
  obtain ⟨mA, O, _⟩ := ins_get I2.hok ea
  obtain ⟨od, J, _⟩ := O.look
  refine ⟨⟨_, some od, J, rfl⟩, ?_⟩
  have r2 : Vals (.ref a :: vs) (.ref a :: us) := .cons rfl r
  have hl : (Value.ref a :: us).length = ps.length := r2.length.symm.trans (F.len _ _ _ _ q)
  have bd := hb s2 (.ref a :: us) I2.kIn (by simpa using hl)
  rw [List.append_nil] at bd
  refine wpAny_call (PySem.W.kco_code I2.kIn J rfl hm.at_ hm.fn hfn (codeAny_mono (F.run X.A X.stack s2 H2 ⟨.ref a :: us, []⟩ (.ref a :: us) (.ref a :: vs) Q E hr I2.env0 bd r2 q) fun r s' hq => ?_))
  match r, hq with
  | .error e, hq => exact hx pins σ H2 s2 e s' I2 hq
  | .ok (.ret u), hq => exact I2.after hq
/-- x != y by x's own __eq__ -/
def rNeO (K : PySem.W.Frag) (C : Addr) (sp : Sp) (E : XK) : R2 := fun x y H Q => ∃ a dx fs t, x = .ref a ∧ H a = some (.ins C dx fs) ∧ ((∃ b dy gs, y = .ref b ∧ H b = some (.ins C dy gs) ∧ t = .ref C) ∨ TyY K H y t) ∧ PySem.W.notFirst K C t = true ∧
  sp [x, y] H (fun v H' => ∃ k, v = .bl k ∧ Q (.bl (!k)) H') E
theorem op_neO (hne : PySem.W.findIn X.K (.ref C) "__ne__" = some (some (.builtin "object.__ne__"))) (hmr : PySem.W.mroIn X.K C (.type "object") = some true) (hm : Meth X.K C "__eq__" f) (F : FnOk X.prog X.w X.K X.mg X.base CX k f fd ps sp) (hr : Room (k + 1) X.A) (hb : Binds X.K fd ps []) (hx : Passes CX X E) :
    OpR X (compareOp .NotEq) (rNeO X.K C sp E) := by
  intro pins s σ H x y v u Q I rx ry h
  obtain ⟨a, dx, fs, t, rfl, ea, ty, hn, q⟩ := h
  cases (show v = Value.ref a from rx)
  obtain ⟨mA, O, _⟩ := ins_get I.hok ea
  obtain ⟨od, J, _⟩ := O.look
  have L : PySem.W.Looks (model X.prog X.w) s.heap (typeOf u) t := by
    rcases ty with ⟨b, dy, gs, rfl, eb, rfl⟩ | ty
    · cases (show u = Value.ref b from ry)
      obtain ⟨mB, O', _⟩ := ins_get I.hok eb
      obtain ⟨od', J', _⟩ := O'.look
      exact J'.type
    · obtain ⟨P, Z, p, _⟩ := kit_ofY I ry ty
      exact Z.ty _ _ I.kIn p
  show wpAny _ _ (richCompare .NotEq (.ref a) u) _ _ _
  have r2 : Vals [V.ref a, y] [Value.ref a, u] := .cons rfl (.cons ry .nil)
  have hl : ([Value.ref a, u] : List Value).length = ps.length := r2.length.symm.trans (F.len _ _ _ _ q)
  have bd := hb s [.ref a, u] I.kIn (by simpa using hl)
  rw [List.append_nil] at bd
  refine PySem.W.rt_ne (tb := t) (by have := hr.units; omega) I.kIn J L hn hne hmr hm.at_ hm.fn (wpAny_call (codeAny_mono (F.run X.A.in1 X.stack s H ⟨[.ref a, u], []⟩ [.ref a, u] [.ref a, y] _ E hr.in1 I.env0.in1 bd r2 q) fun r s' hq => ?_))
  match r, hq with
  | .error e, hq => exact hx pins σ H s e s' I hq
  | .ok (.ret z), hq =>
    obtain ⟨v, H', I', rv, b, rfl, qz⟩ := I.after hq
    cases (show z = Value.bool b from rv)
    exact ⟨b, rfl, .bl (!b), H', I', rfl, qz⟩
end
end RT

set_option Elab.async false
set_option linter.all false
set_option maxRecDepth 100000
set_option maxHeartbeats 4000000
/-! slices of lists with a step -/
namespace RT
open PySem PySem.Spec PyProof.Rows L2
def pickV (xs : List V) (lo hi st : Option Int) : List V :=
  (sliceRange (sliceBounds lo hi st xs.length).1 (sliceBounds lo hi st xs.length).2.1 (sliceBounds lo hi st xs.length).2.2).filterMap fun i => xs[i]?
theorem pick_vals {xs : List V} {us : List Value} (r : Vals xs us) : ∀ l : List Nat, Vals (l.filterMap fun i => xs[i]?) (l.filterMap fun i => us[i]?)
  | [] => .nil
  | i :: l => by
    have ih := pick_vals r l
    cases e : xs[i]? with
    | none =>
      have e2 := r.none_of e
      rw [List.filterMap_cons_none (by exact e), List.filterMap_cons_none (by exact e2)]
      exact ih
    | some x =>
      obtain ⟨u, e2, ru⟩ := r.get e
      rw [List.filterMap_cons_some (by exact e), List.filterMap_cons_some (by exact e2)]
      exact .cons ru ih
def tPick (K : PySem.W.Frag) (to : TE) (tl th ts : TO) : TE := fun σ H Q => to σ H fun x H1 => ∃ (a : Addr) (xs : List V), x = .ref a ∧ tl σ H1 fun l H2 => th σ H2 fun u H3 => ts σ H3 fun o H4 => o ≠ some 0 ∧ SqL K H4 a xs ∧ ∀ p, H4 p = none → Q (.ref p) (upd H4 p (.lst (pickV xs l u o)))
section
variable {X : Cx} {e st : Expr} {lo hi : Option Expr} {to : TE} {tl th ts : TO} {p2 pos : Pos}
/-- xs[lo:hi:st] -/
theorem pe_step (ho : PE X e to) (hl : PO X lo tl) (hh : PO X hi th) (hs : PO X (some st) ts) : PE X (.Subscript e (.Slice lo hi (some st) p2) pos) (tPick X.K to tl th ts) := by
  refine ⟨fun pins s σ H Q I h => ?_⟩
  refine Subscript_ (thn (ho.run pins s σ H _ I h) fun v s1 ⟨x, H1, I1, r1, a, xs, ex, q1⟩ => ?_)
  subst ex
  obtain rfl : v = Value.ref a := r1
  refine wpAny_Slice (thn (hl.run pins s1 σ H1 _ I1 q1) fun vl s2 ⟨l, H2, I2, pl, q2⟩ => thn (hh.run pins s2 σ H2 _ I2 q2) fun vu s3 ⟨u, H3, I3, pu, q3⟩ => thn (hs.run pins s3 σ H3 _ I3 q3) fun vs s4 ⟨o, H4, I4, ps, h0, hx, q⟩ => ?_)
  have I5 : Inv X pins σ H4 { s4 with heap := s4.heap.push { cls := .type "slice", data := .fields #[vl, vu, vs] } } :=
    I4.kept (t' := s4.toks) fun _ _ w => Heap.get?_push_of_some _ w
  obtain ⟨its, r, ht, hz⟩ := I5.list hx
  have le : its.length ≤ sizeLine := by rw [← r.length]; exact hz
  refine tail_any (ops := [.ref a, .ref s4.heap.objs.size]) ht.isList.typeIs PySem.slot_list_getitem.lookup ?_ (by with_unfolding_all rfl)
  refine wpAny_getItem_list_slice ht.isList (Heap.IsSliceOf.new _ vl vu vs) pl pu ps h0 ?_ (by rw [List.size_toArray]; exact le)
  have e1 : slicePick its.toArray l u o = ((sliceRange (sliceBounds l u o xs.length).1 (sliceBounds l u o xs.length).2.1 (sliceBounds l u o xs.length).2.2).filterMap fun i => its[i]?).toArray := by
    unfold slicePick
    rw [List.size_toArray, r.length]
    have ef : (fun x => its.toArray[x]?) = fun i => its[i]? := funext fun i => List.getElem?_toArray
    rw [ef]
  have lz : (pickV xs l u o).length ≤ sizeLine := by
    have h1 := (pick_vals r (sliceRange (sliceBounds l u o xs.length).1 (sliceBounds l u o xs.length).2.1 (sliceBounds l u o xs.length).2.2)).length
    have h2 := slicePick_size_le its.toArray l u o
    rw [e1, List.size_toArray, List.size_toArray, ← h1] at h2
    exact Nat.le_trans h2 le
  refine ⟨.ref _, _, I5.laid (t' := s4.toks) (o := .lst (pickV xs l u o)) (fun _ _ w => Heap.get?_push_of_some _ w) (Nat.le_refl _) ?_, rfl, q _ (I5.hok.fresh (Nat.le_refl _))⟩
  rw [e1]
  exact ⟨lz, _, 0, pick_vals r _, Heap.get?_push_size _ rfl⟩
end
/-- each second one -/
def ev {α : Type} : List α → List α
  | [] => []
  | [x] => [x]
  | x :: _ :: r => x :: ev r
theorem pick_ev (xs : List V) : pickV xs none none (some 2) = ev xs := by
  have gen : ∀ (m : Nat) (ys zs : List V), ys.length ≤ m → (List.range ((ys.length + 1) / 2)).filterMap (fun i => (zs ++ ys)[zs.length + 2 * i]?) = ev ys := by
    intro m
    induction m with
    | zero =>
      intro ys zs h
      have : ys = [] := List.length_eq_zero_iff.mp (by omega)
      subst this
      rfl
    | succ m ih =>
      intro ys zs h
      match ys, h with
      | [], _ => rfl
      | [x], _ =>
        have e1 : ([x].length + 1) / 2 = 1 := by simp
        rw [e1, show List.range 1 = [0] from rfl]
        simp [ev]
      | x :: y :: r, h =>
        have e1 : ((x :: y :: r).length + 1) / 2 = (r.length + 1) / 2 + 1 := by simp only [List.length_cons]; omega
        rw [e1, List.range_succ_eq_map, List.filterMap_cons_some (b := x) (by simp), List.filterMap_map]
        show x :: _ = x :: ev r
        congr 1
        have h2 := ih r (zs ++ [x, y]) (by simp only [List.length_cons] at h; omega)
        rw [← h2]
        congr 1
        funext i
        show (zs ++ x :: y :: r)[zs.length + 2 * (i + 1)]? = ((zs ++ [x, y]) ++ r)[(zs ++ [x, y]).length + 2 * i]?
        rw [List.append_assoc]
        have e2 : (zs ++ [x, y]).length = zs.length + 2 := by simp
        rw [e2, show zs.length + 2 * (i + 1) = zs.length + 2 + 2 * i by omega]
        rfl
  have h := gen xs.length xs [] (Nat.le_refl _)
  rw [← h]
  unfold pickV
  show (sliceRange 0 (xs.length : Int) 2).filterMap _ = _
  unfold sliceRange
  rw [if_pos (by decide : (2 : Int) > 0)]
  have ec : (if (0 : Int) < (xs.length : Int) then ((xs.length : Int) - 0 + 2 - 1) / 2 else 0).toNat = (xs.length + 1) / 2 := by
    split <;> omega
  dsimp only
  rw [ec, List.filterMap_map]
  refine congrArg (fun f => List.filterMap f (List.range ((xs.length + 1) / 2))) ?_
  funext i
  show xs[((0 : Int) + 2 * (i : Int)).toNat]? = _
  rw [show ((0 : Int) + 2 * (i : Int)).toNat = 2 * i by omega]
  simp
theorem ev_map {α β : Type} (f : α → β) : ∀ xs : List α, ev (xs.map f) = (ev xs).map f
  | [] => rfl
  | [_] => rfl
  | x :: y :: r => by
    show f x :: ev (r.map f) = f x :: (ev r).map f
    rw [ev_map f r]
end RT

set_option Elab.async false
set_option linter.all false
set_option maxRecDepth 100000
set_option maxHeartbeats 4000000
/-! sorted(set(xs)) of a list of ints, any number of them below the bound of scans -/
namespace RT
open PySem PySem.Spec PyProof.Rows L2
abbrev fresh0 (w : World) : Obj := { cls := .type "set", dict := none, data := .set #[] 0 (.fresh 0 0 (!w.params.followText "set-order")) }
section
variable {P : Program} {w : World} {A : Around} {E : Value → Shared → Prop} {u : Shared} {l : Addr} {arr : Array Value} {ks : List Int}
theorem arr_len (are : IntsAre arr.toList ks) : arr.size = ks.length := by
  have e := IntsAre.length are
  rwa [Array.length_toList] at e
theorem arr_val (are : IntsAre arr.toList ks) (i : Nat) (v : Value) (hv : arr[i]? = some v) : ∃ k t, ks[i]? = some k ∧ v = .int k t := by
  have lt : i < ks.length := (arr_len are) ▸ (Array.getElem?_eq_some_iff.mp hv).1
  obtain ⟨t, e⟩ := PyProof.Rows.IntsAre.int_at are i v ((Array.getElem?_toList ..).trans hv)
  exact ⟨ks[i], t, List.getElem?_eq_getElem lt, e.trans (by rw [List.getD_eq_getElem?_getD, List.getElem?_eq_getElem lt]; rfl)⟩
/-- the loop that puts a list's ints into a new set -/
theorem fill_list {R : Result → Shared → Prop} (calm : A.handled = none) (pl : u.heap.IsList l arr) (are : IntsAre arr.toList ks) (few : ks.length + 1 < scanBound)
    (fin : ∀ (h' : Heap) (tk c : Nat), SetR w h' u.heap.objs.size (fun j => decide (j ∈ ks)) c → (∀ b o, u.heap.get? b = some o → h'.get? b = some o) → R (.ok (.ret .none)) { u with heap := h', toks := tk }) :
    codeAny (model P w) A (.builtin "set.update.loop" ⟨[.ref u.heap.objs.size, .ref (u.heap.push (fresh0 w)).objs.size], []⟩) R { u with heap := (u.heap.push (fresh0 w)).push { cls := .type "list_iterator", data := .fields #[.ref l, .int 0 0] } } := by
  obtain ⟨ob, at_, rest⟩ := id pl
  have lt : l < u.heap.objs.size := Heap.lt_size at_
  have sz : (u.heap.push (fresh0 w)).objs.size = u.heap.objs.size + 1 := Heap.size_push ..
  have pl1 : (u.heap.push (fresh0 w)).IsList l arr := pl.push _
  have apart : l ≠ (u.heap.push (fresh0 w)).objs.size := Nat.ne_of_lt (by rw [sz]; exact Nat.lt_succ_of_lt lt)
  have outside : u.heap.objs.size ∉ [(u.heap.push (fresh0 w)).objs.size, l] := by
    intro z
    rcases List.mem_cons.mp z with z | z
    · exact absurd z (Nat.ne_of_lt (by rw [sz]; exact Nat.lt_succ_self _))
    · exact absurd (List.mem_singleton.mp z) (Nat.ne_of_gt lt)
  have begun : ((u.heap.push (fresh0 w)).push { cls := .type "list_iterator", data := .fields #[.ref l, .int 0 0] }).get? u.heap.objs.size = some (fresh0 w) := Heap.get?_push_of_some _ (Heap.get?_push_size _ rfl)
  have quiet : A.in1.handled = none := by simp [calm]
  refine set_update_ints ((Walks.list quiet _ l apart arr).toS) u.heap.objs.size outside ks (arr_len are) few (arr_val are) (arr.size - 0) 0 _ (by omega) (Nat.zero_le _) ⟨⟨_, Heap.get?_push_size _ rfl, rfl, rfl⟩, pl1.push _⟩ ⟨0, Nat.le_refl 0, setR_new_at begun⟩ fun s' c mv _ st => ?_
  obtain ⟨h2, g2, d2, t2, o2⟩ := s'
  obtain rfl : g2 = u.gens := mv.gens
  obtain rfl : d2 = u.drawn := mv.drawn
  obtain rfl : o2 = u.os := mv.os
  refine fin h2 t2 c st fun b o hb => mv.heap b o (fun z => ?_) (Heap.get?_push_of_some _ (Heap.get?_push_of_some _ hb))
  have blt : b < u.heap.objs.size := Heap.lt_size hb
  rcases List.mem_cons.mp z with z | z
  · exact absurd z (Nat.ne_of_lt blt)
  · exact absurd (List.mem_singleton.mp z) (Nat.ne_of_lt (by rw [sz]; exact Nat.lt_succ_of_lt blt))
set_option maxHeartbeats 8000000 in
/-- set(xs) -/
theorem set_list {Q : Value → Shared → Prop} (calm : A.handled = none) (pl : u.heap.IsList l arr) (are : IntsAre arr.toList ks) (few : ks.length + 1 < scanBound)
    (fin : ∀ (h' : Heap) (tk c : Nat), SetR w h' u.heap.objs.size (fun j => decide (j ∈ ks)) c → (∀ b o, u.heap.get? b = some o → h'.get? b = some o) → Q (.ref u.heap.objs.size) { u with heap := h', toks := tk }) :
    wpAny (model P w) A (call (.type "set") [.ref l]) Q E u := by
  obtain ⟨c1, c2, c3⟩ := F.called_set.mro
  have c4 := F.called_set.made
  have c5 := F.called_set.sub
  refine wpAny_call (codeAny_of_tree ?_)
  show wpAny _ _ (callAny (.type "set") ⟨[.ref l], []⟩) _ _ u
  refine wpAny_pure ⟨Code.quiet_builtin _ (by decide +kernel), codeAny_builtin F.entry_type_call ?_⟩
  rw [Around.under_plain (weight_type_call_type "set" [.ref l] []) rfl]
  have c6 := F.called_set.notType
  have c7 := F.called_set.canCreate
  have c8 := F.typeCall_set_1 (.ref l)
  repeat (any_goals (first | assumption | wp_step))
  refine codeAny_mono (code_set_led1 (.ref l) (E := E) (Q₁ := fun o z => o = .ref u.heap.objs.size ∧ z = { u with heap := u.heap.push (fresh0 w) }) ⟨rfl, rfl⟩) fun r z hr => ?_
  match r, hr with
  | .error e, hr => exact hr
  | .ok .next, hr => exact hr.elim
  | .ok .brk, hr => exact hr.elim
  | .ok .cont, hr => exact hr.elim
  | .ok (.ret o), hr =>
    obtain ⟨rfl, rfl⟩ := hr
    have at0 : (u.heap.push (fresh0 w)).get? u.heap.objs.size = some (fresh0 w) := Heap.get?_push_size _ rfl
    have ty0 : Shared.TypeIs { u with heap := u.heap.push (fresh0 w) } (.ref u.heap.objs.size) "set" := ⟨_, at0, rfl⟩
    have c9 := F.called_set.init.lookup
    have c10 := F.called_set.init.bind (.ref u.heap.objs.size)
    repeat (any_goals (first | assumption | wp_step))
    refine codeAny_mono (codeAny_call_builtin (R := wants (fun r z => r = .none ∧ ∃ h' tk c, z = { u with heap := h', toks := tk } ∧ SetR w h' u.heap.objs.size (fun j => decide (j ∈ ks)) c ∧ (∀ b o, u.heap.get? b = some o → h'.get? b = some o)) E)
      F.called_set.init.plain F.entry_set_init (check_set_init_1 ty0 ?_)) fun r2 z2 hr2 => ?_
    · obtain ⟨⟨oc, od, dt, osl⟩, at1, hc, n1, hd⟩ := id pl
      simp only at hc hd
      subst hc hd
      have at2 : (u.heap.push (fresh0 w)).get? l = some ⟨.type "list", od, .seq arr n1, osl⟩ := Heap.get?_push_of_some _ at1
      have d1 := F.sub_list_set
      have d2 := F.sub_list_frozenset
      have d3 : (Value.type "list" == Value.type "dict") = false := by decide
      have pl1 : (u.heap.push (fresh0 w)).IsList l arr := pl.push _
      unfold Builtin.«set.__init__» noKeywords Builtin.Frozenset.updateFrom
      generalize eI : pyIter = walker
      wp_walk
      subst eI
      refine wpAny_pyIter_list pl1 (wpAny_bind (wpAny_runValue ?_))
      refine fill_list (by simp [calm]) pl are few fun h' tk c st kp => ?_
      show wpAny _ _ _ _ _ _
      refine wpAny_pure ?_
      show wpAny _ _ (ret Value.none) _ _ _
      exact wpAny_pure ⟨rfl, h', tk, c, rfl, st, kp⟩
    · match r2, hr2 with
      | .error e, hr2 => exact hr2
      | .ok .next, hr2 => exact hr2.elim
      | .ok .brk, hr2 => exact hr2.elim
      | .ok .cont, hr2 => exact hr2.elim
      | .ok (.ret r), hr2 =>
        obtain ⟨rfl, h', tk, c, rfl, st, kp⟩ := hr2
        repeat (any_goals (first | assumption | wp_step))
        exact fin _ _ _ st kp
/-- sorted(s), s a set of ints of any size -/
theorem sorted_any {a : Addr} {S : Int → Bool} {n : Nat} {Q : Value → Shared → Prop} (R : SetR w u.heap a S n) (calm : A.handled = none)
    (fin : ∀ z p (out : List Value) (c : Nat) (ns : List Int), (∀ b o, u.heap.get? b = some o → z.heap.get? b = some o) → z.gens = u.gens → z.os = u.os → u.heap.objs.size ≤ p →
      z.heap.get? p = some (seqObj "list" out.toArray c) → IntsAre out ns → ns.Pairwise (· < ·) → (∀ k, k ∈ ns ↔ S k = true) → ns.length = n → Q (.ref p) z) : wpAny (model P w) A (call (.builtin "sorted") [.ref a]) Q E u := by
  obtain ⟨ob, es, ep, tb, at0, ex, hd, good, nodup, mem, bound, fits, len, ris, led⟩ := R
  refine Calls.call_function_entry kind_sorted plain_sorted entry_sorted (args_sorted1 _) ?_
  unfold Builtin.«sorted»
  refine wpAny_bind (m := checkCount "sorted" 1 1 _) (wpAny_pure (wpAny_bind (collect_set (A := A.in1) calm ⟨ob, at0, ex.1, hd⟩ fits bound ris led fun z1 vs k1 z2 g1 o1 pm => ?_)))
  have size : vs.length = n := by
    rw [pm.length_eq, List.length_map, Array.length_toList]
    exact len
  have are : IntsAre vs (vs.map Builtin.Re.reRawOf) := ints_of vs fun v hv => by
    obtain ⟨e, he, q⟩ := List.mem_map.mp (pm.mem_iff.mp hv)
    obtain ⟨k, tk, h1, _⟩ := good e he
    exact ⟨k, tk, q.symm.trans h1⟩
  have keys : (vs.map Builtin.Re.reRawOf).Perm (es.toList.map keyOf) := by
    have q := pm.map Builtin.Re.reRawOf
    rwa [List.map_map] at q
  have le : vs.length ≤ sizeLine := by
    have b0 : es.size < 4096 := bound
    have e0 : es.size = n := len
    exact Nat.le_trans (show vs.length ≤ 4096 by omega) (by decide)
  refine wpAny_bind (wpAny_newList ?_ le)
  have atL : (z1.heap.push (seqObj "list" vs.toArray 0)).get? z1.heap.objs.size = some (seqObj "list" vs.toArray 0) := Heap.get?_push_size _ rfl
  refine wpAny_bind (wpAny_holding (wpAny_call_entry slot_list_sort ⟨_, atL, rfl⟩ entry_list_sort (SrtO.list_sort_ord SrtO.swo_int atL le (fun h2 => SrtO.ints_sortable are h2) fun out q1 q2 => ⟨_, rfl, ?_⟩) (args_list_sort _)))
  obtain ⟨i1, i2, i3⟩ := SrtO.ints_out are q1 q2
  obtain ⟨c, hc⟩ := sortedHeap_at (vs := vs) (out := out.toArray) atL
  have pn := i2.trans keys
  refine wpAny_pure ⟨_, rfl, fin _ z1.heap.objs.size out c (out.map SrtO.iv) (fun b o e => ?_) g1 o1 z2 hc i1 (lt_of_le_nodup _ i3 (pn.nodup_iff.mpr nodup)) (fun k => by rw [pn.mem_iff, ← mem k]) ?_⟩
  · have q := k1 b o e
    have lt := Heap.lt_size q
    show (sortedHeap (z1.heap.push (seqObj "list" vs.toArray 0)) z1.heap.objs.size vs out.toArray).get? b = some o
    rw [sortedHeap_old (Nat.ne_of_lt lt) (by rw [size_push']; exact Nat.lt_succ_of_lt lt)]
    exact Heap.get?_push_of_some _ q
  · rw [pn.length_eq, List.length_map, Array.length_toList]
    exact len
end
section
variable {X : Cx}
/-- set(xs) of a list of ints -/
def rSetL (K : PySem.W.Frag) (w : World) : List V → Hp → VK → Prop := fun vs H Q => ∃ (a : Addr) (ks : List Int), vs = [V.ref a] ∧ SqL K H a (ks.map V.int) ∧ ks.length ≤ 4000 ∧ ∀ p c, H p = none → Q (.ref p) (upd H p (SetO w p (fun j => decide (j ∈ ks)) c))
theorem cr_setL (hc : X.calm = true) : CallR X (.type "set") (rSetL X.K X.w) := by
  intro pins s σ H vs us Q I r h
  obtain ⟨a, ks, rfl, hs, few, q⟩ := h
  obtain ⟨its, rv, pl, hz⟩ := I.list hs
  rw [Vals.ref1 r]
  refine set_list (I.ok.hd hc) pl.isList (show IntsAre its.toArray.toList ks from rv.ints) (by unfold scanBound; omega) fun h' tk c st kp => ?_
  have free := I.hok.fresh (Nat.le_refl s.heap.objs.size)
  exact ⟨.ref _, upd H s.heap.objs.size (SetO X.w s.heap.objs.size (fun j => decide (j ∈ ks)) c), I.laid (t' := tk) kp (Nat.le_refl _) (setO_new st), rfl, q _ c free⟩
/-- sorted(s) -/
def rSortS (w : World) : List V → Hp → VK → Prop := fun vs H Q => ∃ (a : Addr) (S : Int → Bool) (n : Nat), vs = [V.ref a] ∧ H a = some (SetO w a S n) ∧
  ∀ (ns : List Int) (p : Addr), ns.Pairwise (· < ·) → (∀ k : Int, k ∈ ns ↔ S k = true) → ns.length = n → H p = none → Q (.ref p) (upd H p (.lst (ns.map V.int)))
theorem cr_sortS (hc : X.calm = true) : CallR X (.builtin "sorted") (rSortS X.w) := by
  intro pins s σ H vs us Q I r h
  obtain ⟨a, S, n, rfl, ha, q⟩ := h
  have R := setO_get I ha
  have few : n < 4096 := by
    obtain ⟨_, es, _, _, _, _, _, _, _, _, b, _, e, _⟩ := R
    have b0 : es.size < 4096 := b
    omega
  rw [Vals.ref1 r]
  refine sorted_any R (I.ok.hd hc) fun z p out c ns k g o hp hg hi hs hm hl => ?_
  have size : (ns.map V.int).length ≤ sizeLine := by
    rw [List.length_map, hl]
    exact Nat.le_trans (show n ≤ 4096 by omega) (by decide)
  have free : H p = none := I.hok.fresh hp
  have J : Inv X pins σ (upd H p (.lst (ns.map V.int))) { s with heap := z.heap, gens := z.gens, drawn := z.drawn, toks := z.toks } :=
    I.call (ch := []) (Un.laid k hp free) (I.hok.laid k hp ⟨size, out, c, vals_of_ints hi, hg⟩) (by rw [g]; exact I.bare) (fun _ z => nomatch z)
  obtain ⟨z1, z2, z3, z4, z5⟩ := z
  obtain rfl : z5 = s.os := o
  exact ⟨.ref p, _, J, rfl, q ns p hs hm hl free⟩
end
end RT

set_option Elab.async false
set_option linter.all false
set_option maxRecDepth 100000
set_option maxHeartbeats 8000000
/-! set(xs) of a list of tuples of ints -/
namespace TT
open PySem PySem.Spec PyProof.Rows L2 RT
section
variable {P : Program} {w : World} {A : Around} {E : Value → Shared → Prop} {u : Shared} {l : Addr} {arr : Array Value} {ks : List (Addr × List Int)}
theorem TSet.keep {h h' : Heap} {a : Addr} {L : List (Addr × List Int)} {es : Array (Int × Value)} {ep : Nat} {t : SetTable} (R : TSet P w h a L es ep t) (ha : ∀ o, h.get? a = some o → h'.get? a = some o) (ht : ∀ p ∈ L, IsT P w h' p.2 p.1) : TSet P w h' a L es ep t := by
  obtain ⟨o, ho, r⟩ := R.ob
  exact ⟨⟨o, ha o ho, r⟩, R.rows, R.ris, R.dm, R.pl, R.mask, R.nd, ht, R.plain, R.led, R.room⟩
theorem tset_new {h : Heap} {a : Addr} (e : h.get? a = some (fresh0 w)) : TSet P w h a [] #[] 0 (.fresh 0 0 (!w.params.followText "set-order")) where
  ob := ⟨_, e, ⟨rfl, rfl, rfl⟩, rfl⟩
  rows := rfl
  ris := List.Pairwise.nil
  dm := rfl
  pl := .nil _
  mask := .a
  nd := List.nodup_nil
  tup := fun p hp => (by cases hp)
  plain := rfl
  led := by
    show _ ∨ (!w.params.followText "set-order") = true
    cases w.params.followText "set-order"
    · exact .inr rfl
    · exact .inl rfl
  room := by show 0 * 5 < 7 * 3; decide
/-- the loop behind set(xs), from any turn on -/
theorem fill_loop {R : Result → Shared → Prop} {S I : Addr} (calm : A.handled = none) (hu : A.in1.units < cLine) (hlI : l ≠ I) (hSl : S ≠ l) (hSI : S ≠ I) (sz : arr.toList = ks.map fun p => Value.ref p.1) (few : ks.length ≤ 1228)
    {h0 : Heap} (tup : ∀ p ∈ ks, IsT P w h0 p.2 p.1) (newS : h0.get? S = none) (newI : h0.get? I = none)
    (fin : ∀ (h' : Heap) (tk : Nat) L es ep t, TSet P w h' S L es ep t → Got ks ks.length L → (∀ b o, h0.get? b = some o → h'.get? b = some o) → R (.ok (.ret .none)) { u with heap := h', toks := tk }) :
    ∀ (n i : Nat) (h : Heap) (tk : Nat), ks.length - i = n → i ≤ ks.length → h.IsListIter I l i → h.IsList l arr → (∀ b o, h0.get? b = some o → h.get? b = some o) → (∃ L es ep t, TSet P w h S L es ep t ∧ Got ks i L) →
      codeAny (model P w) A (.builtin "set.update.loop" ⟨[.ref S, .ref I], []⟩) R { u with heap := h, toks := tk } := by
  have quiet : A.in1.handled = none := calm
  have kept : ∀ {h h' : Heap} {c : Addr}, h0.get? c = none → (∀ b o, b ≠ c → h.get? b = some o → h'.get? b = some o) → (∀ b o, h0.get? b = some o → h.get? b = some o) → ∀ b o, h0.get? b = some o → h'.get? b = some o := fun {h h' c} hc k k0 b o e => k b o (fun z => by rw [z, hc] at e; cases e) (k0 b o e)
  intro n
  induction n with
  | zero =>
    intro i h tk hn hi hit hl k0 hS
    obtain ⟨L, es, ep, t, R0, g⟩ := hS
    have ei : i = ks.length := by omega
    subst ei
    refine codeAny_builtin F.entry_set_update_loop ?_
    rw [Around.under_plainId F.plain_set_update_loop _]
    show wpAny _ A.in1 (pyNext (.ref I) >>= _) _ _ { u with heap := h, toks := tk }
    refine wpAny_bind (wpAny_pyNext_list_end (s := { u with heap := h, toks := tk }) quiet hit hl ?_ fun h' e' => ?_)
    · have : arr.size = ks.length := by rw [← Array.length_toList, sz, List.length_map]
      exact Array.getElem?_eq_none (by omega)
    · have k1 := kept newI e' k0
      exact wpAny_pure (fin h' tk L es ep t (R0.keep (fun o e => e' S o hSI e) fun p hp => isT_keep (tup p (List.mem_of_mem_take (g.sub p hp))) k1) g k1)
  | succ n ih =>
    intro i h tk hn hi hit hl k0 hS
    obtain ⟨L, es, ep, t, R0, g⟩ := hS
    have lt : i < ks.length := by omega
    obtain ⟨p, ep1⟩ : ∃ p, ks[i]? = some p := ⟨ks[i], List.getElem?_eq_getElem lt⟩
    have ev : arr[i]? = some (Value.ref p.1) := by
      rw [← Array.getElem?_toList, sz, List.getElem?_map, ep1]
      rfl
    refine codeAny_builtin F.entry_set_update_loop ?_
    rw [Around.under_plainId F.plain_set_update_loop _]
    show wpAny _ A.in1 (pyNext (.ref I) >>= _) _ _ { u with heap := h, toks := tk }
    refine wpAny_bind (wpAny_pyNext_list_item (s := { u with heap := h, toks := tk }) hit hl ev fun h1 it1 sb1 => ?_)
    have e1 : ∀ b o, b ≠ I → h.get? b = some o → h1.get? b = some o := sb1.extBut
    have k1 := kept newI e1 k0
    have R1 : TSet P w h1 S L es ep t := R0.keep (fun o e => e1 S o hSI e) fun q hq => isT_keep (tup q (List.mem_of_mem_take (g.sub q hq))) k1
    have hx : IsT P w h1 p.2 p.1 := isT_keep (tup p (List.mem_of_getElem? ep1)) k1
    show wpAny _ A.in1 (holding [Value.ref p.1] (setAdd S (.ref p.1)) >>= _) _ _ { u with heap := h1, toks := tk }
    refine wpAny_bind (wpAny_holding ?_)
    unfold setAdd
    refine wpAny_holding ?_
    refine wpAny_bind (wpAny_pyHash_tuple (s := { u with heap := h1, toks := tk }) hu hx ?_)
    refine add_tup (s := { u with heap := h1, toks := tk + (p.2.length + 1) }) R1 hx hu (by have := g.len; omega) fun b h2 L' es' ep' t' only R2 c1 c2 => ?_
    have g' : Got ks (i + 1) L' := by
      rcases Classical.em (p.2 ∈ L.map (·.2)) with c | c
      · rw [c1 c]; exact g.same ep1 c
      · exact g.more ep1 (c2 c)
    have e2 : ∀ b o, b ≠ S → h1.get? b = some o → h2.get? b = some o := fun b o hb e => (only.2 b hb).trans e
    have k2 := kept newS e2 k1
    exact wpAny_pure ⟨plainId_quiet F.plain_set_update_loop _, ih (i + 1) h2 _ (by omega) lt (it1.at fun o e => e2 I o hSI.symm e) ((hl.at fun o e => e1 l o hlI e).at fun o e => e2 l o hSl.symm e) k2 ⟨L', es', ep', t', R2, g'⟩⟩
end
end TT

set_option Elab.async false
set_option linter.all false
set_option maxRecDepth 100000
set_option maxHeartbeats 8000000
/-! sorting tuples of ints, of one length, any number of them -/
namespace TT
open PySem PySem.Spec PyProof.Rows L2 RT
/-- the order of rows of ints -/
def ltL : List Int → List Int → Bool
  | [], [] => false
  | [], _ :: _ => true
  | _ :: _, [] => false
  | x :: xs, y :: ys => if x = y then ltL xs ys else decide (x < y)
theorem ltL_asym : ∀ xs ys : List Int, ltL xs ys = true → ltL ys xs = false
  | [], [], _ => rfl
  | [], _ :: _, _ => rfl
  | _ :: _, [], h => nomatch h
  | x :: xs, y :: ys, h => by
    unfold ltL at h ⊢
    by_cases e : x = y
    · rw [if_pos e] at h
      rw [if_pos e.symm]
      exact ltL_asym xs ys h
    · rw [if_neg e] at h
      rw [if_neg (Ne.symm e)]
      have := of_decide_eq_true h
      exact decide_eq_false (by omega)
theorem ltL_tr : ∀ xs ys zs : List Int, ltL ys xs = false → ltL zs ys = false → ltL zs xs = false
  | _, _, [], h1, h2 => by
    rename_i xs ys
    cases xs with
    | nil => rfl
    | cons x xs =>
      cases ys with
      | nil => exact absurd h1 (by show ¬ (true = false); decide)
      | cons y ys => exact absurd h2 (by show ¬ (true = false); decide)
  | [], _, _ :: _, _, _ => rfl
  | x :: xs, [], z :: zs, h1, _ => absurd h1 (by show ¬ (true = false); decide)
  | x :: xs, y :: ys, z :: zs, h1, h2 => by
    unfold ltL at h1 h2 ⊢
    by_cases e1 : y = x
    · rw [if_pos e1] at h1
      by_cases e2 : z = y
      · rw [if_pos e2] at h2
        rw [if_pos (e2.trans e1)]
        exact ltL_tr xs ys zs h1 h2
      · rw [if_neg e2] at h2
        rw [if_neg (fun q => e2 (q.trans e1.symm))]
        have := of_decide_eq_false h2
        exact decide_eq_false (by omega)
    · rw [if_neg e1] at h1
      have a := of_decide_eq_false h1
      by_cases e2 : z = y
      · rw [if_neg (fun q => e1 (e2.symm.trans q))]
        exact decide_eq_false (by omega)
      · rw [if_neg e2] at h2
        have b := of_decide_eq_false h2
        rw [if_neg (by omega)]
        exact decide_eq_false (by omega)
theorem ltL_eq : ∀ xs ys : List Int, ltL xs ys = false → ltL ys xs = false → xs = ys
  | [], [], _, _ => rfl
  | [], _ :: _, h, _ => nomatch h
  | _ :: _, [], _, h => nomatch h
  | x :: xs, y :: ys, h1, h2 => by
    unfold ltL at h1 h2
    by_cases e : x = y
    · rw [if_pos e] at h1
      rw [if_pos e.symm] at h2
      rw [e, ltL_eq xs ys h1 h2]
    · rw [if_neg e] at h1
      rw [if_neg (Ne.symm e)] at h2
      have a := of_decide_eq_false h1
      have b := of_decide_eq_false h2
      omega
theorem ltL_swo {α : Type} (k : α → List Int) : SrtO.Swo fun x y => ltL (k x) (k y) := ⟨fun x y h => ltL_asym _ _ h, fun x y z h1 h2 => ltL_tr _ _ _ h1 h2⟩
/-- rows that ascend, none twice -/
abbrev Asc (l : List (List Int)) : Prop := l.Pairwise fun x y => ltL x y = true
theorem asc_of {l : List (List Int)} (h : l.Pairwise fun x y => ltL y x = false) (nd : l.Nodup) : Asc l := by
  have q := h.and nd
  refine q.imp fun {a b} z => ?_
  cases c : ltL a b with
  | true => rfl
  | false => exact absurd (ltL_eq a b c z.1) z.2
theorem ltL_irr (x : List Int) : ltL x x = false := (ltL_swo id).refl x
theorem asc_uniq : ∀ {l m : List (List Int)}, Asc l → Asc m → (∀ x, x ∈ l ↔ x ∈ m) → l = m
  | [], [], _, _, _ => rfl
  | [], y :: m, _, _, h => absurd ((h y).2 (List.mem_cons_self ..)) (by simp)
  | x :: l, [], _, _, h => absurd ((h x).1 (List.mem_cons_self ..)) (by simp)
  | x :: l, y :: m, hl, hm, h => by
    obtain ⟨l1, l2⟩ := List.pairwise_cons.mp hl
    obtain ⟨m1, m2⟩ := List.pairwise_cons.mp hm
    have e : x = y := by
      rcases List.mem_cons.mp ((h x).1 (List.mem_cons_self ..)) with e | c
      · exact e
      · rcases List.mem_cons.mp ((h y).2 (List.mem_cons_self ..)) with e | d
        · exact e.symm
        · have a := m1 x c
          rw [ltL_asym x y (l1 y d)] at a
          cases a
    subst e
    have nl : x ∉ l := fun z => by have a := l1 x z; rw [ltL_irr] at a; cases a
    have nm : x ∉ m := fun z => by have a := m1 x z; rw [ltL_irr] at a; cases a
    rw [asc_uniq l2 m2 fun z => ?_]
    constructor
    · intro hz
      rcases List.mem_cons.mp ((h z).1 (List.mem_cons_of_mem _ hz)) with e | q
      · exact absurd (e ▸ hz) nl
      · exact q
    · intro hz
      rcases List.mem_cons.mp ((h z).2 (List.mem_cons_of_mem _ hz)) with e | q
      · exact absurd (e ▸ hz) nm
      · exact q
/-- v is a tuple of these ints, as many as d -/
def Rows (h : Heap) (d : Nat) (k : Value → List Int) (vs : List Value) : Prop := ∀ v ∈ vs, TS.TupInts h v (k v) ∧ (k v).length = d
theorem Rows.keeps {h h' : Heap} {d : Nat} {k : Value → List Int} {vs : List Value} (x : Rows h d k vs) (q : ∀ b o, h.get? b = some o → o.cls = .type "tuple" → h'.get? b = some o) : Rows h' d k vs := fun v hv => ⟨(x v hv).1.keeps q, (x v hv).2⟩
section
variable {P : Program} {w : World} {A : Around} {E : Value → Shared → Prop} {s : Shared}
theorem lex_rows {b : Bool} {Q : Bool → Shared → Prop} : ∀ {xs ys : List Value} {ns ms : List Int} (i : Nat), IntsAre xs ns → IntsAre ys ms → ns.length = ms.length → Q (ltL ns ms) s → PySem.W.KatLex P w A b false Q (xs.zip ys) i s
  | [], _, _, _, i, .nil, .nil, _, q => PySem.W.kat_nil q
  | _, _, _, _, i, .nil, .cons _ _ _, l, _ => absurd l (by simp)
  | _, _, _, _, i, .cons _ _ _, .nil, l, _ => absurd l (by simp)
  | _, _, _, _, i, .cons p t hx, .cons q u hy, l, z => by
    rename_i xs ns ys ms
    show PySem.W.KatLex P w A b false Q ((Value.int p t, Value.int q u) :: xs.zip ys) i s
    refine PySem.W.kat_cons (wpAny_eqBool_int ?_)
    unfold ltL at z
    by_cases e : p = q
    · rw [if_pos e] at z
      rw [show (p == q) = true from beq_iff_eq.mpr e]
      exact PySem.W.kat_yes (lex_rows (i + 1) hx hy (Nat.succ.inj l) z)
    · rw [if_neg e] at z
      rw [show (p == q) = false from beq_eq_false_iff_ne.mpr e]
      exact PySem.W.kat_no (TS.oneLt_ints _ z)
theorem firsts {h : Heap} {d : Nat} (hd : 1 ≤ d) {k : Value → List Int} : ∀ vs : List Value, Rows h d k vs → ∃ fs, PySem.W.KatTups h vs fs ∧ fs.length = vs.length ∧ ∀ f ∈ fs, ∃ n t, f = Value.int n t
  | [], _ => ⟨[], .nil, rfl, fun f z => by cases z⟩
  | v :: vs, x => by
    obtain ⟨fs, a1, a2, a3⟩ := firsts hd vs fun u hu => x u (List.mem_cons_of_mem _ hu)
    obtain ⟨⟨t, its, rfl, ⟨o, ho, hc, n, hdt⟩, i⟩, hl⟩ := x v (List.mem_cons_self ..)
    have pos : 0 < its.toList.length := by rw [i.length]; omega
    obtain ⟨f, hf⟩ : ∃ f, its.toList[0]? = some f := ⟨_, List.getElem?_eq_getElem pos⟩
    obtain ⟨m, tk, ef⟩ := i.all f (List.mem_of_getElem? hf)
    refine ⟨f :: fs, .cons ho hc hdt (by rw [← Array.getElem?_toList]; exact hf) a1, by rw [List.length_cons, List.length_cons, a2], fun g hg => ?_⟩
    rcases List.mem_cons.mp hg with rfl | hg
    · exact ⟨m, tk, ef⟩
    · exact a3 g hg
theorem rows_cmp {d : Nat} {k : Value → List Int} {vs : List Value} (x : Rows s.heap d k vs) : SrtO.Cmp P w A s (tuples' true) (fun p => p.1 ∈ vs) (SrtO.lt2 fun u v => ltL (k u) (k v)) := by
  intro p q hp hq
  show wpAny (model P w) A (keyLt' (tuples' true) p.1 q.1) (fun r s' => s' = s ∧ r = ltL (k p.1) (k q.1)) (fun _ _ => False) s
  obtain ⟨⟨t, its, e, ⟨o, ho, hc, n, hdt⟩, i⟩, hl⟩ := x _ hp
  obtain ⟨⟨t', its', e', ⟨o', ho', hc', n', hdt'⟩, i'⟩, hl'⟩ := x _ hq
  generalize k p.1 = ns at i hl ⊢
  generalize k q.1 = ms at i' hl' ⊢
  rw [e, e']
  refine PySem.W.kat_lt ho hdt ho' hdt' ?_
  have same : decide (its.size < its'.size) = false := by
    have l1 := i.length
    have l2 := i'.length
    rw [Array.length_toList] at l1 l2
    exact decide_eq_false (by omega)
  rw [same]
  exact lex_rows 0 i i' (hl.trans hl'.symm) ⟨rfl, rfl⟩
theorem rows_sortable {a : Addr} {d : Nat} {k : Value → List Int} {vs : List Value} (hd : 1 ≤ d) (h2 : 2 ≤ vs.length) (x : Rows s.heap d k vs) (ha : ∀ o, s.heap.get? a = some o → o.cls ≠ .type "tuple") : SrtO.SortableO P w A s a vs fun u v => ltL (k u) (k v) := by
  intro h' keep
  have x' : Rows h' d k vs := x.keeps fun b o e c => keep b o (fun z => by subst z; exact ha o e c) e
  obtain ⟨fs, f1, f2, f3⟩ := firsts hd vs x'
  refine ⟨tuples' true, fun Q E hq => ?_, rows_cmp (s := { s with heap := h' }) x'⟩
  refine PySem.W.kat_kind (T := .type "int") f1 (by omega) (fun f hm => ?_) (by rfl) ?_
  · obtain ⟨n, t, rfl⟩ := f3 f hm
    exact PySem.W.Looks.of_pure rfl
  · rw [show (Value.type "int" != Value.type "tuple") = true from by decide +kernel]
    exact hq
theorem not_tup {o : Obj} {h : Heap} {a : Addr} {vs : List Value} (ha : h.get? a = some (seqObj "list" vs.toArray 0)) (e : h.get? a = some o) : o.cls ≠ .type "tuple" := by
  rw [ha] at e
  cases e
  intro c
  exact absurd (Value.type.inj c) (by decide)
/-- sorted(l) of a list of rows -/
theorem sorted_rows {l : Addr} {d : Nat} {k : Value → List Int} {vs : List Value} {Q : Value → Shared → Prop} (hl : s.heap.IsList l vs.toArray) (hz : vs.length ≤ sizeLine) (hd : 1 ≤ d) (x : Rows s.heap d k vs)
    (h : ∀ (h' : Heap) (p : Addr) (out : List Value) (c : Nat), out.Perm vs → (out.map k).Pairwise (fun x y => ltL y x = false) → (∀ b o, s.heap.get? b = some o → h'.get? b = some o) → s.heap.objs.size ≤ p → h'.get? p = some (seqObj "list" out.toArray c) → Q (.ref p) { s with heap := h' }) :
    wpAny (model P w) A (call (.builtin "sorted") [.ref l]) Q E s := by
  refine SrtO.sorted_ord (ltL_swo k) hl hz (fun h2 h₁ a ha kk => rows_sortable (s := { s with heap := h₁ }) hd h2 (x.keeps fun b o e _ => (kk b o e).2) fun o e => not_tup ha e) fun out hs hb => ?_
  obtain ⟨c, hc⟩ := sortedAll_at s.heap vs out.toArray
  exact h _ _ out c hb.perm (List.pairwise_map.mpr hs) (fun b o e => sortedAll_old e) (Nat.le_succ _) hc
/-- the end of sorted(x) behind what was collected -/
theorem sort_end {d : Nat} {k : Value → List Int} {vs : List Value} {Q : Value → Shared → Prop} (hz : vs.length ≤ sizeLine) (hd : 1 ≤ d) (x : Rows s.heap d k vs)
    (h : ∀ (h' : Heap) (p : Addr) (out : List Value) (c : Nat), out.Perm vs → (out.map k).Pairwise (fun x y => ltL y x = false) → (∀ b o, s.heap.get? b = some o → h'.get? b = some o) → s.heap.objs.size ≤ p → h'.get? p = some (seqObj "list" out.toArray c) → Q (.ref p) { s with heap := h' }) :
    wpAny (model P w) A (newList vs >>= fun l => holding [l] (call (.builtin "list.sort") [l] []) >>= fun _ => ret l) (fun fin s' => ∃ v, fin = .done (.ret v) ∧ Q v s') E s := by
  refine wpAny_bind (wpAny_newList ?_ hz)
  have atL : (s.heap.push (seqObj "list" vs.toArray 0)).get? s.heap.objs.size = some (seqObj "list" vs.toArray 0) := Heap.get?_push_size _ rfl
  have x' : Rows (s.heap.push (seqObj "list" vs.toArray 0)) d k vs := x.keeps fun b o e _ => Heap.get?_push_of_some _ e
  refine wpAny_bind (wpAny_holding (wpAny_call_entry (s := { s with heap := s.heap.push (seqObj "list" vs.toArray 0) }) slot_list_sort ⟨_, atL, rfl⟩ entry_list_sort (SrtO.list_sort_ord (ltL_swo k) atL hz (fun h2 => rows_sortable (s := { s with heap := s.heap.push (seqObj "list" vs.toArray 0) }) hd h2 x' fun o e => not_tup atL e) fun out q1 q2 => ⟨_, rfl, ?_⟩) (args_list_sort _)))
  obtain ⟨c, hc⟩ := sortedHeap_at (vs := vs) (out := out.toArray) atL
  refine wpAny_pure ⟨_, rfl, h _ s.heap.objs.size out c q2.perm (List.pairwise_map.mpr q1) (fun b o e => ?_) (Nat.le_refl _) hc⟩
  have lt := Heap.lt_size e
  show (sortedHeap (s.heap.push (seqObj "list" vs.toArray 0)) s.heap.objs.size vs out.toArray).get? b = some o
  rw [sortedHeap_old (Nat.ne_of_lt lt) (by rw [size_push']; exact Nat.lt_succ_of_lt lt)]
  exact Heap.get?_push_of_some _ e
/-- the ints of a tuple, read off a heap -/
abbrev intsAt (h : Heap) (v : Value) : List Int := TS.intsOf h v
theorem tupInts {h : Heap} {k : List Int} {b : Addr} (x : IsT P w h k b) : TS.TupInts h (.ref b) k := tupInts_of x
theorem refs_rows {h : Heap} {d : Nat} {L : List (Addr × List Int)} {vs : List Value} (hL : ∀ p ∈ L, IsT P w h p.2 p.1 ∧ p.2.length = d) (hv : ∀ v ∈ vs, ∃ p ∈ L, v = Value.ref p.1) : Rows h d (intsAt h) vs := fun v m => by
  obtain ⟨p, hp, rfl⟩ := hv v m
  have q := tupInts (hL p hp).1
  rw [show intsAt h (Value.ref p.1) = p.2 from q.ints]
  exact ⟨q, (hL p hp).2⟩
/-- sorted(s), s a set of tuples -/
theorem sorted_tset {a : Addr} {L : List (Addr × List Int)} {es : Array (Int × Value)} {ep : Nat} {t : SetTable} {d : Nat} {Q : Value → Shared → Prop} (R : TSet P w s.heap a L es ep t) (calm : A.handled = none) (hd : 1 ≤ d) (hL : ∀ p ∈ L, p.2.length = d)
    (h : ∀ s' p (out : Array Value) (c : Nat) (L' : List (Addr × List Int)), (∀ b o, s.heap.get? b = some o → s'.heap.get? b = some o) → s'.gens = s.gens → s'.os = s.os → s.heap.objs.size ≤ p →
      s'.heap.get? p = some (seqObj "list" out c) → out.toList = L'.map (fun q => Value.ref q.1) → (∀ q ∈ L', q ∈ L) → L'.length = L.length → Asc (L'.map (·.2)) → (∀ k, k ∈ L'.map (·.2) ↔ k ∈ L.map (·.2)) → Q (.ref p) s') :
    wpAny (model P w) A (call (.builtin "sorted") [.ref a]) Q E s := by
  obtain ⟨ob, at0, exact0, dat⟩ := R.ob
  have few := R.few
  have many := R.many
  refine Calls.call_function_entry kind_sorted plain_sorted entry_sorted (args_sorted1 _) ?_
  unfold Builtin.«sorted»
  refine wpAny_bind (m := checkCount "sorted" 1 1 _) (wpAny_pure (wpAny_bind (collect_set (A := A.in1) calm ⟨ob, at0, exact0.1, dat⟩ R.fits (by unfold scanBound; omega) R.ris R.led fun s1 vs k1 z1 g1 o1 pm => ?_)))
  have vals : es.toList.map (·.2) = L.map fun q => Value.ref q.1 := by
    rw [R.rows]
    show (L.map fun p => (thash P w p.2, Value.ref p.1)).map (·.2) = _
    rw [List.map_map]
    rfl
  rw [vals] at pm
  have size : vs.length = L.length := by rw [pm.length_eq, List.length_map]
  have rows : Rows s1.heap d (intsAt s1.heap) vs := refs_rows (P := P) (w := w) (L := L) (fun p hp => ⟨isT_keep (R.tup p hp) k1, hL p hp⟩) fun v hv => by
    obtain ⟨p, hp, e⟩ := List.mem_map.mp (pm.mem_iff.mp hv)
    exact ⟨p, hp, e.symm⟩
  refine sort_end (by rw [size, sizeLine_eq]; omega) hd rows fun h' p out c q1 q2 kp hp hc => ?_
  have atQ : ∀ q ∈ L, intsAt s1.heap (Value.ref q.1) = q.2 := fun q hq => (tupInts (P := P) (w := w) (isT_keep (R.tup q hq) k1)).ints
  -- the rows behind the addresses
  have pick : ∀ us : List Value, (∀ u ∈ us, ∃ q ∈ L, u = Value.ref q.1) → ∃ L1 : List (Addr × List Int), us = L1.map (fun q => Value.ref q.1) ∧ (∀ q ∈ L1, q ∈ L) := fun us => by
    induction us with
    | nil => exact fun _ => ⟨[], rfl, fun q z => by cases z⟩
    | cons u us ih =>
      intro hu
      obtain ⟨q, hq, rfl⟩ := hu u (List.mem_cons_self ..)
      obtain ⟨L1, rfl, hs⟩ := ih fun v hv => hu v (List.mem_cons_of_mem _ hv)
      refine ⟨q :: L1, rfl, fun r hr => ?_⟩
      rcases List.mem_cons.mp hr with rfl | hr
      · exact hq
      · exact hs r hr
  have qv := q1.trans pm
  obtain ⟨L', e', sub⟩ := pick out fun u hu => by
    obtain ⟨q, hq, e⟩ := List.mem_map.mp (qv.mem_iff.mp hu)
    exact ⟨q, hq, e.symm⟩
  have keys : out.map (intsAt s1.heap) = L'.map (·.2) := by
    rw [e', List.map_map]
    exact List.map_congr_left fun q hq => atQ q (sub q hq)
  have keysL : (L.map fun q => Value.ref q.1).map (intsAt s1.heap) = L.map (·.2) := by
    rw [List.map_map]
    exact List.map_congr_left fun q hq => atQ q hq
  have permK : (L'.map (·.2)).Perm (L.map (·.2)) := by
    have z := qv.map (intsAt s1.heap)
    rwa [keys, keysL] at z
  rw [keys] at q2
  refine h { s1 with heap := h' } p out.toArray c L' (fun b o e => kp b o (k1 b o e)) g1 o1 (Nat.le_trans z1 hp) hc (by simpa using e') sub ?_ (asc_of q2 (permK.nodup_iff.mpr R.nd)) fun k => permK.mem_iff
  have z := permK.length_eq
  rwa [List.length_map, List.length_map] at z
end
end TT

set_option Elab.async false
set_option linter.all false
set_option maxRecDepth 100000
set_option maxHeartbeats 8000000
/-! sets of tuples, sorted lists of them, dicts with tuples as keys: rules of the layer -/
namespace TT
open PySem PySem.Spec PyProof.Rows L2 RT
/-- the set at a, its tuples apart -/
def SetAtL (P : Program) (w : World) (h : Heap) (a : Addr) (L : List (Addr × List Int)) : Prop := ∃ (es : Array (Int × Value)) (ep : Nat) (t : SetTable), (∃ o, h.get? a = some o ∧ o.ExactSet ∧ o.data = .set es ep t) ∧ es.toList = rowsOf P w L ∧
  Ris t.place.toList ∧ t.dummies = #[] ∧ Placed t.mask (hashesOf P w L) t.place.toList ∧ Mask t.mask ∧ (L.map (·.2)).Nodup ∧ t.plain = true ∧ (w.params.followText "set-order" = true ∨ t.led = true) ∧ L.length * 5 < t.mask * 3
def SetW (P : Program) (w : World) (a : Addr) (L : List (Addr × List Int)) : HO := .ext fun h => SetAtL P w h a L
theorem TSet.apart {P : Program} {w : World} {h : Heap} {a : Addr} {L : List (Addr × List Int)} {es : Array (Int × Value)} {ep : Nat} {t : SetTable} (R : TSet P w h a L es ep t) : SetAtL P w h a L :=
  ⟨es, ep, t, R.ob, R.rows, R.ris, R.dm, R.pl, R.mask, R.nd, R.plain, R.led, R.room⟩
theorem SetAtL.full {P : Program} {w : World} {h : Heap} {a : Addr} {L : List (Addr × List Int)} (R : SetAtL P w h a L) (ht : ∀ p ∈ L, IsT P w h p.2 p.1) : ∃ es ep t, TSet P w h a L es ep t := by
  obtain ⟨es, ep, t, h1, h2, h3, h4, h5, h6, h7, h8, h9, h10⟩ := R
  exact ⟨es, ep, t, h1, h2, h3, h4, h5, h6, h7, ht, h8, h9, h10⟩
theorem setW_ok {P : Program} {w : World} {H : Hp} {h : Heap} {a : Addr} {L : List (Addr × List Int)} (R : SetAtL P w h a L) : ObjOk P w H h a (SetW P w a L) := by
  obtain ⟨es, ep, t, ⟨o, ho, r⟩, q⟩ := id R
  refine ⟨R, ⟨o, ho⟩, fun h1 h2 p k => ?_⟩
  obtain ⟨es', ep', t', ⟨o', ho', r'⟩, q'⟩ := p
  exact ⟨es', ep', t', ⟨o', k o' ho', r'⟩, q'⟩
section
variable {X : Cx} {pins : List (Addr × Obj)} {σ : L2.St} {H : Hp} {s : Shared}
theorem isT_in {b : Addr} {k : List Int} (I : L2.Inv X pins σ H s) (h : SqT X.K H b (k.map V.int)) : IsT X.prog X.w s.heap k b := I.isT h
/-- set(xs) of a list of tuples of ints -/
def rSetT (K : PySem.W.Frag) (P : Program) (w : World) : List V → Hp → VK → Prop := fun vs H Q => ∃ (l : Addr) (ks : List (Addr × List Int)), vs = [V.ref l] ∧ SqL K H l (ks.map fun p => V.ref p.1) ∧ (∀ p ∈ ks, SqT K H p.1 (p.2.map V.int)) ∧ ks.length ≤ 1228 ∧
  ∀ a L, H a = none → (∀ p ∈ L, p ∈ ks) → (∀ p ∈ ks, p.2 ∈ L.map (·.2)) → (L.map (·.2)).Nodup → Q (.ref a) (upd H a (SetW P w a L))
end
section
variable {P : Program} {w : World} {A : Around} {E : Value → Shared → Prop} {u : Shared} {l : Addr} {arr : Array Value} {ks : List (Addr × List Int)}
theorem fill_tups {R : Result → Shared → Prop} (calm : A.handled = none) (hu : A.in1.units < cLine) (pl : u.heap.IsList l arr) (sz : arr.toList = ks.map fun p => Value.ref p.1) (few : ks.length ≤ 1228) (tup : ∀ p ∈ ks, IsT P w u.heap p.2 p.1)
    (fin : ∀ (h' : Heap) (tk : Nat) L es ep t, TSet P w h' u.heap.objs.size L es ep t → Got ks ks.length L → (∀ b o, u.heap.get? b = some o → h'.get? b = some o) → R (.ok (.ret .none)) { u with heap := h', toks := tk }) :
    codeAny (model P w) A (.builtin "set.update.loop" ⟨[.ref u.heap.objs.size, .ref (u.heap.push (fresh0 w)).objs.size], []⟩) R { u with heap := (u.heap.push (fresh0 w)).push { cls := .type "list_iterator", data := .fields #[.ref l, .int 0 0] } } := by
  obtain ⟨ob, at_, rest⟩ := id pl
  have lt : l < u.heap.objs.size := Heap.lt_size at_
  have sz1 : (u.heap.push (fresh0 w)).objs.size = u.heap.objs.size + 1 := Heap.size_push ..
  have pl1 : (u.heap.push (fresh0 w)).IsList l arr := pl.push _
  have gone : ∀ b, u.heap.objs.size ≤ b → u.heap.get? b = none := fun b hb => by
    cases q : u.heap.get? b with
    | none => rfl
    | some o => exact absurd (Heap.lt_size q) (Nat.not_lt.mpr hb)
  have begun : ((u.heap.push (fresh0 w)).push { cls := .type "list_iterator", data := .fields #[.ref l, .int 0 0] }).get? u.heap.objs.size = some (fresh0 w) := Heap.get?_push_of_some _ (Heap.get?_push_size _ rfl)
  exact fill_loop (l := l) (arr := arr) calm hu (Nat.ne_of_lt (by rw [sz1]; exact Nat.lt_succ_of_lt lt)) (Nat.ne_of_gt lt) (Nat.ne_of_lt (by rw [sz1]; exact Nat.lt_succ_self _)) sz few tup (gone _ (Nat.le_refl _)) (gone _ (by rw [sz1]; exact Nat.le_succ _)) fin
    ks.length 0 _ u.toks (Nat.sub_zero _) (Nat.zero_le _) ⟨_, Heap.get?_push_size _ rfl, rfl, rfl⟩ (pl1.push _) (fun b o e => Heap.get?_push_of_some _ (Heap.get?_push_of_some _ e)) ⟨[], #[], 0, _, tset_new begun, Got.zero ks⟩
set_option maxHeartbeats 8000000 in
theorem set_tups {Q : Value → Shared → Prop} (calm : A.handled = none) (hu : A.units + 5 < cLine) (pl : u.heap.IsList l arr) (sz : arr.toList = ks.map fun p => Value.ref p.1) (few : ks.length ≤ 1228) (tup : ∀ p ∈ ks, IsT P w u.heap p.2 p.1)
    (fin : ∀ (h' : Heap) (tk : Nat) L es ep t, TSet P w h' u.heap.objs.size L es ep t → Got ks ks.length L → (∀ b o, u.heap.get? b = some o → h'.get? b = some o) → Q (.ref u.heap.objs.size) { u with heap := h', toks := tk }) :
    wpAny (model P w) A (call (.type "set") [.ref l]) Q E u := by
  obtain ⟨c1, c2, c3⟩ := F.called_set.mro
  have c4 := F.called_set.made
  have c5 := F.called_set.sub
  refine wpAny_call (codeAny_of_tree ?_)
  show wpAny _ _ (callAny (.type "set") ⟨[.ref l], []⟩) _ _ u
  refine wpAny_pure ⟨Code.quiet_builtin _ (by decide +kernel), codeAny_builtin F.entry_type_call ?_⟩
  rw [Around.under_plain (weight_type_call_type "set" [.ref l] []) rfl]
  have c6 := F.called_set.notType
  have c7 := F.called_set.canCreate
  have c8 := F.typeCall_set_1 (.ref l)
  repeat (any_goals (first | assumption | wp_step))
  refine codeAny_mono (code_set_led1 (.ref l) (E := E) (Q₁ := fun o z => o = .ref u.heap.objs.size ∧ z = { u with heap := u.heap.push (fresh0 w) }) ⟨rfl, rfl⟩) fun r z hr => ?_
  match r, hr with
  | .error e, hr => exact hr
  | .ok .next, hr => exact hr.elim
  | .ok .brk, hr => exact hr.elim
  | .ok .cont, hr => exact hr.elim
  | .ok (.ret o), hr =>
    obtain ⟨rfl, rfl⟩ := hr
    have at0 : (u.heap.push (fresh0 w)).get? u.heap.objs.size = some (fresh0 w) := Heap.get?_push_size _ rfl
    have ty0 : Shared.TypeIs { u with heap := u.heap.push (fresh0 w) } (.ref u.heap.objs.size) "set" := ⟨_, at0, rfl⟩
    have c9 := F.called_set.init.lookup
    have c10 := F.called_set.init.bind (.ref u.heap.objs.size)
    repeat (any_goals (first | assumption | wp_step))
    refine codeAny_mono (codeAny_call_builtin (R := wants (fun r z => r = .none ∧ ∃ h' tk L es ep t, z = { u with heap := h', toks := tk } ∧ TSet P w h' u.heap.objs.size L es ep t ∧ Got ks ks.length L ∧ (∀ b o, u.heap.get? b = some o → h'.get? b = some o)) E)
      F.called_set.init.plain F.entry_set_init (check_set_init_1 ty0 ?_)) fun r2 z2 hr2 => ?_
    · obtain ⟨⟨oc, od, dt, osl⟩, at1, hc, n1, hd⟩ := id pl
      simp only at hc hd
      subst hc hd
      have at2 : (u.heap.push (fresh0 w)).get? l = some ⟨.type "list", od, .seq arr n1, osl⟩ := Heap.get?_push_of_some _ at1
      have d1 := F.sub_list_set
      have d2 := F.sub_list_frozenset
      have d3 : (Value.type "list" == Value.type "dict") = false := by decide
      have pl1 : (u.heap.push (fresh0 w)).IsList l arr := pl.push _
      unfold Builtin.«set.__init__» noKeywords Builtin.Frozenset.updateFrom
      generalize eI : pyIter = walker
      wp_walk
      subst eI
      refine wpAny_pyIter_list pl1 (wpAny_bind (wpAny_runValue ?_))
      refine fill_tups (by simp [calm]) (by have z : A.units + 1 + 1 + 1 < cLine := (by omega); simpa using z) pl sz few tup fun h' tk L es ep t st g kp => ?_
      show wpAny _ _ _ _ _ _
      refine wpAny_pure ?_
      show wpAny _ _ (ret Value.none) _ _ _
      exact wpAny_pure ⟨rfl, h', tk, L, es, ep, t, rfl, st, g, kp⟩
    · match r2, hr2 with
      | .error e, hr2 => exact hr2
      | .ok .next, hr2 => exact hr2.elim
      | .ok .brk, hr2 => exact hr2.elim
      | .ok .cont, hr2 => exact hr2.elim
      | .ok (.ret r), hr2 =>
        obtain ⟨rfl, h', tk, L, es, ep, t, rfl, st, g, kp⟩ := hr2
        repeat (any_goals (first | assumption | wp_step))
        exact fin _ _ _ _ _ _ st g kp
end
end TT

set_option Elab.async false
set_option linter.all false
set_option maxRecDepth 100000
set_option maxHeartbeats 8000000
namespace TT
open PySem PySem.Spec PyProof.Rows L2 RT
section
variable {X : Cx}
theorem cr_setT (hc : X.calm = true) (hu : X.A.units + 64 < cLine) : CallR X (.type "set") (rSetT X.K X.prog X.w) := by
  intro pins s σ H xs us Q I r h
  obtain ⟨l, ks, rfl, hl, hk, few, q⟩ := h
  rw [Vals.ref1 r]
  obtain ⟨its, rv, pl, hz⟩ := I.list hl
  refine set_tups (I.ok.hd hc) (by omega) pl.isList (by simpa using refs_of_vals rv) few (fun p hp => I.isT (hk p hp)) fun h' tk L es ep t R g k => ?_
  have free : H s.heap.objs.size = none := I.hok.fresh (Nat.le_refl _)
  exact ⟨.ref s.heap.objs.size, upd H s.heap.objs.size (SetW X.prog X.w s.heap.objs.size L), I.laid (t' := tk) k (Nat.le_refl _) (setW_ok R.apart), rfl, q _ L free (fun p hp => List.mem_of_mem_take (g.sub p hp)) (fun p hp => g.all p (by rw [List.take_length]; exact hp)) R.nd⟩
/-- len(s) -/
def rLenT (P : Program) (w : World) : List V → Hp → VK → Prop := fun vs H Q => ∃ (a : Addr) (L : List (Addr × List Int)), vs = [V.ref a] ∧ H a = some (SetW P w a L) ∧ Q (.int L.length) H
theorem cr_lenT : CallR X (.builtin "len") (rLenT X.prog X.w) := by
  intro pins s σ H vs us Q I r h
  obtain ⟨a, L, rfl, ha, q⟩ := h
  rw [Vals.ref1 r]
  obtain ⟨es, ep, t, ⟨o, ho, ex, hd⟩, rows, _, dm, pl, mask, _, _, _, room⟩ := (show SetAtL X.prog X.w s.heap a L from (I.hok a _ ha).1)
  have many : es.size = L.length := by
    rw [← Array.length_toList, rows]
    exact List.length_map ..
  have seats : t.place.size = L.length := by
    rw [← Array.length_toList, pl.len]
    exact List.length_map ..
  have le := mask.le
  have fits : t.fits es.size = true := by
    unfold SetTable.fits SetTable.fill
    rw [dm, Bool.and_eq_true, beq_iff_eq, decide_eq_true_eq]
    exact ⟨seats.trans many.symm, by show t.place.size + 0 ≤ t.mask; omega⟩
  refine call_len_set ho ex hd fits (by rw [many]; omega) ?_
  exact ⟨.int es.size, H, (I.tok _).tok _, ⟨_, rfl⟩, by rw [many]; exact q⟩
/-- the key of a row, read off the layer's heap -/
def rowOf (H : Hp) : V → List Int
  | .ref t => match H t with
    | some (.tup xs) => xs.map fun x => match x with
      | .int i => i
      | _ => 0
    | _ => []
  | _ => []
theorem rowOf_at {H : Hp} {t : Addr} {k : List Int} (h : H t = some (.tup (k.map V.int))) : rowOf H (.ref t) = k := by
  show (match H t with
    | some (.tup xs) => xs.map fun x => match x with
      | .int i => i
      | _ => 0
    | _ => []) = k
  rw [h]
  show ((k.map V.int).map fun x => match x with | .int i => i | _ => 0) = k
  rw [List.map_map]
  exact List.map_id' k
/-- rows at their addresses -/
abbrev RowsAt (H : Hp) (d : Nat) (L : List (Addr × List Int)) : Prop := ∀ p ∈ L, H p.1 = some (.tup (p.2.map V.int)) ∧ p.2.length = d
theorem tupQ {K : PySem.W.Frag} {H : Hp} {t : Addr} {xs : List V} (h : H t = some (.tup xs)) : SqT K H t xs := .inl (.inl h)
/-- sorted(s), s a set of rows -/
def rSortT (P : Program) (w : World) : List V → Hp → VK → Prop := fun vs H Q => ∃ (a : Addr) (L : List (Addr × List Int)) (d : Nat), vs = [V.ref a] ∧ H a = some (SetW P w a L) ∧ 1 ≤ d ∧ RowsAt H d L ∧
  ∀ (L' : List (Addr × List Int)) (p : Addr), (∀ q ∈ L', q ∈ L) → L'.length = L.length → Asc (L'.map (·.2)) → (∀ k, k ∈ L'.map (·.2) ↔ k ∈ L.map (·.2)) → H p = none → Q (.ref p) (upd H p (.lst (L'.map fun q => V.ref q.1)))
theorem cr_sortT (hc : X.calm = true) : CallR X (.builtin "sorted") (rSortT X.prog X.w) := by
  intro pins s σ H vs us Q I r h
  obtain ⟨a, L, d, rfl, ha, hd, hL, q⟩ := h
  obtain ⟨es, ep, t, R⟩ := (show SetAtL X.prog X.w s.heap a L from (I.hok a _ ha).1).full fun p hp => I.isT (tupQ (hL p hp).1)
  have few := R.few
  rw [Vals.ref1 r]
  refine sorted_tset R (I.ok.hd hc) hd (fun p hp => (hL p hp).2) fun z p out c L' k g o hp hg e sub len asc mem => ?_
  have free : H p = none := I.hok.fresh hp
  have size : (L'.map fun q => V.ref q.1).length ≤ sizeLine := by rw [List.length_map, len, sizeLine_eq]; omega
  have J : L2.Inv X pins σ (upd H p (.lst (L'.map fun q => V.ref q.1))) { s with heap := z.heap, gens := z.gens, drawn := z.drawn, toks := z.toks } :=
    I.call (ch := []) (Un.laid k hp free) (I.hok.laid k hp ⟨size, out.toList, c, by rw [e]; exact vals_of_refs L', hg⟩) (by rw [g]; exact I.bare) (fun _ z => nomatch z)
  obtain ⟨z1, z2, z3, z4, z5⟩ := z
  obtain rfl : z5 = s.os := o
  exact ⟨.ref p, _, J, rfl, q L' p sub len asc mem free⟩
/-- sorted(xs), xs a list of rows -/
def rSortR (K : PySem.W.Frag) : List V → Hp → VK → Prop := fun vs H Q => ∃ (a : Addr) (L : List (Addr × List Int)) (d : Nat), vs = [V.ref a] ∧ SqL K H a (L.map fun q => V.ref q.1) ∧ 1 ≤ d ∧ RowsAt H d L ∧
  ∀ (L' : List (Addr × List Int)) (p : Addr), L'.Perm L → (L'.map (·.2)).Pairwise (fun x y => ltL y x = false) → H p = none → Q (.ref p) (upd H p (.lst (L'.map fun q => V.ref q.1)))
theorem perm_back {f : Addr × List Int → Value} {L : List (Addr × List Int)} (hf : ∀ p ∈ L, ∀ q ∈ L, f p = f q → p = q) : ∀ {out : List Value}, out.Perm (L.map f) → ∃ L' : List (Addr × List Int), out = L'.map f ∧ L'.Perm L := by
  intro out h
  induction out generalizing L with
  | nil =>
    have e : L = [] := List.map_eq_nil_iff.mp h.symm.eq_nil
    exact ⟨[], rfl, by rw [e]⟩
  | cons o out ih =>
    obtain ⟨p, hp, e⟩ := List.mem_map.mp (h.mem_iff.mp (List.mem_cons_self ..))
    obtain ⟨A, B, rfl⟩ := List.append_of_mem hp
    have more : ∀ {x : Addr × List Int}, x ∈ A ++ B → x ∈ A ++ p :: B := fun {x} hx => (List.Sublist.append (List.Sublist.refl A) (List.sublist_cons_self p B)).subset hx
    have h2 : out.Perm ((A ++ B).map f) := by
      have z : (o :: out).Perm (o :: (A ++ B).map f) := by
        refine h.trans ?_
        rw [List.map_append, List.map_cons, e, List.map_append]
        exact List.perm_middle
      exact z.cons_inv
    obtain ⟨L', e', pm⟩ := ih (L := A ++ B) (fun x hx y hy => hf x (more hx) y (more hy)) h2
    exact ⟨p :: L', by rw [List.map_cons, e, e'], (pm.cons p).trans List.perm_middle.symm⟩
theorem cr_sortR : CallR X (.builtin "sorted") (rSortR X.K) := by
  intro pins s σ H vs us Q I r h
  obtain ⟨a, L, d, rfl, hl, hd, hL, q⟩ := h
  rw [Vals.ref1 r]
  obtain ⟨its, rv, pl, hz⟩ := I.list hl
  have eits : its = L.map fun p => Value.ref p.1 := refs_of_vals rv
  have isT : ∀ p ∈ L, IsT X.prog X.w s.heap p.2 p.1 := fun p hp => I.isT (tupQ (hL p hp).1)
  have rows : Rows s.heap d (intsAt s.heap) its := refs_rows (P := X.prog) (w := X.w) (L := L) (fun p hp => ⟨isT p hp, (hL p hp).2⟩) fun v hv => by
    rw [eits] at hv
    obtain ⟨p, hp, e⟩ := List.mem_map.mp hv
    exact ⟨p, hp, e.symm⟩
  have len : its.length = L.length := by rw [eits, List.length_map]
  refine sorted_rows pl.isList (by rw [len]; rw [List.length_map] at hz; exact hz) hd rows fun h' p out c q1 q2 kp hp hc => ?_
  rw [eits] at q1
  obtain ⟨L', e', pm⟩ := perm_back (L := L) (fun p hp q hq e => by
    injection e with e
    have h1 := (isT p hp)
    rw [e] at h1
    exact Prod.ext e (h1.inj (isT q hq))) q1
  have keys : out.map (intsAt s.heap) = L'.map (·.2) := by
    rw [e', List.map_map]
    exact List.map_congr_left fun q hq => (tupInts (isT q (pm.mem_iff.mp hq))).ints
  rw [keys] at q2
  have free : H p = none := I.hok.fresh hp
  refine ⟨.ref p, _, I.laid (t' := s.toks) (o := .lst (L'.map fun q => V.ref q.1)) kp hp ⟨?_, out, c, by rw [e']; exact vals_of_refs L', hc⟩, rfl, q L' p pm q2 free⟩
  rw [List.length_map, pm.length_eq, ← List.length_map (as := L) (f := fun q => V.ref q.1)]
  exact hz
end
end TT

set_option Elab.async false
set_option linter.all false
set_option maxRecDepth 100000
set_option maxHeartbeats 8000000
namespace TT
open PySem PySem.Spec PyProof.Rows L2 RT
/-- rows of ints as keys of a dict -/
abbrev kI (k : List Int) : List Key := k.map Sum.inl
theorem kI_inj {a b : List Int} (h : kI a = kI b) : a = b := (List.map_inj_right (fun _ _ e => Sum.inl.inj e)).mp h
theorem kI_V (k : List Int) : (kI k).map kV = k.map V.int := by
  rw [List.map_map]
  rfl
/-- a dict's pairs, the keys rows of ints -/
abbrev dI (M : List (List Int × V)) : List (List Key × V) := M.map fun p => (kI p.1, p.2)
def unI (k : List Key) : List Int := k.map fun x => match x with
  | .inl i => i
  | _ => 0
theorem unI_kI (k : List Int) : unI (kI k) = k := by
  unfold unI
  rw [List.map_map]
  exact List.map_id' k
section
variable {X : Cx}
/-- sorted(d), d a dict whose keys are rows -/
def rSortD : List V → Hp → VK → Prop := fun vs H Q => ∃ (d : Addr) (M : List (List Int × V)) (n : Nat), vs = [V.ref d] ∧ H d = some (.dT (dI M)) ∧ 1 ≤ n ∧ (∀ p ∈ M, p.1.length = n) ∧
  ∀ (L' : List (Addr × List Int)) (p : Addr), L'.length = M.length → Asc (L'.map (·.2)) → (∀ k, k ∈ L'.map (·.2) ↔ k ∈ M.map (·.1)) → (∀ q ∈ L', H q.1 = some (.tup (q.2.map V.int))) → H p = none → Q (.ref p) (upd H p (.lst (L'.map fun q => V.ref q.1)))
theorem cr_sortD (hc : X.calm = true) : CallR X (.builtin "sorted") rSortD := by
  intro pins s σ H vs us Q I r h
  obtain ⟨d, M, n, rfl, hd, hn1, hlen, q⟩ := h
  rw [Vals.ref1 r]
  obtain ⟨z, notS, ks, pr, o, es, ep, ho, hx, hdt, he, nd⟩ := (show ObjOk X.prog X.w H s.heap d (.dT (dI M)) from I.hok d _ hd)
  have l1 : es.size = ks.length := size_of_entries he
  have l2 : (dI M).length = ks.length := Paired.length pr
  rw [List.length_map] at z l2
  refine Calls.call_function_entry kind_sorted plain_sorted entry_sorted (args_sorted1 _) ?_
  unfold Builtin.«sorted»
  refine wpAny_bind (m := checkCount "sorted" 1 1 _) (wpAny_pure (wpAny_bind (PySem.W.kdu_collect (kdl_raw notS hx hdt) (I.ok.hd hc) ho (by omega) fun h1 tk acc kp it => ?_)))
  -- the keys, in turn
  have items : acc.toList = ks.map fun x => Value.ref x.2.1 := by
    have hl : acc.toList.length = ks.length := by rw [Array.length_toList, it.1]; exact l1
    refine List.ext_getElem? fun j => ?_
    rw [List.getElem?_map]
    by_cases hj : j < ks.length
    · have hj' : j < acc.toList.length := by omega
      rw [List.getElem?_eq_getElem hj', List.getElem?_eq_getElem hj]
      obtain ⟨en, hen, hv⟩ := it.2 j acc.toList[j] (by rw [← Array.getElem?_toList]; exact List.getElem?_eq_getElem hj')
      have qe := entry_at he j
      rw [hen, List.getElem?_eq_getElem hj] at qe
      have e2 : en = entryOfKey (tupleKind (mixKind X.prog X.w)) ks[j] := Option.some.inj qe
      rw [hv, e2]
      rfl
    · rw [List.getElem?_eq_none (by omega), List.getElem?_eq_none (by omega)]
      rfl
  have keyOf : ∀ x ∈ ks, ∃ p ∈ M, x.1 = kI p.1 ∧ H x.2.1 = some (.tup (p.1.map V.int)) := by
    intro x hx
    obtain ⟨j, hj⟩ := List.mem_iff_getElem?.mp hx
    obtain ⟨y, hy, f⟩ := DX.pget pr hj
    obtain ⟨p, hp, rfl⟩ := List.mem_map.mp (List.mem_of_getElem? hy)
    exact ⟨p, hp, f.1.symm, by rw [← kI_V]; exact f.2.1⟩
  have onto : ∀ p ∈ M, ∃ x ∈ ks, x.1 = kI p.1 := by
    intro p hp
    have hp' : (kI p.1, p.2) ∈ dI M := List.mem_map.mpr ⟨p, hp, rfl⟩
    obtain ⟨j, hj⟩ := List.mem_iff_getElem?.mp hp'
    obtain ⟨y, hy, f⟩ := LiI.paired_get pr hj
    exact ⟨y, List.mem_of_getElem? hy, f.1.symm⟩
  obtain ⟨L, eL⟩ : ∃ L, L = ks.map fun x => (x.2.1, unI x.1) := ⟨_, rfl⟩
  have inL : ∀ q ∈ L, H q.1 = some (.tup (q.2.map V.int)) ∧ q.2.length = n ∧ ∃ p ∈ M, q.2 = p.1 := by
    intro q hq
    rw [eL] at hq
    obtain ⟨x, hx, rfl⟩ := List.mem_map.mp hq
    obtain ⟨p, hp, e, ht⟩ := keyOf x hx
    have e2 : unI x.1 = p.1 := by rw [e, unI_kI]
    exact ⟨by show H x.2.1 = some (.tup ((unI x.1).map V.int)); rw [e2]; exact ht, by show (unI x.1).length = n; rw [e2]; exact hlen p hp, p, hp, e2⟩
  have ndL : (L.map (·.2)).Nodup := by
    rw [eL, List.map_map]
    have e : ((fun q : Addr × List Int => q.2) ∘ fun x : List Key × Addr × Value => (x.2.1, unI x.1)) = unI ∘ fun x : List Key × Addr × Value => x.1 := rfl
    rw [e, ← List.map_map]
    refine List.pairwise_map.mpr (List.Pairwise.imp_of_mem (fun {a b} ha hb ne e => ne ?_) nd)
    obtain ⟨x, hx, rfl⟩ := List.mem_map.mp ha
    obtain ⟨y, hy, rfl⟩ := List.mem_map.mp hb
    obtain ⟨p, _, e1, _⟩ := keyOf x hx
    obtain ⟨p', _, e2, _⟩ := keyOf y hy
    rw [e1, e2] at e ⊢
    rw [unI_kI, unI_kI] at e
    rw [e]
  have accL : acc.toList = L.map fun q => Value.ref q.1 := by rw [items, eL, List.map_map]; rfl
  have isT : ∀ q ∈ L, IsT X.prog X.w h1 q.2 q.1 := fun q hq => isT_keep (I.isT (tupQ (inL q hq).1)) kp
  have rows : Rows h1 n (intsAt h1) acc.toList := refs_rows (P := X.prog) (w := X.w) (L := L) (fun q hq => ⟨isT q hq, (inL q hq).2.1⟩) fun v hv => by
    rw [accL] at hv
    obtain ⟨q, hq, e⟩ := List.mem_map.mp hv
    exact ⟨q, hq, e.symm⟩
  have lL : L.length = M.length := by rw [eL, List.length_map, l2]
  have lacc : acc.toList.length = M.length := by rw [accL, List.length_map, lL]
  refine sort_end (s := { s with heap := h1, toks := tk }) (by rw [lacc]; exact z) hn1 rows fun h2 p out c q1 q2 k2 hp hcell => ?_
  rw [accL] at q1
  obtain ⟨L', e', pm⟩ := perm_back (L := L) (fun a ha b hb e => by
    injection e with e
    have h3 := isT a ha
    rw [e] at h3
    exact Prod.ext e (h3.inj (isT b hb))) q1
  have keys : out.map (intsAt h1) = L'.map (·.2) := by
    rw [e', List.map_map]
    exact List.map_congr_left fun q hq => (tupInts (isT q (pm.mem_iff.mp hq))).ints
  rw [keys] at q2
  have I1 : L2.Inv X pins σ H { s with heap := h1, toks := tk } := I.kept (t' := tk) kp
  have free : H p = none := I1.hok.fresh hp
  refine ⟨.ref p, _, I1.laid (t' := tk) (o := .lst (L'.map fun q => V.ref q.1)) k2 hp ⟨?_, out, c, by rw [e']; exact vals_of_refs L', hcell⟩, rfl, q L' p (by rw [pm.length_eq, lL]) (asc_of q2 ((pm.map (·.2)).nodup_iff.mpr ndL)) (fun k => ?_) (fun a ha => (inL a (pm.mem_iff.mp ha)).1) free⟩
  · rw [List.length_map, pm.length_eq, lL]
    exact z
  · rw [(pm.map (·.2)).mem_iff]
    constructor
    · intro hk
      obtain ⟨a, ha, rfl⟩ := List.mem_map.mp hk
      obtain ⟨b, hb, e⟩ := (inL a ha).2.2
      exact List.mem_map.mpr ⟨b, hb, e.symm⟩
    · intro hk
      obtain ⟨b, hb, rfl⟩ := List.mem_map.mp hk
      obtain ⟨x, hx, e⟩ := onto b hb
      rw [eL]
      exact List.mem_map.mpr ⟨(x.2.1, unI x.1), List.mem_map.mpr ⟨x, hx, rfl⟩, by show unI x.1 = b.1; rw [e, unI_kI]⟩
end
end TT

set_option Elab.async false
set_option linter.all false
set_option maxRecDepth 100000
set_option maxHeartbeats 8000000
/-! dicts with tuples as keys: a comprehension, pop -/
namespace TT
open PySem PySem.Spec PyProof.Rows L2 RT
section
variable {X : Cx} {pins : List (Addr × Obj)} {σ : L2.St} {H : Hp} {s : Shared}
/-- what a comprehension does with a key tuple and its value -/
theorem d_storeT {E : Value → Shared → Prop} {D b : Addr} {kvs : List (List Key × V)} {k : List Key} {v : V} {r : Value} {Q : Unit → Shared → Prop} (hu : X.A.units + 1 < cLine) (I : L2.Inv X pins σ H s) (hD : H D = some (.dT kvs)) (hb : H b = some (.tup (k.map kV)))
    (few : kvs.length < sizeLine) (rv : RelV v r) (h : ∀ s', L2.Inv X pins σ (upd H D (.dT (putK kvs k v))) s' → Q () s') : wpAny (model X.prog X.w) X.A (dictSet D (.ref b) r) Q E s := by
  obtain ⟨z, hd, xs, rel, dd⟩ := dt_of I.hok hD
  have hz : xs.length ≤ sizeLine := by rw [← Paired.length rel]; exact z
  have hl : (putK kvs k v).length ≤ sizeLine := by have := length_putK kvs k v; omega
  refine wpAny_dictSet_heap (hsz := hz) (show X.A.units < cLine from Nat.lt_of_succ_lt hu) (key_of I.hok hb) dd fun h' dd' only => h _ ?_
  obtain ⟨q, es, ep, hq, h2, h3, h4, _, h5⟩ := dd'
  refine d_write I (by rw [hD]; exact True.intro) only ⟨q, hq⟩ ⟨hl, hd, _, (rel.put k hb rv).keeps fun c ys ec => ?_, q, es, ep, hq, h2, h3, h4, h5⟩
  rw [upd_ne (ne_of ec hD (fun z => nomatch z))]
  exact ec
end
section
variable {X : Cx}
/-- {k: v for target in iter if ..}, the keys tuples: D the new dict -/
def tDcT (wi : TI) (g : TG) (tt : TT) (tk tv : TE) (vs : List Nat) : TE := fun σ H Q => wi σ H fun J H1 => ∀ D, H1 D = none → ∃ W : Nat → Nat → Hp → Prop, (∃ m, W 0 m (upd H1 D (.dT []))) ∧ ∀ i m H, W i m H →
  (J.stop i H ∧ Q (.ref D) H) ∨ (J.go i H ∧ ∃ Nx : Hp → Prop, (∀ H', Nx H' → ∃ m', m' < m ∧ W (i + 1) m' H') ∧ ∀ x H', J.yld i H x H' → g x (wipe σ vs) H' fun σ2 H2 => wipe σ2 vs = wipe σ vs ∧ tt σ2 H2 fun b H3 =>
    if b = true then tk σ2 H3 fun y H4 => tv σ2 H4 fun z H5 => ∃ kvs k c, y = .ref c ∧ H5 c = some (.tup (k.map kV)) ∧ H5 D = some (.dT kvs) ∧ kvs.length < sizeLine ∧ Nx (upd H5 D (.dT (putK kvs k z))) else Nx H3)
/-- as a value -/
theorem pe_dcT {kx vx tg iter : Expr} {ifs : List Expr} {scope : Scope} {own : List (Str × Nat)} {pos : Pos} {wi : TI} {g : TG} {tt : TT} {tk tv : TE} (hc : X.calm = true) (hu : X.A.units + 1 < cLine) (hN : X.N.Nodup) (hi : PI X tg iter wi) (ok : BlkOk X.N X.env.scope scope own)
    (hg : ∀ (s : Shared) (H : Hp) (C : Addr) (cl : List (Str × Addr)) (fp : List Addr), PG (X.blk s H scope (compEnvC scope cl C X.env) fp) tg g) (ht : ∀ (s : Shared) (H : Hp) (C : Addr) (cl : List (Str × Addr)) (fp : List Addr), PTs (X.blk s H scope (compEnvC scope cl C X.env) fp) ifs tt)
    (hk : ∀ (s : Shared) (H : Hp) (C : Addr) (cl : List (Str × Addr)) (fp : List Addr), PE (X.blk s H scope (compEnvC scope cl C X.env) fp) kx tk)
    (hv : ∀ (s : Shared) (H : Hp) (C : Addr) (cl : List (Str × Addr)) (fp : List Addr), PE (X.blk s H scope (compEnvC scope cl C X.env) fp) vx tv) (hs : ∀ x, foldedSetIterable iter X.env x = pure x := by intro _; rfl) :
    PE X (.DictComp kx vx [⟨tg, iter, ifs, 0⟩] scope pos) (tDcT wi g tt tk tv (own.map (·.2))) := by
  refine ⟨fun pins s σ H Q I h => ?_⟩
  rw [arm_eval_DictComp]
  have open1 : ∀ y ∈ scope.names, y.2 = .free → ∃ c, X.env.cells.lookup y.1 = some c := fun y hy e => (ok.free y hy e).elim (fun k => I.ok.has _ (.inl k)) fun k => I.ok.has _ (.inr k)
  refine wpAny_comprehension_free (use := none) rfl hs (closure_ok open1) ok.kind (fun y hy e => by rw [ok.uniq y hy, e]) (thn (hi.run pins s σ H _ I h) fun xv s1 hx => thn hx fun itv s2 h2 => ?_)
  obtain ⟨it, fp, tn, J, H2, rfl, I2, T, st2, f2, q⟩ := h2
  refine wpAny_newObj_type (newEnv_comp ?_)
  obtain ⟨D, hD⟩ : ∃ D, s2.heap.objs.size = D := ⟨_, rfl⟩
  rw [hD]
  obtain ⟨W, ⟨m0, w0⟩, turn⟩ := q D (I2.hok.fresh (Nat.le_of_eq hD))
  -- the new dict
  obtain ⟨s3, hs3⟩ : ∃ s3 : Shared, ({ s2 with heap := s2.heap.push { cls := .type "dict", data := .dict #[] } } : Shared) = s3 := ⟨_, rfl⟩
  have h3 : s3.heap = s2.heap.push { cls := .type "dict", data := .dict #[] } := by rw [← hs3]
  have I3 : L2.Inv X pins σ (upd H2 D (.dT [])) s3 := by
    rw [← hs3]
    exact I2.laid (t' := s2.toks) (fun b o e => Heap.get?_push_of_some _ e) (Nat.le_of_eq hD) (by rw [← hD]; exact dt_empty s2.heap I2.big)
  have below : ∀ b ∈ fp, b < s2.heap.objs.size := fun b hb => let ⟨o, e, _⟩ := T.obj _ _ st2 b hb; Heap.lt_size e
  have f3 : ∀ b ∈ fp, FpOk X pins (upd H2 D (.dT [])) b ∧ b < s3.heap.objs.size := fun b hb => by
    have lt := below b hb
    refine ⟨⟨?_, (f2 b hb).2⟩, by rw [h3, Heap.size_push]; exact Nat.lt_succ_of_lt lt⟩
    rw [upd_ne (by rw [← hD]; exact Nat.ne_of_lt lt)]
    exact (f2 b hb).1
  have st3 : tn 0 s3.heap := T.keep _ _ _ st2 fun b _ o e => by rw [h3]; exact Heap.get?_push_of_some _ e
  have I4 := block_start I3 ok hN f3
  have pg := hg s3 (upd H2 D (.dT [])) s3.heap.objs.size (cellsFrom (s3.heap.objs.size + 1) scope.names (cloFrom X.env.cells scope.names [])) fp
  have pt := ht s3 (upd H2 D (.dT [])) s3.heap.objs.size (cellsFrom (s3.heap.objs.size + 1) scope.names (cloFrom X.env.cells scope.names [])) fp
  have pk := hk s3 (upd H2 D (.dT [])) s3.heap.objs.size (cellsFrom (s3.heap.objs.size + 1) scope.names (cloFrom X.env.cells scope.names [])) fp
  have pv' := hv s3 (upd H2 D (.dT [])) s3.heap.objs.size (cellsFrom (s3.heap.objs.size + 1) scope.names (cloFrom X.env.cells scope.names [])) fp
  have off : ∀ b ∈ fp, (upd H2 D (.dT [])) b = none := fun b hb => (f3 b hb).1.1
  rw [hs3]
  show codeAny _ _ (.compStart (.DictComp kx vx [⟨tg, iter, ifs, 0⟩] scope pos) 0 (.ref it) (.ref D) (compEnvC scope (cellsFrom (s3.heap.objs.size + 1) scope.names (cloFrom X.env.cells scope.names [])) s3.heap.objs.size X.env)) (compPost (model X.prog X.w) X.A X.xe none (EP X pins σ Q) (.ref D) s3.heap.objs.size) { s3 with heap := pushCells (s3.heap.push { cls := .type "dict", data := .dict #[] }) scope.names }
  obtain ⟨ce, hce⟩ : ∃ ce, compEnvC scope (cellsFrom (s3.heap.objs.size + 1) scope.names (cloFrom X.env.cells scope.names [])) s3.heap.objs.size X.env = ce := ⟨_, rfl⟩
  rw [hce] at I4 pg pt pk pv' ⊢
  have cL : ce.locals = s3.heap.objs.size := by rw [← hce]; rfl
  obtain ⟨H3, hH3⟩ : ∃ H3, upd H2 D (.dT []) = H3 := ⟨_, rfl⟩
  rw [hH3] at I3 I4 pg pt pk pv' w0 off f3
  obtain ⟨s4, hs4⟩ : ∃ s4 : Shared, ({ s3 with heap := pushCells (s3.heap.push { cls := .type "dict", data := .dict #[] }) scope.names } : Shared) = s4 := ⟨_, rfl⟩
  rw [hs4] at I4 ⊢
  have st4 : tn 0 s4.heap := T.keep _ _ _ st3 fun b _ o e => by rw [← hs4]; exact pushCells_keeps _ _ _ _ (Heap.get?_push_of_some _ e)
  have rest : ∀ {σ' : L2.St} {H' : Hp} {s' : Shared}, L2.Inv (X.blk s3 H3 scope ce fp) [] σ' H' s' → (∀ b ∈ fp, H' b = none) → ∀ b ∈ fp, FpOk (X.blk s3 H3 scope ce fp) [] H' b := fun {σ' H' s'} I' hn b hb =>
    ⟨hn b hb, (I'.ok.exf b hb).1, I'.ok.exfs b hb, .inl hb, fun x c e => (I'.ok.exf b hb).2 x c e, fun p hp => absurd (show p ∈ ([] : List (Addr × Obj)) ++ [] from hp) (by simp)⟩
  have loop : codeAny (model X.prog X.w) X.A (.compLoop (.DictComp kx vx [⟨tg, iter, ifs, 0⟩] scope pos) 0 (.ref it) (.ref D) ce) (compPost (model X.prog X.w) X.A X.xe none (EP X pins σ Q) (.ref D) s3.heap.objs.size) s4 := by
    refine compLoop_anyD (fun n s' => ∃ i H', L2.Inv (X.blk s3 H3 scope ce fp) [] (wipe σ (own.map (·.2))) H' s' ∧ tn i s'.heap ∧ (∀ b ∈ fp, H' b = none) ∧ W i n H') ?_ m0 ⟨0, H3, I4, st4, off, w0⟩
    rintro n s5 ⟨i, H5, I5, st5, n5, w5⟩
    rcases turn i n H5 w5 with ⟨stop, qq⟩ | ⟨go, Nx, hNx, step⟩
    · refine thnF (T.done (X.blk s3 H3 scope ce fp) rfl rfl rfl hc i [] s5 _ H5 (fun _ _ => False) I5 (rest I5 n5) st5 stop) fun r s6 ⟨hr, I6⟩ => ?_
      subst hr
      have I7 : L2.Inv X pins σ H5 s6 := I3.call' (ch := fp) I6.os I6.base I6.hok I6.bare fun b hb => ⟨(f3 b hb).1.2.2.2.1, (f3 b hb).1.2.1, (f3 b hb).1.2.2.2.2.1, (f3 b hb).1.2.2.2.2.2⟩
      have nC : H5 s3.heap.objs.size = none := by
        have z : H5 ce.locals = none := I6.free
        rwa [cL] at z
      obtain ⟨m, hn, _⟩ := I6.loc
      have hn' : s6.heap.Ns ce.locals m := hn
      rw [cL] at hn'
      obtain ⟨f0, f1, f2', f3', f4, f5⟩ := I3.fpOk (Nat.le_refl _) nC
      refine ⟨m, hn', fun h'' sb => ?_⟩
      exact ⟨.ref D, H5, I7.turned (t' := s6.toks) (fun b o hb e => (sb.2 b hb).trans e) f0 f1 f3' f4 f5, rfl, qq⟩
    · refine thnF (T.item (X.blk s3 H3 scope ce fp) rfl rfl rfl hc i [] s5 _ H5 (fun _ _ => False) I5 (rest I5 n5) st5 go) fun r s6 ⟨u, hr, h6⟩ => ?_
      subst hr
      refine thnF h6 fun _ s7 ⟨x, H7, I7, r7, y7, st7, n7⟩ => ?_
      refine thnF (pg.run _ s7 _ H7 x u _ (I7.pinned (rest I7 n7) (T.obj _ _ st7)) r7 (step x H7 y7)) fun _ s8 ⟨σ8, H8, I8, hw8, q8⟩ => ?_
      refine thnF (pt.run _ s8 σ8 H8 _ I8 q8) fun b s9 ⟨H9, I9, q9⟩ => ?_
      have fin : ∀ {s' : Shared} {H' : Hp}, L2.Inv (X.blk s3 H3 scope ce fp) ([] ++ pinsAt fp s7.heap) σ8 H' s' → Nx H' → ∃ m, m < n ∧ ∃ i H', L2.Inv (X.blk s3 H3 scope ce fp) [] (wipe σ (own.map (·.2))) H' s' ∧ tn i s'.heap ∧ (∀ b ∈ fp, H' b = none) ∧ W i m H' := fun {s' H'} I' nx => by
        obtain ⟨m', hm, w'⟩ := hNx H' nx
        have held : ∀ b ∈ fp, ∀ o, s7.heap.get? b = some o → s'.heap.get? b = some o ∧ H' b = none := fun b hb o e =>
          let z := I'.pin (b, o) (List.mem_append_right _ (List.mem_append_right _ (mem_pinsAt hb e)))
          ⟨z.1, z.2.1⟩
        refine ⟨m', hm, i + 1, H', (I'.unpinned (pins := [])).weak (by rw [← hw8, wipe_length]) (fun j v e => (wipe_some (by rw [← hw8] at e; exact e)).1), T.keep _ _ _ st7 fun b hb o e => (held b hb o e).1, fun b hb => ?_, w'⟩
        obtain ⟨o, e, _⟩ := T.obj _ _ st7 b hb
        exact (held b hb o e).2
      cases b with
      | false =>
        simp only [Bool.false_eq_true, if_false] at q9 ⊢
        exact fin I9 q9
      | true =>
        simp only [if_true] at q9 ⊢
        refine thnF (pk.run _ s9 σ8 H9 _ I9 q9) fun z s10 ⟨yk, H10, I10, r10, q10⟩ => ?_
        refine thnF (pv'.run _ s10 σ8 H10 _ I10 q10) fun z2 s11 ⟨yv, H11, I11, r11, kvs, k, c, ek, hb11, hD11, hz11, nx⟩ => ?_
        subst ek
        obtain rfl : z = Value.ref c := r10
        exact d_storeT (X := X.blk s3 H3 scope ce fp) hu I11 hD11 hb11 hz11 r11 fun s12 I12 => fin I12 nx
  exact codeAny_compStart_dict loop (T.self X.A 0 _ _ _ st4 loop)
end
end TT

set_option Elab.async false
set_option linter.all false
set_option maxRecDepth 100000
set_option maxHeartbeats 8000000
/-! d.pop(k), k a tuple that is there -/
namespace TT
open PySem PySem.Spec PyProof.Rows L2 RT
section
variable {prog : Program} {w : World} {K : Type} [DecidableEq K] {knd : HeapKind prog w K}
theorem meets_pop1 {d b : Addr} {k : K} :
    MeetsIn prog w (Builtin.«dict.pop» ⟨[.ref d, .ref b], []⟩) (fun A R s => ∃ xs p, knd.room A.in1 ∧ knd.is s.heap k b ∧ s.heap.DictOfH knd d xs ∧ xs.length ≤ sizeLine ∧ atKey xs k = some p ∧
      ∀ h' tk, h'.DictOfH knd d (DT.dropH xs k) → Heap.SameBut d s.heap h' → R (.ok (.ret p.2)) { s with heap := h', toks := tk }) :=
  .of_wp fun A R s ⟨xs, p, room, key, dd, few, there, q⟩ => by
    obtain ⟨o, es, ep, ho, hc, hdat, he, _, _⟩ := id dd
    have size : es.size = xs.length := size_of_entries he
    have plain : (keyPart (Value.ref b)).isSome = false := rfl
    unfold Builtin.«dict.pop» Builtin.Dict.keyAndDefault
    refine wpAny_bind (wpAny_bind (wpAny_notOrdered_dict dd.typeIs ?_))
    show wpAny _ _ (pure (d, Value.ref b, none)) _ _ s
    refine wpAny_pure ?_
    simp only [plain, Bool.false_eq_true, if_false]
    refine wpAny_bind (wpAny_dictEntries ho hdat (wpAny_bind (wpAny_pure ?_)))
    have some1 : es.isEmpty = false := by
      cases c : es.isEmpty with
      | false => rfl
      | true =>
        have e0 : es.size = 0 := by simpa using c
        have : xs = [] := List.length_eq_zero_iff.mp (by omega)
        rw [this] at there
        cases there
    rw [some1]
    simp only [Bool.false_eq_true, if_false]
    refine wpAny_bind (DT.takeH room key dd few (fun no => by rw [no] at there; cases there) fun p' e hp hev h' dd' only => ?_)
    rw [there] at hp
    cases hp
    simp only [Option.isNone_some, Bool.false_eq_true, if_false]
    exact wpAny_bind (wpAny_letGo (wpAny_pure ⟨e.val, rfl, by rw [hev]; exact q h' _ dd' only⟩))
end
section
variable {X : Cx}
def rPop1 : V → List V → Hp → VK → Prop := fun x xs H Q => ∃ (a : Addr) (kvs : List (List Key × V)) (k : List Key) (b : Addr) (v : V), x = .ref a ∧ xs = [.ref b] ∧ H a = some (.dT kvs) ∧ H b = some (.tup (k.map kV)) ∧ valV kvs k = some v ∧ Q v (upd H a (.dT (dropK kvs k)))
theorem mt_pop1 (hu : X.A.units + 1 < cLine) : MtR X "dict.pop" rPop1 := by
  intro pins s σ H x xs v us Q I rx rxs h
  obtain ⟨a, kvs, k, b, v0, rfl, rfl, ha, hb, ev, q⟩ := h
  cases rx
  obtain ⟨u1, rfl, r1⟩ := vals1 rxs
  cases r1
  obtain ⟨z, hd, xs', rel, dd⟩ := dt_of I.hok ha
  have hz : xs'.length ≤ sizeLine := by rw [← Paired.length rel]; exact z
  obtain ⟨p, hp, rp⟩ : ∃ p, atKey xs' k = some p ∧ RelV v0 p.2 := by
    have r := rel.val k
    rw [ev] at r
    cases c : atKey xs' k with
    | none =>
      rw [c] at r
      exact (show False from r).elim
    | some p =>
      rw [c] at r
      exact ⟨p, rfl, r⟩
  refine call_meetsIn PySem.F.slot_dict_pop dd.typeIs PySem.F.entry_dict_pop (PySem.F.args_dict_pop_2 _ _) (meets_pop1 (knd := tupleKind (mixKind X.prog X.w)) (k := k))
    ⟨xs', p, tupleKind_room_in1 hu, key_of I.hok hb, dd, hz, hp, fun h' tk dd' only => ?_⟩
  obtain ⟨o, es, ep, hq, h2, h3, h4, _, h5⟩ := dd'
  have I2 : L2.Inv X pins σ (upd H a (.dT (dropK kvs k))) { s with heap := h', toks := tk } :=
    d_write I (by rw [ha]; exact True.intro) only ⟨o, hq⟩ ⟨Nat.le_trans (dropK_le kvs k) z, hd, _, (DX.KT_drop k rel).keeps (fun c ys ec => (by rw [upd_ne (ne_of ec ha (fun z => nomatch z))]; exact ec)), o, es, ep, hq, h2, h3, h4, h5⟩
  exact ⟨v0, _, I2, rp, q⟩
end
end TT

set_option Elab.async false
set_option linter.all false
set_option maxRecDepth 100000
set_option maxHeartbeats 4000000
/-! mathematics of pictures as rows: ends, degrees, tallies -/
namespace PC
open PySem PySem.Spec PyProof.Rows L2 TT
section
variable {M : List (List Int × V)}
theorem val_dI (k : List Int) : ∀ M : List (List Int × V), valV (dI M) (kI k) = valV M k
  | [] => rfl
  | p :: M => by
    show valV ((kI p.1, p.2) :: dI M) (kI k) = valV (p :: M) k
    by_cases e : p.1 = k
    · rw [valV_pos (p := (kI p.1, p.2)) (by rw [e]), valV_pos e]
    · rw [valV_neg (p := (kI p.1, p.2)) (fun z => e (kI_inj z)), valV_neg e]
      exact val_dI k M
theorem any_dI (k : List Int) : ∀ M : List (List Int × V), ((dI M).any fun kv => decide (kv.1 = kI k)) = M.any fun kv => decide (kv.1 = k) := fun M => by
  rw [valV_any, valV_any, val_dI]
theorem put_dI (M : List (List Int × V)) (k : List Int) (v : V) : putK (dI M) (kI k) v = dI (putK M k v) := by
  unfold putK
  rw [any_dI]
  split
  · unfold dI
    rw [List.map_map, List.map_map]
    refine List.map_congr_left fun p _ => ?_
    show (if kI p.1 = kI k then (kI p.1, v) else (kI p.1, p.2)) = (kI (if p.1 = k then (p.1, v) else p).1, (if p.1 = k then (p.1, v) else p).2)
    by_cases e : p.1 = k
    · rw [if_pos (by rw [e]), if_pos e]
    · rw [if_neg (fun z => e (kI_inj z)), if_neg e]
  · unfold dI
    rw [List.map_append]
    rfl
theorem drop_dI (M : List (List Int × V)) (k : List Int) : dropK (dI M) (kI k) = dI (dropK M k) := by
  unfold dropK
  rw [List.filter_map]
  congr 1
  refine List.filter_congr fun p _ => ?_
  show decide (kI p.1 ≠ kI k) = decide (p.1 ≠ k)
  by_cases e : p.1 = k
  · rw [e]
    simp
  · rw [decide_eq_true (show p.1 ≠ k from e), decide_eq_true (show kI p.1 ≠ kI k from fun z => e (kI_inj z))]
theorem val_drop (k j : List Int) : ∀ M : List (List Int × V), valV (dropK M k) j = if j = k then none else valV M j
  | [] => by split <;> rfl
  | p :: M => by
    by_cases e : p.1 = k
    · rw [dropK_pos e, val_drop k j M]
      by_cases z : j = k
      · rw [if_pos z, if_pos z]
      · rw [if_neg z, if_neg z, valV_neg (fun y => z (y.symm.trans e))]
    · rw [dropK_neg e]
      by_cases y : p.1 = j
      · rw [valV_pos y, valV_pos y, if_neg (fun z => e (y.trans z))]
      · rw [valV_neg y, valV_neg y]
        exact val_drop k j M
end
/-! ### tallies -/
/-- how often each row stands in a list, as a dict tells it -/
def Tally (M : List (List Int × V)) (vs : List (List Int)) : Prop := ∀ k, valV M k = if vs.count k = 0 then none else some (.int (vs.count k))
theorem tally_nil : Tally [] [] := fun k => rfl
theorem tally_next {M : List (List Int × V)} {vs : List (List Int)} {k : List Int} (h : Tally M vs) : Tally (putK M k (.int (vs.count k + 1 : Int))) (vs ++ [k]) := fun j => by
  rw [valV_put, List.count_append]
  by_cases e : j = k
  · rw [if_pos e, e, List.count_singleton_self, if_neg (by omega)]
    rfl
  · rw [if_neg e, h j]
    have : [k].count j = 0 := List.count_eq_zero.mpr (by rw [List.mem_singleton]; exact e)
    rw [this, Nat.add_zero]
theorem tally_get {M : List (List Int × V)} {vs : List (List Int)} {k : List Int} (h : Tally M vs) : (valV M k).getD (.int 0) = .int (vs.count k) := by
  rw [h k]
  by_cases c : vs.count k = 0
  · rw [if_pos c, c]
    rfl
  · rw [if_neg c]
    rfl
/-! ### keys -/
theorem keys_put (M : List (List Int × V)) (k : List Int) (v : V) (n : Nat) (h : ∀ p ∈ M, p.1.length = n) (hk : k.length = n) : ∀ p ∈ putK M k v, p.1.length = n := by
  intro p hp
  unfold putK at hp
  split at hp
  · obtain ⟨q, hq, rfl⟩ := List.mem_map.mp hp
    by_cases e : q.1 = k
    · rw [if_pos e]
      exact h q hq
    · rw [if_neg e]
      exact h q hq
  · rcases List.mem_append.mp hp with hp | hp
    · exact h p hp
    · rw [List.mem_singleton.mp hp]
      exact hk
theorem mem_keys {M : List (List Int × V)} {k : List Int} : k ∈ M.map (·.1) ↔ (valV M k).isSome = true := by
  rw [← valV_any, List.any_eq_true, List.mem_map]
  constructor
  · rintro ⟨p, hp, rfl⟩
    exact ⟨p, hp, decide_eq_true rfl⟩
  · rintro ⟨p, hp, e⟩
    exact ⟨p, hp, of_decide_eq_true e⟩
/-- keys that stand once -/
def Once (M : List (List Int × V)) : Prop := (M.map (·.1)).Nodup
theorem once_put {M : List (List Int × V)} {k : List Int} {v : V} (h : Once M) : Once (putK M k v) := by
  unfold Once putK
  split
  · rename_i c
    have e : (M.map fun kv => if kv.1 = k then (kv.1, v) else kv).map (·.1) = M.map (·.1) := by
      rw [List.map_map]
      refine List.map_congr_left fun p _ => ?_
      show (if p.1 = k then (p.1, v) else p).1 = p.1
      split <;> rfl
    rw [e]
    exact h
  · rename_i c
    rw [List.map_append]
    refine List.nodup_append.mpr ⟨h, List.pairwise_singleton _ _, fun a ha b hb e => ?_⟩
    have hb' : b = k := List.mem_singleton.mp hb
    rw [e, hb'] at ha
    have z := mem_keys.mp ha
    rw [← valV_any] at z
    exact c z
theorem once_drop {M : List (List Int × V)} {k : List Int} (h : Once M) : Once (dropK M k) := by
  unfold Once dropK
  exact h.sublist ((List.filter_sublist).map _)
theorem once_at {M : List (List Int × V)} (h : Once M) {i : Nat} {p : List Int × V} (e : M[i]? = some p) : valV M p.1 = some p.2 := by
  induction M generalizing i with
  | nil => cases e
  | cons q M ih =>
    have h' := List.nodup_cons.mp h
    cases i with
    | zero => cases e; exact valV_pos rfl
    | succ i =>
      have hp : p ∈ M := List.mem_of_getElem? e
      rw [valV_neg (fun z => h'.1 (List.mem_map.mpr ⟨p, hp, z.symm⟩))]
      exact ih h'.2 e
/-! ### edges, points -/
/-- an edge -/
def EdgeR (e : List Int) : Prop := ∃ x y s : Int, e = [x, y, s] ∧ (s = 0 ∨ s = 1)
theorem EdgeR.len {e : List Int} (h : EdgeR e) : e.length = 3 := by
  obtain ⟨x, y, s, rfl, _⟩ := h
  rfl
def endsR : List Int → List (List Int)
  | [x, y, s] => if s = 0 then [[x, y], [x + 1, y]] else [[x, y], [x, y + 1]]
  | _ => []
/-- the ends of edges, in turn -/
def endsAll (E : List (List Int)) : List (List Int) := E.flatMap endsR
theorem endsR_law {x y s : Int} (h : s = 0 ∨ s = 1) : endsR [x, y, s] = [[x, y], [x + 1 - s, y + s]] := by
  show (if s = 0 then [[x, y], [x + 1, y]] else [[x, y], [x, y + 1]]) = [[x, y], [x + 1 - s, y + s]]
  rcases h with rfl | rfl
  · rw [if_pos rfl, Int.sub_zero, Int.add_zero]
  · rw [if_neg (by decide), Int.add_sub_cancel]
theorem endsAll_len {E : List (List Int)} (h : ∀ e ∈ E, EdgeR e) : (endsAll E).length = 2 * E.length := by
  induction E with
  | nil => rfl
  | cons e E ih =>
    obtain ⟨x, y, s, rfl, hs⟩ := h e (List.mem_cons_self ..)
    unfold endsAll at ih ⊢
    rw [List.flatMap_cons, List.length_append, ih fun e he => h e (List.mem_cons_of_mem _ he), endsR_law hs, List.length_cons]
    show 2 + 2 * E.length = 2 * (E.length + 1)
    omega
theorem endsAll_two {E : List (List Int)} (h : ∀ e ∈ E, EdgeR e) : ∀ p ∈ endsAll E, p.length = 2 := by
  intro p hp
  obtain ⟨e, he, hp⟩ := List.mem_flatMap.mp hp
  obtain ⟨x, y, s, rfl, hs⟩ := h e he
  rw [endsR_law hs] at hp
  simp only [List.mem_cons, List.not_mem_nil, or_false] at hp
  rcases hp with rfl | rfl <;> rfl
theorem endsAll_perm {E F : List (List Int)} (h : E.Perm F) : (endsAll E).Perm (endsAll F) := List.Perm.flatMap_right endsR h
/-- the edges that may end at a point -/
def nearR (x y : Int) : List (List Int) := [[x, y, 0], [x, y, 1], [x - 1, y, 0], [x, y - 1, 1]]
theorem near_nodup (x y : Int) : (nearR x y).Nodup := by
  have iff2 : ∀ c d g e f h : Int, ([c, d, g] : List Int) = [e, f, h] ↔ c = e ∧ d = f ∧ g = h := fun c d g e f h => by simp
  unfold nearR List.Nodup
  simp only [List.pairwise_cons, List.mem_cons, List.not_mem_nil, or_false, Ne]
  refine ⟨fun b hb => ?_, fun b hb => ?_, fun b hb => ?_, fun b hb => hb.elim, List.Pairwise.nil⟩
  · rcases hb with rfl | rfl | rfl <;> rw [iff2] <;> omega
  · rcases hb with rfl | rfl <;> rw [iff2] <;> omega
  · rcases hb with rfl
    rw [iff2]
    omega
theorem count_two {p q r : List Int} (h : p ≠ q) : [p, q].count r = if r = p ∨ r = q then 1 else 0 := by
  rw [List.count_cons, List.count_cons, List.count_nil]
  by_cases c1 : p = r
  · rw [if_neg (by rw [beq_iff_eq]; exact fun z => h (c1.trans z.symm)), if_pos (beq_iff_eq.mpr c1), if_pos (.inl c1.symm)]
  · by_cases c2 : q = r
    · rw [if_pos (beq_iff_eq.mpr c2), if_neg (by rw [beq_iff_eq]; exact c1), if_pos (.inr c2.symm)]
    · rw [if_neg (by rw [beq_iff_eq]; exact c2), if_neg (by rw [beq_iff_eq]; exact c1), if_neg (fun z => z.elim (fun z => c1 z.symm) fun z => c2 z.symm)]
theorem ends_count {e : List Int} (h : EdgeR e) (x y : Int) : (endsR e).count [x, y] = if e ∈ nearR x y then 1 else 0 := by
  obtain ⟨a, b, s, rfl, hs⟩ := h
  have iff1 : ∀ c d e f : Int, ([c, d] : List Int) = [e, f] ↔ c = e ∧ d = f := fun c d e f => by simp
  have iff2 : ∀ c d g e f h : Int, ([c, d, g] : List Int) = [e, f, h] ↔ c = e ∧ d = f ∧ g = h := fun c d g e f h => by simp
  rw [endsR_law hs, count_two (by rw [Ne, iff1]; rcases hs with rfl | rfl <;> omega)]
  have same : ([x, y] = [a, b] ∨ [x, y] = [a + 1 - s, b + s]) ↔ [a, b, s] ∈ nearR x y := by
    unfold nearR
    simp only [List.mem_cons, List.not_mem_nil, or_false]
    rw [iff1, iff1, iff2, iff2, iff2, iff2]
    rcases hs with rfl | rfl <;> constructor <;> intro z <;> omega
  by_cases c : [a, b, s] ∈ nearR x y
  · rw [if_pos c, if_pos (same.2 c)]
  · rw [if_neg c, if_neg (fun z => c (same.1 z))]
/-- the degree of a point, by the edges that may end there -/
theorem degree_near {E : List (List Int)} (hE : ∀ e ∈ E, EdgeR e) (nd : E.Nodup) (x y : Int) : (endsAll E).count [x, y] = ((nearR x y).filter fun e => decide (e ∈ E)).length := by
  have h1 : (endsAll E).count [x, y] = (E.filter fun e => decide (e ∈ nearR x y)).length := by
    induction E with
    | nil => rfl
    | cons e E ih =>
      unfold endsAll at ih ⊢
      rw [List.flatMap_cons, List.count_append, ih (fun e he => hE e (List.mem_cons_of_mem _ he)) (List.nodup_cons.mp nd).2, ends_count (hE e (List.mem_cons_self ..)), List.filter_cons]
      by_cases c : e ∈ nearR x y
      · rw [if_pos c, if_pos (decide_eq_true c), List.length_cons]
        omega
      · rw [if_neg c, if_neg (by rw [decide_eq_true_eq]; exact c)]
        omega
  rw [h1]
  refine List.Perm.length_eq ((List.perm_ext_iff_of_nodup (nd.filter _) ((near_nodup x y).filter _)).mpr fun e => ?_)
  rw [List.mem_filter, List.mem_filter, decide_eq_true_eq, decide_eq_true_eq]
  exact And.comm
end PC

set_option Elab.async false
set_option linter.all false
set_option maxRecDepth 100000
set_option maxHeartbeats 4000000
set_option exponentiation.threshold 600
namespace K29
open PySem PySem.Spec PyProof.Rows L2 RT TT PC
theorem big2 : 2 ≤ sizeLine := by decide
theorem big3 : 3 ≤ sizeLine := by decide
theorem same_new {H : Hp} {p : Addr} {o : HO} (h : H p = none) : Same H (upd H p o) := fun b x e => by
  rw [upd_ne (ne_of_none e h)]
  exact e
theorem tupT {K : PySem.W.Frag} {H : Hp} {a : Addr} {xs : List V} (h : H a = some (.tup xs)) : SqT K H a xs := .inl (.inl h)
theorem lstL {K : PySem.W.Frag} {H : Hp} {a : Addr} {xs : List V} (h : H a = some (.lst xs)) : SqL K H a xs := .inl (.inl h)
theorem Same.sqt {K : PySem.W.Frag} {H H' : Hp} {a : Addr} {xs : List V} (e : Same H H') (h : SqT K H a xs) : SqT K H' a xs := by
  rcases h with (h | ⟨o, h⟩) | h
  · exact .inl (.inl (e _ _ h))
  · exact .inl (.inr ⟨o, e _ _ h⟩)
  · exact .inr h
theorem same_sql {K : PySem.W.Frag} {H H' : Hp} {a : Addr} {xs : List V} (e : Same H H') (h : SqL K H a xs) : SqL K H' a xs := by
  rcases h with (h | ⟨o, h⟩) | h
  · exact .inl (.inl (e _ _ h))
  · exact .inl (.inr ⟨o, e _ _ h⟩)
  · exact .inr h
/-- all but the thing at t is as it was -/
def Keep (t : Addr) (H H' : Hp) : Prop := ∀ b o, b ≠ t → H b = some o → H' b = some o
theorem Keep.refl (t : Addr) (H : Hp) : Keep t H H := fun _ _ _ h => h
theorem Keep.trans {t : Addr} {H H1 H2 : Hp} (a : Keep t H H1) (b : Keep t H1 H2) : Keep t H H2 := fun c o n h => b c o n (a c o n h)
theorem Same.keep {t : Addr} {H H' : Hp} (e : Same H H') : Keep t H H' := fun b o _ h => e b o h
theorem keep_upd {t : Addr} {H : Hp} {o : HO} : Keep t H (upd H t o) := fun b u n h => by
  rw [upd_ne n]
  exact h
section
variable {P : Program} {w : World} {K : PySem.W.Frag} {mg : Str → Option Value} {base : Heap}
theorem kit_ii {K : PySem.W.Frag} : PySem.W.kitOne K (.type "int") (.type "int") = some true := kit_ty (by decide +kernel)
theorem kit_ib {K : PySem.W.Frag} : PySem.W.kitOne K (.type "int") (.type "bool") = some false := kit_ty (by decide +kernel)
theorem kit_tt {K : PySem.W.Frag} : PySem.W.kitOne K (.type "tuple") (.type "tuple") = some true := kit_ty (by decide +kernel)
theorem kit_ll {K : PySem.W.Frag} : PySem.W.kitOne K (.type "list") (.type "list") = some true := kit_ty (by decide +kernel)
theorem ty_list {H : Hp} {a : Addr} {xs : List V} (h : SqL K H a xs) : TyY K H (.ref a) (.type "list") := by
  rcases h with (h | ⟨o, h⟩) | ⟨o, its, n, hk, hc, _⟩
  · exact .base (.base (.lst h))
  · exact .base (.base (.frz h))
  · exact .base (.kList hk hc)
def spIsInt : Sp := fun vs H Q _ => ∃ v : Int, vs = [.int v] ∧ Q (.bl true) H
theorem ok_isint (D : Ds K) (T : Tx K mg) : FnOk P w K mg base CX0 1 (dis_integer.adr K) D.fd_is_integer ["value"] spIsInt := by
  refine D.F_is_integer.ok scis_integer (fun vs H Q E h => ?_) (fun cdv A outer s H vs Q E hr h => ?_)
  · obtain ⟨v, rfl, _⟩ := h
    rfl
  · obtain ⟨v, rfl, q⟩ := h
    refine ⟨_, PSs.nox (pss_one (ps_ret (pe_and (pe_callB call_isiY (by rfl) T.z_isinstance (by decide +kernel) (pa_cons (pv 0) (pa_cons (pe_bltn (v := .ty "int") (by rfl) T.z_int (by decide +kernel) rfl) pa_nil)))
      (pe_one (pe_not (pe_callB call_isiY (by rfl) T.z_isinstance (by decide +kernel) (pa_cons (pv 0) (pa_cons (pe_bltn (v := .ty "bool") (by rfl) T.z_bool (by decide +kernel) rfl) pa_nil)))))))), ?_⟩
    refine ⟨_, rfl, _, .ty "int", _, _, true, rfl, .ty "int", .base (.base (.int v)), kit_ii, true, rfl, iteT ?_⟩
    exact ⟨_, rfl, _, .ty "bool", _, _, false, rfl, .ty "bool", .base (.base (.int v)), kit_ib, false, rfl, q⟩
def spTupOf : Sp := fun vs H Q _ => ∃ (a : Addr) (xs : List V) (n : Int), vs = [.ref a, .int n] ∧ H a = some (.tup xs) ∧ Q (.bl (decide (V.int (xs.length : Int) = V.int n))) H
theorem ok_tupof (D : Ds K) (T : Tx K mg) : FnOk P w K mg base CX0 1 (dis_tuple_of.adr K) D.fd_is_tuple_of ["value", "many"] spTupOf := by
  refine D.F_is_tuple_of.ok scis_tuple_of (fun vs H Q E h => ?_) (fun cdv A outer s H vs Q E hr h => ?_)
  · obtain ⟨a, xs, n, rfl, _⟩ := h
    rfl
  · obtain ⟨a, xs, n, rfl, ea, q⟩ := h
    refine ⟨_, PSs.nox (pss_one (ps_ret (pe_and (pe_callB call_isiY (by rfl) T.z_isinstance (by decide +kernel) (pa_cons (pv 0) (pa_cons (pe_bltn (v := .ty "tuple") (by rfl) T.z_tuple (by decide +kernel) rfl) pa_nil)))
      (pe_one (pe_cmpR op_eq (pe_callB call_len_seq (by rfl) T.z_len PySem.boot_len (pa_cons (pv 0) pa_nil)) (pv 1) (nomark _)))))), ?_⟩
    refine ⟨_, rfl, _, .ty "tuple", _, _, true, rfl, .ty "tuple", .base (.base (.tup ea)), kit_tt, true, rfl, iteT ?_⟩
    exact ⟨_, rfl, a, _, rfl, .inr (tupT ea), _, rfl, rfl, q⟩
def spIsPt : Sp := fun vs H Q _ => ∃ (a : Addr) (x y : Int), vs = [.ref a] ∧ H a = some (.tup [.int x, .int y]) ∧ Q (.bl true) H
theorem ok_ispt (D : Ds K) (T : Tx K mg) : FnOk P w K mg base CX0 2 (dis_point.adr K) D.fd_is_point ["value"] spIsPt := by
  have G1 : FnOk P w K mg base CX0 1 _ _ _ spIsInt := ok_isint D T
  have G2 : FnOk P w K mg base CX0 1 _ _ _ spTupOf := ok_tupof D T
  refine D.F_is_point.ok scis_point (fun vs H Q E h => ?_) (fun cdv A outer s H vs Q E hr h => ?_)
  · obtain ⟨a, x, y, rfl, _⟩ := h
    rfl
  · obtain ⟨a, x, y, rfl, ea, q⟩ := h
    refine ⟨_, PSs.nox (pss_one (ps_ret (pe_and (pe_call G2 hr (by rfl) T.g_is_tuple_of D.F_is_tuple_of.kp (b_is_tuple_of D) .nil pass0 (pa_cons (pv 0) (pa_cons pe_int pa_nil)))
      (pe_and (pe_call G1 hr (by rfl) T.g_is_integer D.F_is_integer.kp (b_is_integer D) .nil pass0 (pa_cons (pe_ix ix_tup (pv 0) pe_int (fun _ _ => rfl)) pa_nil))
      (pe_one (pe_call G1 hr (by rfl) T.g_is_integer D.F_is_integer.kp (b_is_integer D) .nil pass0 (pa_cons (pe_ix ix_tup (pv 0) pe_int (fun _ _ => rfl)) pa_nil))))))), ?_⟩
    refine ⟨_, rfl, a, _, _, rfl, ea, true, by rfl, iteT ?_⟩
    refine ⟨_, rfl, a, _, 0, _, rfl, rfl, tupT ea, atI_nat (j := 0) rfl, x, rfl, true, rfl, iteT ?_⟩
    exact ⟨_, rfl, a, _, 1, _, rfl, rfl, tupT ea, atI_nat (j := 1) rfl, y, rfl, q⟩
def spWithin : Sp := fun vs H Q _ => ∃ v l m : Int, vs = [.int v, .int l, .int m] ∧ Q (.bl (decide (l ≤ v) && decide (v ≤ m))) H
theorem ok_within (D : Ds K) (T : Tx K mg) : FnOk P w K mg base CX0 2 (dis_integer_within.adr K) D.fd_is_integer_within ["value", "least", "most"] spWithin := by
  have G1 : FnOk P w K mg base CX0 1 _ _ _ spIsInt := ok_isint D T
  refine D.F_is_integer_within.ok scis_integer_within (fun vs H Q E h => ?_) (fun cdv A outer s H vs Q E hr h => ?_)
  · obtain ⟨v, l, m, rfl, _⟩ := h
    rfl
  · obtain ⟨v, l, m, rfl, q⟩ := h
    refine ⟨_, PSs.nox (pss_one (ps_ret (pe_and (pe_call G1 hr (by rfl) T.g_is_integer D.F_is_integer.kp (b_is_integer D) .nil pass0 (pa_cons (pv 0) pa_nil))
      (pe_one (pe_chain op_le op_le (pv 1) (pv 0) (pv 2)))))), ?_⟩
    refine ⟨_, rfl, v, rfl, true, rfl, iteT ?_⟩
    refine ⟨_, rfl, _, rfl, l, v, rfl, rfl, _, rfl, ?_⟩
    by_cases h1 : l ≤ v
    · rw [decide_eq_true h1] at q ⊢
      exact iteT ⟨_, rfl, v, m, rfl, rfl, q⟩
    · rw [decide_eq_false h1] at q ⊢
      exact iteF q
/-- a row at an address -/
abbrev Row (H : Hp) (a : Addr) (k : List Int) : Prop := H a = some (.tup (k.map V.int))
def spIsEdge : Sp := fun vs H Q _ => ∃ (a : Addr) (k : List Int), vs = [.ref a] ∧ Row H a k ∧ EdgeR k ∧ ∀ H', Same H H' → Q (.bl true) H'
theorem ok_isedge (D : Ds K) (T : Tx K mg) : FnOk P w K mg base CX0 3 (dis_edge.adr K) D.fd_is_edge ["value"] spIsEdge := by
  have G1 : FnOk P w K mg base CX0 1 _ _ _ spTupOf := ok_tupof D T
  have G2 : FnOk P w K mg base CX0 2 _ _ _ spIsPt := ok_ispt D T
  have G3 : FnOk P w K mg base CX0 2 _ _ _ spWithin := ok_within D T
  refine D.F_is_edge.ok scis_edge (fun vs H Q E h => ?_) (fun cdv A outer s H vs Q E hr h => ?_)
  · obtain ⟨a, k, rfl, _⟩ := h
    rfl
  · obtain ⟨a, k, rfl, ea, ⟨x, y, z, rfl, hz⟩, q⟩ := h
    refine ⟨_, PSs.nox (pss_one (ps_ret (pe_and (pe_call G1 (hr.mono (by decide)) (by rfl) T.g_is_tuple_of D.F_is_tuple_of.kp (b_is_tuple_of D) .nil pass0 (pa_cons (pv 0) (pa_cons pe_int pa_nil)))
      (pe_and (pe_call G2 hr (by rfl) T.g_is_point D.F_is_point.kp (b_is_point D) .nil pass0 (pa_cons (pe_slice sl_tup (pv 0) po_none (po_some pe_int)) pa_nil))
      (pe_one (pe_call G3 hr (by rfl) T.g_is_integer_within D.F_is_integer_within.kp (b_is_integer_within D) .nil pass0 (pa_cons (pe_ix ix_tup (pv 0) pe_int (fun _ _ => rfl)) (pa_cons pe_int (pa_cons pe_int pa_nil))))))))), ?_⟩
    refine ⟨_, rfl, a, _, 3, rfl, ea, true, rfl, iteT ?_⟩
    refine ⟨_, rfl, 2, rfl, a, _, rfl, tupT ea, (by show ¬(0 = 0 ∧ 2 = 3); decide), fun p hp => ?_⟩
    refine ⟨p, x, y, rfl, upd_same, true, rfl, iteT ?_⟩
    have s1 : Same H (upd H p (.tup (cutV ([x, y, z].map V.int) none (some 2)))) := same_new hp
    refine ⟨_, rfl, a, _, 2, _, rfl, rfl, tupT (s1 _ _ ea), atI_nat (j := 2) rfl, z, 0, 1, rfl, ?_⟩
    rw [show (decide ((0 : Int) ≤ z) && decide (z ≤ 1)) = true by rw [decide_eq_true (by omega), decide_eq_true (by omega)]; rfl]
    exact q _ s1
def spCkPt : Sp := fun vs H Q _ => ∃ (a : Addr) (x y : Int), vs = [.ref a] ∧ Row H a [x, y] ∧ Q .non H
theorem ok_ckpt (D : Ds K) (T : Tx K mg) : FnOk P w K mg base CX0 3 (dcheck_point.adr K) D.fd_check_point ["point"] spCkPt := by
  have G2 : FnOk P w K mg base CX0 2 _ _ _ spIsPt := ok_ispt D T
  refine D.F_check_point.ok sccheck_point (fun vs H Q E h => ?_) (fun cdv A outer s H vs Q E hr h => ?_)
  · obtain ⟨a, x, y, rfl, _⟩ := h
    rfl
  · obtain ⟨a, x, y, rfl, ea, q⟩ := h
    refine ⟨_, PSs.nox (pss_one (ps_if (pt_not (pt_val (pe_call G2 hr (by rfl) T.g_is_point D.F_is_point.kp (b_is_point D) .nil pass0 (pa_cons (pv 0) pa_nil)))) (pss_one ps_never) pss_nil)), ?_⟩
    exact ⟨_, rfl, a, x, y, rfl, ea, _, rfl, iteF q⟩
def spEnds : Sp := fun vs H Q _ => ∃ (a : Addr) (k : List Int), vs = [.ref a] ∧ Row H a k ∧ EdgeR k ∧ ∀ H' r p q k1 k2, Same H H' → H' r = some (.tup [.ref p, .ref q]) → endsR k = [k1, k2] → Row H' p k1 → Row H' q k2 → Q (.ref r) H'
theorem ok_ends (D : Ds K) (T : Tx K mg) : FnOk P w K mg base CX0 1 (dends_of_edge.adr K) D.fd_ends_of_edge ["edge"] spEnds := by
  refine D.F_ends_of_edge.ok scends_of_edge (fun vs H Q E h => ?_) (fun cdv A outer s H vs Q E hr h => ?_)
  · obtain ⟨a, k, rfl, _⟩ := h
    rfl
  · obtain ⟨a, k, rfl, ea, ⟨x, y, z, rfl, hz⟩, q⟩ := h
    have nd := scends_of_edge.nd
    refine ⟨_, PSs.nox (pss_cons (ps_asg (pv 0) (pg_tup (by rfl) (pgs_cons (pg_name (i := 1) nd rfl (.inl rfl)) (pgs_cons (pg_name (i := 2) nd rfl (.inl rfl)) (pgs_cons (pg_name (i := 3) nd rfl (.inl rfl)) pgs_nil)))))
      (pss_cons (ps_if (pt_cmpR op_eq (pv 3) pe_int (nomark _)) (pss_one (ps_ret (pe_tup (pa_cons (pe_tup (pa_cons (pv 1) (pa_cons (pv 2) pa_nil))) (pa_cons (pe_tup (pa_cons (pe_op op_add (pv 1) pe_int) (pa_cons (pv 2) pa_nil))) pa_nil))))) pss_nil)
      (pss_one (ps_ret (pe_tup (pa_cons (pe_tup (pa_cons (pv 1) (pa_cons (pv 2) pa_nil))) (pa_cons (pe_tup (pa_cons (pv 1) (pa_cons (pe_op op_add (pv 2) pe_int) pa_nil))) pa_nil))))))), ?_⟩
    refine ⟨_, rfl, a, _, rfl, tupT ea, rfl, _, _, rfl, _, _, rfl, _, _, rfl, rfl, ?_⟩
    refine ⟨_, rfl, rfl, _, rfl, ite2 (fun e => ?_) (fun e => ?_)⟩
    · have ez : z = 0 := by
        have e2 := of_decide_eq_true e
        injection e2 with e3
      subst ez
      refine ⟨_, rfl, _, rfl, big2, fun p hp => ?_⟩
      refine ⟨_, rfl, _, _, rfl, rfl, _, rfl, big2, fun p2 hp2 => ?_⟩
      refine ⟨big2, fun r hr => ?_⟩
      have s1 : Same H (upd H p (.tup [.int x, .int y])) := same_new hp
      have s2 := same_new (o := .tup [.int (x + 1), .int y]) hp2
      have s3 := same_new (o := .tup [.ref p, .ref p2]) hr
      exact q _ r p p2 [x, y] [x + 1, y] (s1.trans (s2.trans s3)) upd_same rfl (s3 _ _ (s2 _ _ upd_same)) (s3 _ _ upd_same)
    · have ez : z = 1 := hz.resolve_left fun z0 => by
        rw [z0] at e
        exact e rfl
      subst ez
      refine ⟨_, rfl, _, rfl, big2, fun p hp => ?_⟩
      refine ⟨_, rfl, _, rfl, _, _, rfl, rfl, big2, fun p2 hp2 => ?_⟩
      refine ⟨big2, fun r hr => ?_⟩
      have s1 : Same H (upd H p (.tup [.int x, .int y])) := same_new hp
      have s2 := same_new (o := .tup [.int x, .int (y + 1)]) hp2
      have s3 := same_new (o := .tup [.ref p, .ref p2]) hr
      exact q _ r p p2 [x, y] [x, y + 1] (s1.trans (s2.trans s3)) upd_same rfl (s3 _ _ (s2 _ _ upd_same)) (s3 _ _ upd_same)
end
end K29

set_option Elab.async false
set_option linter.all false
set_option maxRecDepth 100000
set_option maxHeartbeats 4000000
namespace RT
open PySem PySem.Spec PyProof.Rows L2
theorem pick_gen : ∀ (m : Nat) (ys zs : List V), ys.length ≤ m → (List.range ((ys.length + 1) / 2)).filterMap (fun i => (zs ++ ys)[zs.length + 2 * i]?) = ev ys := by
  intro m
  induction m with
  | zero =>
    intro ys zs h
    have : ys = [] := List.length_eq_zero_iff.mp (by omega)
    subst this
    rfl
  | succ m ih =>
    intro ys zs h
    match ys, h with
    | [], _ => rfl
    | [x], _ =>
      have e1 : ([x].length + 1) / 2 = 1 := by simp
      rw [e1, show List.range 1 = [0] from rfl]
      simp [ev]
    | x :: y :: r, h =>
      have e1 : ((x :: y :: r).length + 1) / 2 = (r.length + 1) / 2 + 1 := by simp only [List.length_cons]; omega
      rw [e1, List.range_succ_eq_map, List.filterMap_cons_some (b := x) (by simp), List.filterMap_map]
      show x :: _ = x :: ev r
      congr 1
      have h2 := ih r (zs ++ [x, y]) (by simp only [List.length_cons] at h; omega)
      rw [← h2]
      congr 1
      funext i
      show (zs ++ x :: y :: r)[zs.length + 2 * (i + 1)]? = ((zs ++ [x, y]) ++ r)[(zs ++ [x, y]).length + 2 * i]?
      rw [List.append_assoc]
      have e2 : (zs ++ [x, y]).length = zs.length + 2 := by simp
      rw [e2, show zs.length + 2 * (i + 1) = zs.length + 2 + 2 * i by omega]
      rfl
/-- xs[1::2] -/
theorem pick_od (xs : List V) : pickV xs (some 1) none (some 2) = ev xs.tail := by
  cases xs with
  | nil => rfl
  | cons x r =>
    have h := pick_gen r.length r [x] (Nat.le_refl _)
    show pickV (x :: r) (some 1) none (some 2) = ev r
    rw [← h]
    unfold pickV
    have eb : sliceBounds (some 1) none (some 2) (x :: r).length = (1, ((x :: r).length : Int), 2) := by
      unfold sliceBounds
      simp
      omega
    rw [eb]
    show (sliceRange 1 ((x :: r).length : Int) 2).filterMap _ = _
    unfold sliceRange
    rw [if_pos (by decide : (2 : Int) > 0)]
    have ec : (if (1 : Int) < ((x :: r).length : Int) then (((x :: r).length : Int) - 1 + 2 - 1) / 2 else 0).toNat = (r.length + 1) / 2 := by
      rw [List.length_cons]
      split <;> omega
    dsimp only
    rw [ec, List.filterMap_map]
    refine congrArg (fun f => List.filterMap f (List.range ((r.length + 1) / 2))) ?_
    funext i
    show (x :: r)[((1 : Int) + 2 * (i : Int)).toNat]? = ([x] ++ r)[[x].length + 2 * i]?
    rw [show ((1 : Int) + 2 * (i : Int)).toNat = 1 + 2 * i by omega]
    rfl
end RT

set_option linter.all false
set_option maxRecDepth 100000
set_option maxHeartbeats 4000000
/-! integers held by intervals; windows -/
namespace SM
open RT
abbrev Iv := Int × Int
/-- how many of lo, lo + 1, .., lo + n - 1 -/
def cnt (f : Int → Bool) (lo : Int) : Nat → Nat
  | 0 => 0
  | n + 1 => cnt f lo n + (if f (lo + n) then 1 else 0)
theorem cnt_add (f : Int → Bool) (lo : Int) (n : Nat) : ∀ m, cnt f lo (n + m) = cnt f lo n + cnt f (lo + n) m
  | 0 => rfl
  | m + 1 => by
    show cnt f lo (n + m) + (if f (lo + ((n + m : Nat) : Int)) = true then 1 else 0) = cnt f lo n + (cnt f (lo + n) m + (if f (lo + (n : Int) + (m : Int)) = true then 1 else 0))
    rw [cnt_add f lo n m, show lo + ((n + m : Nat) : Int) = lo + (n : Int) + (m : Int) by omega]
    omega
theorem cnt_congr {f g : Int → Bool} {lo : Int} : ∀ {n : Nat}, (∀ x, lo ≤ x → x < lo + n → f x = g x) → cnt f lo n = cnt g lo n
  | 0, _ => rfl
  | n + 1, h => by
    show cnt f lo n + _ = cnt g lo n + _
    rw [cnt_congr fun x h1 h2 => h x h1 (by omega), h (lo + n) (by omega) (by omega)]
theorem cnt_all {f : Int → Bool} {lo : Int} : ∀ {n : Nat}, (∀ x, lo ≤ x → x < lo + n → f x = true) → cnt f lo n = n
  | 0, _ => rfl
  | n + 1, h => by
    show cnt f lo n + _ = n + 1
    rw [cnt_all fun x h1 h2 => h x h1 (by omega), h (lo + n) (by omega) (by omega)]
    rfl
theorem cnt_none {f : Int → Bool} {lo : Int} : ∀ {n : Nat}, (∀ x, lo ≤ x → x < lo + n → f x = false) → cnt f lo n = 0
  | 0, _ => rfl
  | n + 1, h => by
    show cnt f lo n + _ = 0
    rw [cnt_none fun x h1 h2 => h x h1 (by omega), h (lo + n) (by omega) (by omega)]
    rfl
theorem cnt_le (f : Int → Bool) (lo : Int) : ∀ n, cnt f lo n ≤ n
  | 0 => Nat.le_refl _
  | n + 1 => by
    have h := cnt_le f lo n
    show cnt f lo n + _ ≤ n + 1
    split <;> omega
theorem cnt_not (f : Int → Bool) (lo : Int) : ∀ n, cnt (fun x => !f x) lo n + cnt f lo n = n
  | 0 => rfl
  | n + 1 => by
    have h := cnt_not f lo n
    show (cnt (fun x => !f x) lo n + (if (!f (lo + n)) = true then 1 else 0)) + (cnt f lo n + (if f (lo + n) = true then 1 else 0)) = n + 1
    cases f (lo + n) <;> simp <;> omega
theorem cnt_xor (f g : Int → Bool) (lo : Int) : ∀ n, (cnt f lo n + cnt g lo n) % 2 = cnt (fun x => xor (f x) (g x)) lo n % 2
  | 0 => rfl
  | n + 1 => by
    have h := cnt_xor f g lo n
    show ((cnt f lo n + (if f (lo + n) = true then 1 else 0)) + (cnt g lo n + (if g (lo + n) = true then 1 else 0))) % 2 = (cnt (fun x => xor (f x) (g x)) lo n + (if xor (f (lo + n)) (g (lo + n)) = true then 1 else 0)) % 2
    cases f (lo + n) <;> cases g (lo + n) <;> simp <;> omega
theorem cnt_shift (f : Int → Bool) (lo d : Int) : ∀ n, cnt f (lo + d) n = cnt (fun x => f (x + d)) lo n
  | 0 => rfl
  | n + 1 => by
    show cnt f (lo + d) n + _ = cnt _ lo n + _
    rw [cnt_shift f lo d n, show lo + d + (n : Int) = lo + n + d by omega]
/-- how many intervals hold x -/
def held : List Iv → Int → Nat
  | [], _ => 0
  | p :: L, x => held L x + (if p.1 ≤ x ∧ x < p.2 then 1 else 0)
def pos (L : List Iv) (x : Int) : Bool := decide (0 < held L x)
def odd (L : List Iv) (x : Int) : Bool := decide (held L x % 2 = 1)
def Within (L : List Iv) (lo : Int) (n : Nat) : Prop := ∀ p ∈ L, lo ≤ p.1 ∧ p.2 ≤ lo + n
def CovOf (L : List Iv) (v : Int) : Prop := ∀ lo n, Within L lo n → v = (cnt (pos L) lo n : Int)
def OddOf (L : List Iv) (v : Int) : Prop := ∀ lo n, Within L lo n → v = (cnt (odd L) lo n : Int)
/-- windows of one length -/
def win (len : Int) (ns : List Int) : List Iv := ns.map fun a => (a, a + len)
/-- how many of the numbers are at most y -/
def upto : List Int → Int → Nat
  | [], _ => 0
  | a :: l, y => upto l y + (if a ≤ y then 1 else 0)
def gaps : List Int → List Int
  | [] => []
  | [_] => []
  | a :: b :: l => (b - a) :: gaps (b :: l)
def Asc (ns : List Int) : Prop := ns.Pairwise (· < ·)
def last : Int → List Int → Int
  | a, [] => a
  | _, b :: l => last b l
theorem last_ge : ∀ {l : List Int} {a : Int}, Asc (a :: l) → a ≤ last a l
  | [], a, _ => Int.le_refl a
  | b :: l, a, h => by
    have h1 := List.pairwise_cons.mp h
    have h2 := last_ge h1.2
    have h3 := h1.1 b (List.mem_cons_self ..)
    show a ≤ last b l
    omega
theorem le_last : ∀ {l : List Int} {a : Int}, Asc (a :: l) → ∀ b ∈ a :: l, b ≤ last a l
  | [], a, _, b, hb => by
    rw [List.mem_singleton.mp hb]
    exact Int.le_refl a
  | c :: l, a, h, b, hb => by
    rcases List.mem_cons.mp hb with rfl | hb
    · exact last_ge h
    · exact le_last (List.pairwise_cons.mp h).2 b hb
theorem upto_all : ∀ {l : List Int} {y : Int}, (∀ b ∈ l, b ≤ y) → upto l y = l.length
  | [], _, _ => rfl
  | b :: l, y, h => by
    show upto l y + _ = l.length + 1
    rw [upto_all fun c hc => h c (List.mem_cons_of_mem _ hc), if_pos (h b (List.mem_cons_self ..))]
theorem upto_none : ∀ {l : List Int} {y : Int}, (∀ b ∈ l, y < b) → upto l y = 0
  | [], _, _ => rfl
  | b :: l, y, h => by
    show upto l y + _ = 0
    rw [upto_none fun c hc => h c (List.mem_cons_of_mem _ hc), if_neg (by have := h b (List.mem_cons_self ..); omega)]
theorem upto_le : ∀ (l : List Int) (y : Int), upto l y ≤ l.length
  | [], _ => Nat.le_refl _
  | b :: l, y => by
    have := upto_le l y
    show upto l y + _ ≤ l.length + 1
    split <;> omega
def ups (l : List Int) (y : Int) : Bool := decide (upto l y % 2 = 1)
def evS : List Int → Int
  | [] => 0
  | [g] => g
  | g :: _ :: l => g + evS l
theorem ev_sum : ∀ l : List Int, (ev l).sum = evS l
  | [] => rfl
  | [g] => by simp [ev, evS]
  | g :: h :: l => by
    show (g :: ev l).sum = g + evS l
    rw [List.sum_cons, ev_sum l]
def odS : List Int → Int
  | [] => 0
  | _ :: l => evS l
theorem evS_cons (g : Int) (l : List Int) : evS (g :: l) = g + odS l := by
  cases l with
  | nil => simp [evS, odS]
  | cons h l => rfl
theorem gaps_sum : ∀ (l : List Int) (a : Int), (gaps (a :: l)).sum = last a l - a
  | [], a => by simp [gaps, last]
  | b :: l, a => by
    have h := gaps_sum l b
    show ((b - a) :: gaps (b :: l)).sum = last b l - a
    rw [List.sum_cons, h]
    omega
theorem ev_od : ∀ (l : List Int), evS l + odS l = l.sum
  | [] => rfl
  | g :: l => by
    rw [evS_cons, List.sum_cons, ← ev_od l]
    show g + odS l + evS l = _
    omega
/-- where an odd number of numbers is behind -/
theorem ups_cnt : ∀ (l : List Int) (a : Int), Asc (a :: l) → (cnt (ups (a :: l)) a (last a l - a).toNat : Int) = evS (gaps (a :: l)) ∧ (cnt (fun y => !ups (a :: l) y) a (last a l - a).toNat : Int) = odS (gaps (a :: l))
  | [], a, _ => by
    have e : (last a [] - a).toNat = 0 := by show (a - a).toNat = 0; omega
    rw [e]
    exact ⟨rfl, rfl⟩
  | b :: l, a, h => by
    have h1 := List.pairwise_cons.mp h
    have hab := h1.1 b (List.mem_cons_self ..)
    have hl := last_ge h1.2
    obtain ⟨i1, i2⟩ := ups_cnt l b h1.2
    have e : (last a (b :: l) - a).toNat = (b - a).toNat + (last b l - b).toNat := by show (last b l - a).toNat = _; omega
    have ea : a + ((b - a).toNat : Int) = b := by omega
    have front : ∀ x, a ≤ x → x < a + ((b - a).toNat : Int) → ups (a :: b :: l) x = true := fun x hx1 hx2 => by
      have z : upto (b :: l) x = 0 := upto_none fun c hc => by
        rcases List.mem_cons.mp hc with rfl | hc
        · omega
        · have := (List.pairwise_cons.mp h1.2).1 c hc
          omega
      show decide ((upto (b :: l) x + (if a ≤ x then 1 else 0)) % 2 = 1) = true
      rw [z, if_pos hx1]
      rfl
    have back : ∀ x, b ≤ x → ups (a :: b :: l) x = !ups (b :: l) x := fun x hx => by
      show decide ((upto (b :: l) x + (if a ≤ x then 1 else 0)) % 2 = 1) = !decide (upto (b :: l) x % 2 = 1)
      rw [if_pos (by omega)]
      by_cases p : upto (b :: l) x % 2 = 1
      · rw [decide_eq_true p, decide_eq_false (by omega)]
        rfl
      · rw [decide_eq_false p, decide_eq_true (by omega)]
        rfl
    rw [e, cnt_add, cnt_add, ea]
    have g1 : gaps (a :: b :: l) = (b - a) :: gaps (b :: l) := rfl
    refine ⟨?_, ?_⟩
    · rw [cnt_all front, cnt_congr (g := fun y => !ups (b :: l) y) fun x hx _ => back x hx, g1, evS_cons, ← i2]
      omega
    · rw [cnt_none fun x p q => by rw [front x p q]; rfl, cnt_congr (g := ups (b :: l)) fun x hx _ => by rw [back x hx, Bool.not_not], g1]
      show ((0 + cnt (ups (b :: l)) b (last b l - b).toNat : Nat) : Int) = evS (gaps (b :: l))
      rw [Nat.zero_add, i1]
theorem held_win_mid : ∀ (l : List Int) {len x : Int}, (∀ a ∈ l, x < a + len) → held (win len l) x = upto l x
  | [], _, _, _ => rfl
  | a :: l, len, x, h => by
    show held (win len l) x + (if a ≤ x ∧ x < a + len then 1 else 0) = upto l x + (if a ≤ x then 1 else 0)
    rw [held_win_mid l fun b hb => h b (List.mem_cons_of_mem _ hb)]
    have := h a (List.mem_cons_self ..)
    by_cases p : a ≤ x
    · rw [if_pos ⟨p, this⟩, if_pos p]
    · rw [if_neg fun q => p q.1, if_neg p]
theorem held_win_end : ∀ (l : List Int) {len x : Int}, (∀ a ∈ l, a ≤ x) → held (win len l) x + upto l (x - len) = l.length
  | [], _, _, _ => rfl
  | a :: l, len, x, h => by
    have ih := held_win_end l (len := len) (x := x) fun b hb => h b (List.mem_cons_of_mem _ hb)
    have := h a (List.mem_cons_self ..)
    show (held (win len l) x + (if a ≤ x ∧ x < a + len then 1 else 0)) + (upto l (x - len) + (if a ≤ x - len then 1 else 0)) = l.length + 1
    by_cases p : a ≤ x - len
    · rw [if_neg (by omega), if_pos p]
      omega
    · rw [if_pos (by omega), if_neg p]
      omega
theorem within_win {a : Int} {l : List Int} {len : Int} (h : Asc (a :: l)) (hl : 0 ≤ len) : Within (win len (a :: l)) a (last a l - a + len).toNat := by
  have hg := last_ge h
  intro p hp
  obtain ⟨b, hb, rfl⟩ := List.mem_map.mp hp
  have h1 := le_last h b hb
  have h2 : a ≤ b := by
    rcases List.mem_cons.mp hb with rfl | hb
    · exact Int.le_refl _
    · have := (List.pairwise_cons.mp h).1 b hb
      omega
  show a ≤ b ∧ b + len ≤ _
  omega
/-- long windows -/
theorem odd_long {a : Int} {l : List Int} {len v : Int} (h : Asc (a :: l)) (h1 : 1 ≤ len) (h2 : last a l - a ≤ len) (hv : OddOf (win len (a :: l)) v) : v = if (a :: l).length % 2 = 1 then len else 2 * evS (gaps (a :: l)) := by
  have hg := last_ge h
  have e := hv a _ (within_win h (by omega))
  obtain ⟨u1, u2⟩ := ups_cnt l a h
  have es : evS (gaps (a :: l)) + odS (gaps (a :: l)) = last a l - a := by rw [ev_od, gaps_sum]
  have en : (last a l - a + len).toNat = ((last a l - a).toNat + (len - (last a l - a)).toNat) + (last a l - a).toNat := by omega
  rw [en, cnt_add, cnt_add] at e
  have ge : ∀ b ∈ a :: l, a ≤ b := fun b hb => by
    rcases List.mem_cons.mp hb with rfl | hb
    · exact Int.le_refl _
    · have := (List.pairwise_cons.mp h).1 b hb
      omega
  have c1 : cnt (odd (win len (a :: l))) a (last a l - a).toNat = cnt (ups (a :: l)) a (last a l - a).toNat := cnt_congr fun x p q => by
    show decide (held (win len (a :: l)) x % 2 = 1) = decide (upto (a :: l) x % 2 = 1)
    rw [held_win_mid (a :: l) fun b hb => by have := ge b hb; omega]
  have c3 : ∀ d, d = a + (((last a l - a).toNat + (len - (last a l - a)).toNat : Nat) : Int) → cnt (odd (win len (a :: l))) d (last a l - a).toNat = cnt (fun y => decide (((a :: l).length - upto (a :: l) y) % 2 = 1)) a (last a l - a).toNat := fun d hd => by
    have e2 : d = a + len := by omega
    subst e2
    rw [cnt_shift]
    refine cnt_congr fun x p q => ?_
    show decide (held (win len (a :: l)) (x + len) % 2 = 1) = decide (((a :: l).length - upto (a :: l) x) % 2 = 1)
    have h3 := held_win_end (a :: l) (len := len) (x := x + len) fun b hb => by have := le_last h b hb; omega
    rw [show x + len - len = x by omega] at h3
    rw [show held (win len (a :: l)) (x + len) = (a :: l).length - upto (a :: l) x by omega]
  have mid : ∀ x, a + ((last a l - a).toNat : Int) ≤ x → x < a + ((last a l - a).toNat : Int) + ((len - (last a l - a)).toNat : Int) → odd (win len (a :: l)) x = decide ((a :: l).length % 2 = 1) := fun x p q => by
    show decide (held (win len (a :: l)) x % 2 = 1) = _
    rw [held_win_mid (a :: l) fun b hb => by have := ge b hb; omega, upto_all fun b hb => by have := le_last h b hb; omega]
  rw [c1, c3 _ rfl] at e
  by_cases hn : (a :: l).length % 2 = 1
  · rw [if_pos hn]
    have c2 : cnt (odd (win len (a :: l))) (a + ((last a l - a).toNat : Int)) (len - (last a l - a)).toNat = (len - (last a l - a)).toNat := cnt_all fun x p q => by rw [mid x p q, decide_eq_true hn]
    have c4 : cnt (fun y => decide (((a :: l).length - upto (a :: l) y) % 2 = 1)) a (last a l - a).toNat = cnt (fun y => !ups (a :: l) y) a (last a l - a).toNat := cnt_congr fun x _ _ => by
      have := upto_le (a :: l) x
      show decide _ = !decide (upto (a :: l) x % 2 = 1)
      by_cases p : upto (a :: l) x % 2 = 1
      · rw [decide_eq_true p, decide_eq_false (by omega)]
        rfl
      · rw [decide_eq_false p, decide_eq_true (by omega)]
        rfl
    rw [c2, c4] at e
    omega
  · rw [if_neg hn]
    have c2 : cnt (odd (win len (a :: l))) (a + ((last a l - a).toNat : Int)) (len - (last a l - a)).toNat = 0 := cnt_none fun x p q => by rw [mid x p q, decide_eq_false hn]
    have c4 : cnt (fun y => decide (((a :: l).length - upto (a :: l) y) % 2 = 1)) a (last a l - a).toNat = cnt (ups (a :: l)) a (last a l - a).toNat := cnt_congr fun x _ _ => by
      have := upto_le (a :: l) x
      show decide _ = decide (upto (a :: l) x % 2 = 1)
      by_cases p : upto (a :: l) x % 2 = 1
      · rw [decide_eq_true p, decide_eq_true (by omega)]
      · rw [decide_eq_false p, decide_eq_false (by omega)]
    rw [c2, c4] at e
    omega
def minS (len : Int) : List Int → Int
  | [] => 0
  | g :: l => (if len < g then len else g) + minS len l
theorem pos_win (l : List Int) (len x : Int) : pos (win len l) x = true ↔ ∃ b ∈ l, b ≤ x ∧ x < b + len := by
  induction l with
  | nil => exact ⟨fun h => by simp [pos, win, held] at h, fun ⟨b, hb, _⟩ => by cases hb⟩
  | cons a l ih =>
    show decide (0 < held (win len l) x + (if a ≤ x ∧ x < a + len then 1 else 0)) = true ↔ _
    rw [decide_eq_true_eq]
    have ih' : 0 < held (win len l) x ↔ ∃ b ∈ l, b ≤ x ∧ x < b + len := by
      rw [← ih]
      exact (decide_eq_true_iff).symm
    constructor
    · intro h
      by_cases p : a ≤ x ∧ x < a + len
      · exact ⟨a, List.mem_cons_self .., p⟩
      · rw [if_neg p] at h
        obtain ⟨b, hb, q⟩ := ih'.mp (by omega)
        exact ⟨b, List.mem_cons_of_mem _ hb, q⟩
    · rintro ⟨b, hb, q⟩
      rcases List.mem_cons.mp hb with rfl | hb
      · rw [if_pos q]
        omega
      · have := ih'.mpr ⟨b, hb, q⟩
        omega
theorem cov_cnt : ∀ (l : List Int) (a len : Int), Asc (a :: l) → 0 ≤ len → (cnt (pos (win len (a :: l))) a (last a l - a + len).toNat : Int) = len + minS len (gaps (a :: l))
  | [], a, len, _, hl => by
    have e : (last a [] - a + len).toNat = len.toNat := by show (a - a + len).toNat = _; omega
    rw [e, cnt_all fun x p q => (pos_win [a] len x).mpr ⟨a, List.mem_singleton.mpr rfl, by omega⟩]
    show ((len.toNat : Nat) : Int) = len + 0
    omega
  | b :: l, a, len, h, hl => by
    have h1 := List.pairwise_cons.mp h
    have hab := h1.1 b (List.mem_cons_self ..)
    have hg := last_ge h1.2
    have ih := cov_cnt l b len h1.2 hl
    have e : (last a (b :: l) - a + len).toNat = (b - a).toNat + (last b l - b + len).toNat := by show (last b l - a + len).toNat = _; omega
    have ea : a + ((b - a).toNat : Int) = b := by omega
    have ge : ∀ c ∈ b :: l, b ≤ c := fun c hc => by
      rcases List.mem_cons.mp hc with rfl | hc
      · exact Int.le_refl _
      · have := (List.pairwise_cons.mp h1.2).1 c hc
        omega
    rw [e, cnt_add, ea]
    have back : cnt (pos (win len (a :: b :: l))) b (last b l - b + len).toNat = cnt (pos (win len (b :: l))) b (last b l - b + len).toNat := cnt_congr fun x p _ => by
      rw [Bool.eq_iff_iff, pos_win, pos_win]
      constructor
      · rintro ⟨c, hc, q1, q2⟩
        rcases List.mem_cons.mp hc with rfl | hc
        · exact ⟨b, List.mem_cons_self .., p, by omega⟩
        · exact ⟨c, hc, q1, q2⟩
      · rintro ⟨c, hc, q⟩
        exact ⟨c, List.mem_cons_of_mem _ hc, q⟩
    have front : ∀ x, a ≤ x → x < b → pos (win len (a :: b :: l)) x = decide (x < a + len) := fun x p q => by
      rw [Bool.eq_iff_iff, pos_win, decide_eq_true_eq]
      constructor
      · rintro ⟨c, hc, q1, q2⟩
        rcases List.mem_cons.mp hc with rfl | hc
        · exact q2
        · have := ge c hc
          omega
      · intro r
        exact ⟨a, List.mem_cons_self .., p, r⟩
    rw [back]
    have g1 : minS len (gaps (a :: b :: l)) = (if len < b - a then len else b - a) + minS len (gaps (b :: l)) := rfl
    rw [g1]
    by_cases p : len < b - a
    · have e2 : (b - a).toNat = len.toNat + (b - a - len).toNat := by omega
      rw [if_pos p, e2, cnt_add, cnt_all fun x p1 p2 => by rw [front x p1 (by omega), decide_eq_true (by omega)], cnt_none fun x p1 p2 => by rw [front x (by omega) (by omega), decide_eq_false (by omega)]]
      omega
    · rw [if_neg p, cnt_all fun x p1 p2 => by rw [front x p1 (by omega), decide_eq_true (by omega)]]
      omega
theorem cov_win {a : Int} {l : List Int} {len v : Int} (h : Asc (a :: l)) (h1 : 0 ≤ len) (hv : CovOf (win len (a :: l)) v) : v = len + minS len (gaps (a :: l)) := by
  rw [hv a _ (within_win h h1)]
  exact cov_cnt l a len h h1
theorem gap_le : ∀ {l : List Int} {a : Int}, Asc (a :: l) → ∀ g ∈ gaps (a :: l), 1 ≤ g ∧ g ≤ last a l - a
  | [], _, _, g, hg => by cases hg
  | b :: l, a, h, g, hg => by
    have h1 := List.pairwise_cons.mp h
    have hab := h1.1 b (List.mem_cons_self ..)
    have hl := last_ge h1.2
    rcases List.mem_cons.mp (show g ∈ (b - a) :: gaps (b :: l) from hg) with rfl | hg
    · show 1 ≤ b - a ∧ b - a ≤ last b l - a
      omega
    · have := gap_le h1.2 g hg
      show 1 ≤ g ∧ g ≤ last b l - a
      omega
theorem minS_long {len : Int} : ∀ {gs : List Int}, (∀ g ∈ gs, g ≤ len) → minS len gs = gs.sum
  | [], _ => rfl
  | g :: gs, h => by
    show (if len < g then len else g) + minS len gs = _
    have := h g (List.mem_cons_self ..)
    rw [if_neg (by omega), minS_long fun x hx => h x (List.mem_cons_of_mem _ hx), List.sum_cons]
theorem cov_long {a : Int} {l : List Int} {len v : Int} (h : Asc (a :: l)) (h1 : 1 ≤ len) (h2 : last a l - a ≤ len) (hv : CovOf (win len (a :: l)) v) : v = (last a l - a) + len := by
  rw [cov_win h (by omega) hv, minS_long fun g hg => Int.le_trans (gap_le h g hg).2 h2, gaps_sum]
  omega
/-- parity -/
theorem odd_par (lo : Int) (n : Nat) : ∀ L : List Iv, Within L lo n → (∀ p ∈ L, p.1 ≤ p.2) → (cnt (odd L) lo n : Int) % 2 = (L.map fun p => p.2 - p.1).sum % 2
  | [], _, _ => by
    rw [cnt_none (f := odd []) fun x _ _ => rfl]
    rfl
  | p :: L, h, h2 => by
    have ih := odd_par lo n L (fun q hq => h q (List.mem_cons_of_mem _ hq)) fun q hq => h2 q (List.mem_cons_of_mem _ hq)
    have hp := h p (List.mem_cons_self ..)
    have hp2 := h2 p (List.mem_cons_self ..)
    have e : ∀ x, odd (p :: L) x = xor (odd L x) (decide (p.1 ≤ x ∧ x < p.2)) := fun x => by
      show decide ((held L x + (if p.1 ≤ x ∧ x < p.2 then 1 else 0)) % 2 = 1) = xor (decide (held L x % 2 = 1)) _
      by_cases q : p.1 ≤ x ∧ x < p.2
      · rw [if_pos q, decide_eq_true q]
        by_cases r : held L x % 2 = 1
        · rw [decide_eq_true r, decide_eq_false (by omega)]
          rfl
        · rw [decide_eq_false r, decide_eq_true (by omega)]
          rfl
      · rw [if_neg q, decide_eq_false q, Nat.add_zero]
        simp
    have c := cnt_xor (odd L) (fun x => decide (p.1 ≤ x ∧ x < p.2)) lo n
    rw [cnt_congr (f := odd (p :: L)) (g := fun x => xor (odd L x) (decide (p.1 ≤ x ∧ x < p.2))) fun x _ _ => e x]
    have c2 : cnt (fun x => decide (p.1 ≤ x ∧ x < p.2)) lo n = (p.2 - p.1).toNat := by
      have en : n = (p.1 - lo).toNat + ((p.2 - p.1).toNat + (lo + n - p.2).toNat) := by omega
      generalize hm : (lo + n - p.2).toNat = m at en
      rw [en, cnt_add, cnt_add, cnt_none fun x p1 p2 => decide_eq_false (by omega), cnt_all fun x p1 p2 => decide_eq_true (by omega), cnt_none fun x p1 p2 => decide_eq_false (by omega)]
      omega
    rw [c2] at c
    rw [List.map_cons, List.sum_cons]
    have c3 : ((cnt (fun x => xor (odd L x) (decide (p.1 ≤ x ∧ x < p.2))) lo n : Nat) : Int) % 2 = ((cnt (odd L) lo n : Int) + ((p.2 - p.1).toNat : Int)) % 2 := by omega
    rw [c3]
    omega
theorem win_sum (len : Int) : ∀ l : List Int, ((win len l).map fun p => p.2 - p.1).sum = (l.length : Int) * len
  | [] => by simp [win]
  | a :: l => by
    have ih := win_sum len l
    show ((a + len - a) :: (win len l).map fun p => p.2 - p.1).sum = ((l.length + 1 : Nat) : Int) * len
    rw [List.sum_cons, ih, show ((l.length + 1 : Nat) : Int) = (l.length : Int) + 1 by omega, Int.add_mul, Int.one_mul]
    omega
theorem odd_mod {a : Int} {l : List Int} {len v : Int} (h : Asc (a :: l)) (h1 : 0 ≤ len) (hv : OddOf (win len (a :: l)) v) : v % 2 = ((a :: l).length : Int) * len % 2 := by
  rw [hv a _ (within_win h h1), odd_par a _ _ (within_win h h1) fun p hp => ?_, win_sum]
  obtain ⟨b, hb, rfl⟩ := List.mem_map.mp hp
  show b ≤ b + len
  omega
/-- the least -/
def firstW (len a : Int) : List Int → Int
  | [] => len
  | b :: _ => if len < b - a then len else b - a
theorem odd_least {a : Int} {l : List Int} {len v : Int} (h : Asc (a :: l)) (h1 : 1 ≤ len) (hv : OddOf (win len (a :: l)) v) : firstW len a l ≤ v := by
  have e := hv a _ (within_win h (by omega))
  have hg := last_ge h
  obtain ⟨k, hk⟩ : ∃ k : Nat, k = (firstW len a l).toNat := ⟨_, rfl⟩
  have k0 : 0 ≤ firstW len a l ∧ firstW len a l ≤ last a l - a + len ∧ firstW len a l ≤ len := by
    cases l with
    | nil => exact ⟨by show 0 ≤ len; omega, by show len ≤ a - a + len; omega, Int.le_refl _⟩
    | cons b l =>
      have := (List.pairwise_cons.mp h).1 b (List.mem_cons_self ..)
      show 0 ≤ (if len < b - a then len else b - a) ∧ (if len < b - a then len else b - a) ≤ _ ∧ (if len < b - a then len else b - a) ≤ len
      split <;> omega
  have en : (last a l - a + len).toNat = k + ((last a l - a + len).toNat - k) := by omega
  rw [en, cnt_add, cnt_all fun x p q => ?_] at e
  · omega
  · show decide (held (win len (a :: l)) x % 2 = 1) = true
    have r : held (win len l) x = 0 := by
      have z : ∀ b ∈ l, x < b := by
        cases l with
        | nil => intro b hb; cases hb
        | cons b l =>
          have hb1 : x < b := by
            have : firstW len a (b :: l) = (if len < b - a then len else b - a) := rfl
            rw [this] at hk
            split at hk <;> omega
          intro c hc
          rcases List.mem_cons.mp hc with rfl | hc
          · exact hb1
          · have := (List.pairwise_cons.mp (List.pairwise_cons.mp h).2).1 c hc
            omega
      have p2 : ¬ (pos (win len l) x = true) := fun t => by
        obtain ⟨b, hb, q1, q2⟩ := (pos_win l len x).mp t
        have := z b hb
        omega
      have p3 : ¬ 0 < held (win len l) x := fun t => p2 (decide_eq_true t)
      omega
    show decide ((held (win len l) x + (if a ≤ x ∧ x < a + len then 1 else 0)) % 2 = 1) = true
    rw [r, if_pos ⟨p, by omega⟩]
    rfl
theorem held_one : ∀ {l : List Int} {x : Int}, Asc l → held (win 1 l) x ≤ 1
  | [], _, _ => Nat.zero_le _
  | a :: l, x, h => by
    have h1 := List.pairwise_cons.mp h
    have ih := held_one (x := x) h1.2
    show held (win 1 l) x + (if a ≤ x ∧ x < a + 1 then 1 else 0) ≤ 1
    by_cases p : a ≤ x ∧ x < a + 1
    · have z : ¬ (pos (win 1 l) x = true) := fun t => by
        obtain ⟨b, hb, q1, q2⟩ := (pos_win l 1 x).mp t
        have := h1.1 b hb
        omega
      have z2 : ¬ 0 < held (win 1 l) x := fun t => z (decide_eq_true t)
      rw [if_pos p]
      omega
    · rw [if_neg p]
      omega
theorem minS_one : ∀ {gs : List Int}, (∀ g ∈ gs, 1 ≤ g) → minS 1 gs = gs.length
  | [], _ => rfl
  | g :: gs, h => by
    show (if 1 < g then 1 else g) + minS 1 gs = ((gs.length + 1 : Nat) : Int)
    rw [minS_one fun x hx => h x (List.mem_cons_of_mem _ hx)]
    have := h g (List.mem_cons_self ..)
    split <;> omega
theorem gaps_len : ∀ (l : List Int) (a : Int), (gaps (a :: l)).length = l.length
  | [], _ => rfl
  | b :: l, a => by
    show (gaps (b :: l)).length + 1 = l.length + 1
    rw [gaps_len l b]
theorem odd_one {a : Int} {l : List Int} {v : Int} (h : Asc (a :: l)) (hv : OddOf (win 1 (a :: l)) v) : v = ((a :: l).length : Int) := by
  rw [hv a _ (within_win h (by omega))]
  have e : cnt (odd (win 1 (a :: l))) a (last a l - a + 1).toNat = cnt (pos (win 1 (a :: l))) a (last a l - a + 1).toNat := cnt_congr fun x _ _ => by
    have := held_one (x := x) h
    show decide (held (win 1 (a :: l)) x % 2 = 1) = decide (0 < held (win 1 (a :: l)) x)
    refine decide_eq_decide.mpr ?_
    omega
  rw [e, cov_cnt l a 1 h (by omega), minS_one fun g hg => (gap_le h g hg).1, gaps_len]
  show (1 : Int) + (l.length : Int) = ((l.length + 1 : Nat) : Int)
  omega
end SM

set_option linter.all false
set_option maxRecDepth 100000
set_option maxHeartbeats 4000000
/-! pieces between neighbouring ends -/
namespace SM
open RT
/-- the sum of the pieces at whose beginning f holds -/
def sumP (f : Int → Bool) : List Int → Int
  | [] => 0
  | [_] => 0
  | a :: b :: l => (if f a then b - a else 0) + sumP f (b :: l)
theorem cnt_pieces (f : Int → Bool) : ∀ (l : List Int) (a : Int), Asc (a :: l) → (∀ i x y, (a :: l)[i]? = some x → (a :: l)[i + 1]? = some y → ∀ z, x ≤ z → z < y → f z = f x) → (cnt f a (last a l - a).toNat : Int) = sumP f (a :: l)
  | [], a, _, _ => by
    have e : (last a [] - a).toNat = 0 := by show (a - a).toNat = 0; omega
    rw [e]
    rfl
  | b :: l, a, h, k => by
    have h1 := List.pairwise_cons.mp h
    have hab := h1.1 b (List.mem_cons_self ..)
    have hl := last_ge h1.2
    have ih := cnt_pieces f l b h1.2 fun i x y ex ey => k (i + 1) x y ex ey
    have e : (last a (b :: l) - a).toNat = (b - a).toNat + (last b l - b).toNat := by show (last b l - a).toNat = _; omega
    have ea : a + ((b - a).toNat : Int) = b := by omega
    have k0 := k 0 a b rfl rfl
    rw [e, cnt_add, ea]
    show ((cnt f a (b - a).toNat + cnt f b (last b l - b).toNat : Nat) : Int) = (if f a = true then b - a else 0) + sumP f (b :: l)
    cases hf : f a with
    | true =>
      rw [cnt_all fun x p q => by rw [k0 x p (by omega), hf], if_pos rfl, ← ih]
      omega
    | false =>
      rw [cnt_none fun x p q => by rw [k0 x p (by omega), hf], if_neg (by decide), ← ih]
      omega
/-- all ends stand in the list -/
def EndsIn (L : List Iv) (es : List Int) : Prop := ∀ p ∈ L, p.1 ∈ es ∧ p.2 ∈ es
theorem between {es : List Int} (h : Asc es) : ∀ {i : Nat} {x y : Int}, es[i]? = some x → es[i + 1]? = some y → ∀ c ∈ es, c ≤ x ∨ y ≤ c := by
  intro i x y ex ey c hc
  obtain ⟨j, hj, rfl⟩ := List.getElem_of_mem hc
  obtain ⟨hi, rfl⟩ := List.getElem?_eq_some_iff.mp ex
  obtain ⟨hi2, rfl⟩ := List.getElem?_eq_some_iff.mp ey
  have pw := List.pairwise_iff_getElem.mp h
  rcases Nat.lt_trichotomy j i with q | q | q
  · exact .inl (Int.le_of_lt (pw j i hj hi q))
  · subst q
    exact .inl (Int.le_refl _)
  · rcases Nat.lt_or_ge (i + 1) j with r | r
    · exact .inr (Int.le_of_lt (pw (i + 1) j hi2 hj r))
    · have : j = i + 1 := by omega
      subst this
      exact .inr (Int.le_refl _)
theorem held_const {es : List Int} (h : Asc es) {i : Nat} {x y : Int} (ex : es[i]? = some x) (ey : es[i + 1]? = some y) {z : Int} (z1 : x ≤ z) (z2 : z < y) : ∀ L : List Iv, EndsIn L es → held L z = held L x
  | [], _ => rfl
  | p :: L, k => by
    have ih := held_const h ex ey z1 z2 L fun q hq => k q (List.mem_cons_of_mem _ hq)
    obtain ⟨k1, k2⟩ := k p (List.mem_cons_self ..)
    have b1 := between h ex ey p.1 k1
    have b2 := between h ex ey p.2 k2
    show held L z + (if p.1 ≤ z ∧ z < p.2 then 1 else 0) = held L x + (if p.1 ≤ x ∧ x < p.2 then 1 else 0)
    rw [ih]
    by_cases q : p.1 ≤ x ∧ x < p.2
    · rw [if_pos q, if_pos (by omega)]
    · rw [if_neg q, if_neg (by omega)]
theorem within_ends {L : List Iv} {a : Int} {l : List Int} (h : Asc (a :: l)) (k : EndsIn L (a :: l)) : Within L a (last a l - a).toNat := by
  have hg := last_ge h
  intro p hp
  obtain ⟨k1, k2⟩ := k p hp
  have h1 : a ≤ p.1 := by
    rcases List.mem_cons.mp k1 with e | e
    · omega
    · have := (List.pairwise_cons.mp h).1 _ e
      omega
  have h2 := le_last h _ k2
  omega
theorem cov_pieces {L : List Iv} {es : List Int} {v : Int} (h : Asc es) (k : EndsIn L es) (hv : CovOf L v) : v = sumP (pos L) es := by
  cases es with
  | nil =>
    cases L with
    | nil => exact (hv 0 0 fun p hp => by cases hp).trans rfl
    | cons p L => exact absurd (k p (List.mem_cons_self ..)).1 (by simp)
  | cons a l =>
    rw [hv a _ (within_ends h k)]
    refine cnt_pieces (pos L) l a h fun i x y ex ey z z1 z2 => ?_
    unfold pos
    rw [held_const h ex ey z1 z2 L k]
theorem odd_pieces {L : List Iv} {es : List Int} {v : Int} (h : Asc es) (k : EndsIn L es) (hv : OddOf L v) : v = sumP (odd L) es := by
  cases es with
  | nil =>
    cases L with
    | nil => exact (hv 0 0 fun p hp => by cases hp).trans rfl
    | cons p L => exact absurd (k p (List.mem_cons_self ..)).1 (by simp)
  | cons a l =>
    rw [hv a _ (within_ends h k)]
    refine cnt_pieces (odd L) l a h fun i x y ex ey z z1 z2 => ?_
    unfold odd
    rw [held_const h ex ey z1 z2 L k]
theorem held_app (L M : List Iv) (x : Int) : held (L ++ M) x = held L x + held M x := by
  induction L with
  | nil => exact (Nat.zero_add _).symm
  | cons p L ih =>
    show held (L ++ M) x + _ = held L x + _ + held M x
    rw [ih]
    omega
theorem held_rev (L : List Iv) (x : Int) : held L.reverse x = held L x := by
  induction L with
  | nil => rfl
  | cons p L ih =>
    rw [List.reverse_cons, held_app, ih]
    show held L x + (0 + _) = held L x + _
    omega
theorem held_pos (L : List Iv) (x : Int) : 0 < held L x ↔ ∃ p ∈ L, p.1 ≤ x ∧ x < p.2 := by
  induction L with
  | nil => exact ⟨fun h => absurd h (Nat.lt_irrefl 0), fun ⟨p, hp, _⟩ => by cases hp⟩
  | cons p L ih =>
    show 0 < held L x + (if p.1 ≤ x ∧ x < p.2 then 1 else 0) ↔ _
    constructor
    · intro h
      by_cases q : p.1 ≤ x ∧ x < p.2
      · exact ⟨p, List.mem_cons_self .., q⟩
      · rw [if_neg q] at h
        obtain ⟨r, hr, e⟩ := ih.mp (by omega)
        exact ⟨r, List.mem_cons_of_mem _ hr, e⟩
    · rintro ⟨r, hr, e⟩
      rcases List.mem_cons.mp hr with rfl | hr
      · rw [if_pos e]
        omega
      · have := ih.mpr ⟨r, hr, e⟩
        omega
theorem cov_same {L M : List Iv} {v : Int} (h : ∀ p, p ∈ M ↔ p ∈ L) (hv : CovOf M v) : CovOf L v := fun lo n w => by
  rw [hv lo n fun p hp => w p ((h p).mp hp)]
  congr 1
  refine cnt_congr fun x _ _ => ?_
  unfold pos
  refine decide_eq_decide.mpr ?_
  rw [held_pos, held_pos]
  exact ⟨fun ⟨p, a, b⟩ => ⟨p, (h p).mp a, b⟩, fun ⟨p, a, b⟩ => ⟨p, (h p).mpr a, b⟩⟩
theorem odd_rev {L : List Iv} {v : Int} (hv : OddOf L.reverse v) : OddOf L v := fun lo n w => by
  rw [hv lo n fun p hp => w p (List.mem_reverse.mp hp)]
  congr 1
  refine cnt_congr fun x _ _ => ?_
  unfold odd
  rw [held_rev]
theorem span_all : ∀ L : List Iv, ∃ lo n, Within L lo n
  | [] => ⟨0, 0, fun p hp => by cases hp⟩
  | p :: L => by
    obtain ⟨lo, n, w⟩ := span_all L
    refine ⟨min lo p.1, (max (lo + n) p.2 - min lo p.1).toNat, fun q hq => ?_⟩
    rcases List.mem_cons.mp hq with rfl | hq
    · omega
    · have := w q hq
      omega
theorem odd_twice {L : List Iv} {v : Int} (hv : OddOf (L ++ L) v) : v = 0 := by
  obtain ⟨lo, n, w⟩ := span_all L
  rw [hv lo n fun p hp => w p (by rcases List.mem_append.mp hp with h | h <;> exact h), cnt_none fun x _ _ => ?_]
  · rfl
  · unfold odd
    rw [held_app]
    exact decide_eq_false (by omega)
/-- the pieces as pairs: how long, how many hold it -/
def pieces (L : List Iv) : List Int → List Iv
  | [] => []
  | [_] => []
  | a :: b :: l => (b - a, (held L a : Int)) :: pieces L (b :: l)
theorem pieces_len (L : List Iv) : ∀ es : List Int, (pieces L es).length = es.length - 1
  | [] => rfl
  | [_] => rfl
  | a :: b :: l => by
    show (pieces L (b :: l)).length + 1 = _
    rw [pieces_len L (b :: l)]
    simp
theorem pieces_at (L : List Iv) : ∀ (es : List Int) (i : Nat), (pieces L es)[i]? = (es[i]?).bind fun x => (es[i + 1]?).map fun y => (y - x, (held L x : Int))
  | [], i => by simp [pieces]
  | [a], i => by cases i <;> simp [pieces]
  | a :: b :: l, 0 => rfl
  | a :: b :: l, i + 1 => pieces_at L (b :: l) i
theorem pieces_pos (L : List Iv) : ∀ es : List Int, (((pieces L es).filter fun p => decide (p.2 > 0)).map (·.1)).sum = sumP (pos L) es
  | [] => rfl
  | [_] => rfl
  | a :: b :: l => by
    have ih := pieces_pos L (b :: l)
    show ((((b - a, (held L a : Int)) :: pieces L (b :: l)).filter fun p => decide (p.2 > 0)).map (·.1)).sum = (if pos L a = true then b - a else 0) + sumP (pos L) (b :: l)
    rw [← ih]
    by_cases q : 0 < held L a
    · rw [List.filter_cons_of_pos (by simpa using q), if_pos (by unfold pos; exact decide_eq_true q)]
      rfl
    · rw [List.filter_cons_of_neg (by simpa using q), if_neg (by unfold pos; simpa using q), Int.zero_add]
theorem pieces_odd (L : List Iv) : ∀ es : List Int, (((pieces L es).filter fun p => decide (p.2 % 2 = 1)).map (·.1)).sum = sumP (odd L) es
  | [] => rfl
  | [_] => rfl
  | a :: b :: l => by
    have ih := pieces_odd L (b :: l)
    show ((((b - a, (held L a : Int)) :: pieces L (b :: l)).filter fun p => decide (p.2 % 2 = 1)).map (·.1)).sum = (if odd L a = true then b - a else 0) + sumP (odd L) (b :: l)
    rw [← ih]
    by_cases q : held L a % 2 = 1
    · rw [List.filter_cons_of_pos (by rw [decide_eq_true_eq]; show ((held L a : Nat) : Int) % 2 = 1; omega), if_pos (by unfold odd; exact decide_eq_true q)]
      rfl
    · rw [List.filter_cons_of_neg (by rw [decide_eq_true_eq]; show ¬ ((held L a : Nat) : Int) % 2 = 1; omega), if_neg (by unfold odd; rw [decide_eq_true_eq]; exact q), Int.zero_add]
theorem held_len (L : List Iv) (x : Int) : (L.filter fun p => decide (p.1 ≤ x) && decide (x < p.2)).length = held L x := by
  induction L with
  | nil => rfl
  | cons p L ih =>
    show _ = held L x + (if p.1 ≤ x ∧ x < p.2 then 1 else 0)
    by_cases q : p.1 ≤ x ∧ x < p.2
    · rw [List.filter_cons_of_pos (by rw [decide_eq_true q.1, decide_eq_true q.2]; rfl), if_pos q, List.length_cons, ih]
    · rw [List.filter_cons_of_neg (by rw [Bool.and_eq_true, decide_eq_true_eq, decide_eq_true_eq]; exact q), if_neg q, ih]
      omega
/-- integer by integer -/
def heldL (L : List Iv) (lo : Int) (n : Nat) : List Int := (List.range n).map fun i : Nat => (held L (lo + (i : Int)) : Int)
theorem cov_small (L : List Iv) (lo : Int) : ∀ n, ((heldL L lo n).length : Int) - ((heldL L lo n).count 0 : Nat) = (cnt (pos L) lo n : Int)
  | 0 => rfl
  | n + 1 => by
    have ih := cov_small L lo n
    have e : heldL L lo (n + 1) = heldL L lo n ++ [(held L (lo + n) : Int)] := by
      unfold heldL
      rw [List.range_succ, List.map_append]
      rfl
    rw [e, List.length_append, List.count_append]
    show _ = ((cnt (pos L) lo n + (if pos L (lo + n) = true then 1 else 0) : Nat) : Int)
    have c : (List.count (0 : Int) [(held L (lo + n) : Int)]) = if 0 < held L (lo + n) then 0 else 1 := by
      by_cases q : 0 < held L (lo + n)
      · rw [if_pos q, List.count_eq_zero]
        intro z
        have := List.mem_singleton.mp z
        omega
      · rw [if_neg q, show held L (lo + n) = 0 by omega]
        rfl
    rw [c]
    by_cases q : 0 < held L (lo + n)
    · rw [if_pos q, if_pos (by unfold pos; exact decide_eq_true q)]
      simp only [List.length_singleton]
      omega
    · rw [if_neg q, if_neg (by unfold pos; rw [decide_eq_true_eq]; exact q)]
      simp only [List.length_singleton]
      omega
theorem odd_small (L : List Iv) (lo : Int) : ∀ n, ((heldL L lo n).map fun x => x % 2).sum = (cnt (odd L) lo n : Int)
  | 0 => rfl
  | n + 1 => by
    have ih := odd_small L lo n
    have e : heldL L lo (n + 1) = heldL L lo n ++ [(held L (lo + n) : Int)] := by
      unfold heldL
      rw [List.range_succ, List.map_append]
      rfl
    rw [e, List.map_append, List.sum_append, ih]
    show (cnt (odd L) lo n : Int) + ([(held L (lo + n) : Int) % 2]).sum = ((cnt (odd L) lo n + (if odd L (lo + n) = true then 1 else 0) : Nat) : Int)
    rw [List.sum_singleton]
    by_cases q : held L (lo + n) % 2 = 1
    · rw [if_pos (by unfold odd; exact decide_eq_true q)]
      omega
    · rw [if_neg (by unfold odd; rw [decide_eq_true_eq]; exact q)]
      omega
end SM

set_option linter.all false
set_option maxRecDepth 100000
set_option maxHeartbeats 4000000
/-! what a sweep over sorted intervals counts, and what sorted ends tell -/
namespace SM
open RT
theorem cnt_put {f g : Int → Bool} {lo : Int} {n : Nat} {m e : Int} (h1 : lo ≤ m) (h2 : m ≤ e) (h3 : e ≤ lo + n) (hin : ∀ x, m ≤ x → x < e → f x = false ∧ g x = true) (hout : ∀ x, x < m ∨ e ≤ x → g x = f x) :
    (cnt g lo n : Int) = cnt f lo n + (e - m) := by
  obtain ⟨a, ha⟩ : ∃ a : Nat, a = (m - lo).toNat := ⟨_, rfl⟩
  obtain ⟨b, hb⟩ : ∃ b : Nat, b = (e - m).toNat := ⟨_, rfl⟩
  obtain ⟨c, hc⟩ : ∃ c : Nat, n = a + (b + c) := ⟨n - a - b, by omega⟩
  have e1 : lo + (a : Int) = m := by omega
  have e2 : m + (b : Int) = e := by omega
  rw [hc, cnt_add, cnt_add f, e1, cnt_add, cnt_add f, e2]
  rw [cnt_congr (f := g) (g := f) (lo := lo) (n := a) fun x p q => hout x (.inl (by omega)), cnt_congr (f := g) (g := f) (lo := e) (n := c) fun x p q => hout x (.inr p),
    cnt_all (f := g) (lo := m) (n := b) fun x p q => (hin x p (by omega)).2, cnt_none (f := f) (lo := m) (n := b) fun x p q => (hin x p (by omega)).1]
  omega
theorem pos_app (L : List Iv) (p : Iv) (x : Int) : pos (L ++ [p]) x = (pos L x || decide (p.1 ≤ x ∧ x < p.2)) := by
  unfold pos
  rw [held_app]
  show decide (0 < held L x + (0 + if p.1 ≤ x ∧ x < p.2 then 1 else 0)) = _
  by_cases q : p.1 ≤ x ∧ x < p.2
  · rw [if_pos q, decide_eq_true q, Bool.or_true]
    exact decide_eq_true (by omega)
  · rw [if_neg q, decide_eq_false q, Bool.or_false]
    rfl
theorem pos_no {L : List Iv} {x b : Int} (h : ∀ q ∈ L, q.2 ≤ b) (hx : b ≤ x) : pos L x = false := by
  refine decide_eq_false fun z => ?_
  obtain ⟨q, hq, _, e⟩ := (held_pos L x).mp z
  have := h q hq
  omega
theorem within_app {L : List Iv} {p : Iv} {lo : Int} {n : Nat} (w : Within (L ++ [p]) lo n) : Within L lo n ∧ lo ≤ p.1 ∧ p.2 ≤ lo + n :=
  ⟨fun q hq => w q (List.mem_append.mpr (.inl hq)), w p (List.mem_append.mpr (.inr (List.mem_singleton.mpr rfl)))⟩
/-- an interval more, which goes beyond b -/
theorem cov_more {L : List Iv} {p : Iv} {v b : Int} (hv : CovOf L v) (h1 : p.1 ≤ b) (hle : ∀ q ∈ L, q.2 ≤ b) (hq : ∀ x, p.1 ≤ x → x < b → pos L x = true) (h2 : b < p.2) : CovOf (L ++ [p]) (v + (p.2 - b)) := fun lo n w => by
  obtain ⟨w1, w2, w3⟩ := within_app w
  rw [hv lo n w1]
  refine (cnt_put (f := pos L) (g := pos (L ++ [p])) (m := b) (e := p.2) (by omega) (by omega) w3 (fun x a c => ⟨pos_no hle a, ?_⟩) fun x hx => ?_).symm
  · rw [pos_app, decide_eq_true (show p.1 ≤ x ∧ x < p.2 by omega), Bool.or_true]
  · rw [pos_app]
    by_cases z : p.1 ≤ x ∧ x < p.2
    · rw [hq x z.1 (by omega), Bool.true_or]
    · rw [decide_eq_false z, Bool.or_false]
/-- .. which doesn't -/
theorem cov_less {L : List Iv} {p : Iv} {v b : Int} (hv : CovOf L v) (hq : ∀ x, p.1 ≤ x → x < b → pos L x = true) (h2 : p.2 ≤ b) : CovOf (L ++ [p]) v := fun lo n w => by
  obtain ⟨w1, w2, w3⟩ := within_app w
  rw [hv lo n w1]
  congr 1
  refine cnt_congr fun x _ _ => ?_
  rw [pos_app]
  by_cases z : p.1 ≤ x ∧ x < p.2
  · rw [hq x z.1 (by omega), Bool.true_or]
  · rw [decide_eq_false z, Bool.or_false]
theorem cov_zero : CovOf [] 0 := fun lo n _ => by
  rw [cnt_none (f := pos []) fun x _ _ => rfl]
  rfl
/-- every second difference -/
def alt : List Int → Int
  | a :: b :: r => (b - a) + alt r
  | _ => 0
def endsOf (L : List Iv) : List Int := L.flatMap fun p => [p.1, p.2]
theorem upto_cons (a : Int) (l : List Int) (x : Int) : upto (a :: l) x = upto l x + (if a ≤ x then 1 else 0) := rfl
theorem upto_perm {s t : List Int} (h : s.Perm t) (x : Int) : upto s x = upto t x := by
  induction h with
  | nil => rfl
  | cons a _ ih => rw [upto_cons, upto_cons, ih]
  | swap a b l =>
    rw [upto_cons, upto_cons, upto_cons, upto_cons]
    omega
  | trans _ _ h1 h2 => exact h1.trans h2
theorem held_upto : ∀ {L : List Iv}, (∀ p ∈ L, p.1 < p.2) → ∀ x : Int, held L x % 2 = upto (endsOf L) x % 2
  | [], _, x => rfl
  | p :: L, h, x => by
    have ih := held_upto (fun q hq => h q (List.mem_cons_of_mem _ hq)) x
    have hp := h p (List.mem_cons_self ..)
    show (held L x + (if p.1 ≤ x ∧ x < p.2 then 1 else 0)) % 2 = upto (p.1 :: p.2 :: endsOf L) x % 2
    rw [upto_cons, upto_cons]
    by_cases a : p.1 ≤ x
    · by_cases b : p.2 ≤ x
      · rw [if_neg (show ¬ (p.1 ≤ x ∧ x < p.2) by omega), if_pos a, if_pos b]
        omega
      · rw [if_pos (show p.1 ≤ x ∧ x < p.2 by omega), if_pos a, if_neg b]
        omega
    · rw [if_neg (show ¬ (p.1 ≤ x ∧ x < p.2) by omega), if_neg a, if_neg (show ¬ p.2 ≤ x by omega)]
      omega
theorem alt_cnt : ∀ (s : List Int) (lo : Int) (n : Nat), s.Pairwise (· ≤ ·) → s.length % 2 = 0 → (∀ x ∈ s, lo ≤ x ∧ x ≤ lo + n) → (cnt (fun x => decide (upto s x % 2 = 1)) lo n : Int) = alt s
  | [], lo, n, _, _, _ => by
    rw [cnt_none (f := fun x => decide (upto [] x % 2 = 1)) fun x _ _ => rfl]
    rfl
  | [a], lo, n, _, h, _ => by cases h
  | a :: b :: r, lo, n, hs, hl, hw => by
    have h1 := List.pairwise_cons.mp hs
    have h2 := List.pairwise_cons.mp h1.2
    have hab := h1.1 b (List.mem_cons_self ..)
    have ih := alt_cnt r lo n h2.2 (by
      have : (a :: b :: r).length = r.length + 2 := rfl
      omega) fun x hx => hw x (List.mem_cons_of_mem _ (List.mem_cons_of_mem _ hx))
    have wa := hw a (List.mem_cons_self ..)
    have wb := hw b (List.mem_cons_of_mem _ (List.mem_cons_self ..))
    show _ = (b - a) + alt r
    rw [← ih, cnt_put (f := fun x => decide (upto r x % 2 = 1)) (g := fun x => decide (upto (a :: b :: r) x % 2 = 1)) (m := a) (e := b) wa.1 hab wb.2 (fun x p q => ?_) fun x hx => ?_]
    · omega
    · have z : upto r x = 0 := upto_none fun c hc => by
        have := h2.1 c hc
        omega
      rw [upto_cons, upto_cons, z, if_pos p, if_neg (by omega)]
      exact ⟨rfl, rfl⟩
    · show decide (upto (a :: b :: r) x % 2 = 1) = decide (upto r x % 2 = 1)
      refine decide_eq_decide.mpr ?_
      rw [upto_cons, upto_cons]
      rcases hx with hx | hx
      · rw [if_neg (by omega), if_neg (by omega)]
        omega
      · rw [if_pos hx, if_pos (by omega)]
        omega
theorem endsOf_len (L : List Iv) : (endsOf L).length = 2 * L.length := by
  induction L with
  | nil => rfl
  | cons p L ih =>
    show (p.1 :: p.2 :: endsOf L).length = _
    rw [List.length_cons, List.length_cons, ih, List.length_cons]
    omega
theorem odd_alt {L : List Iv} {s : List Int} (h : ∀ p ∈ L, p.1 < p.2) (hp : s.Perm (endsOf L)) (hs : s.Pairwise (· ≤ ·)) : OddOf L (alt s) := fun lo n w => by
  rw [← alt_cnt s lo n hs (by rw [hp.length_eq, endsOf_len]; omega) fun x hx => ?_]
  · congr 1
    refine cnt_congr fun x _ _ => ?_
    unfold odd
    rw [held_upto h, upto_perm hp]
  · obtain ⟨p, hpL, hxp⟩ := List.mem_flatMap.mp (hp.mem_iff.mp hx)
    have h1 := w p hpL
    have h2 := h p hpL
    rcases List.mem_cons.mp hxp with rfl | hxp
    · omega
    · rw [List.mem_singleton.mp hxp]
      omega
theorem alt_zip : ∀ s : List Int, s.length % 2 = 0 → (List.zipWith (fun a b => b - a) (ev s) (ev s.tail)).sum = alt s
  | [], _ => rfl
  | [a], h => by cases h
  | a :: b :: r, h => by
    have ih := alt_zip r (by
      have : (a :: b :: r).length = r.length + 2 := rfl
      omega)
    cases r with
    | nil => rfl
    | cons c r =>
      show (List.zipWith (fun a b => b - a) (a :: ev (c :: r)) (b :: ev r)).sum = (b - a) + alt (c :: r)
      rw [List.zipWith_cons_cons, List.sum_cons, ← ih]
      rfl
end SM

set_option linter.all false
set_option maxRecDepth 100000
set_option maxHeartbeats 4000000
/-! the values that stand an odd number of times -/
namespace SM
open RT
def tog (a : Int) (l : List Int) : List Int := if a ∈ l then l.erase a else a :: l
def odds : List Int → List Int
  | [] => []
  | a :: l => tog a (odds l)
theorem tog_nodup {a : Int} {l : List Int} (h : l.Nodup) : (tog a l).Nodup := by
  unfold tog
  by_cases q : a ∈ l
  · rw [if_pos q]
    exact h.erase a
  · rw [if_neg q]
    exact List.nodup_cons.mpr ⟨q, h⟩
theorem odds_nodup : ∀ l : List Int, (odds l).Nodup
  | [] => List.nodup_nil
  | a :: l => tog_nodup (odds_nodup l)
theorem mem_tog {a k : Int} {l : List Int} (h : l.Nodup) : k ∈ tog a l ↔ if k = a then ¬ a ∈ l else k ∈ l := by
  unfold tog
  by_cases q : a ∈ l
  · rw [if_pos q]
    by_cases e : k = a
    · subst e
      rw [if_pos rfl]
      exact ⟨fun z => absurd rfl ((List.Nodup.mem_erase_iff h).mp z).1, fun z => absurd q z⟩
    · rw [if_neg e]
      exact ⟨fun z => ((List.Nodup.mem_erase_iff h).mp z).2, fun z => (List.Nodup.mem_erase_iff h).mpr ⟨e, z⟩⟩
  · rw [if_neg q]
    by_cases e : k = a
    · subst e
      rw [if_pos rfl]
      exact ⟨fun _ => q, fun _ => List.mem_cons_self ..⟩
    · rw [if_neg e, List.mem_cons]
      exact ⟨fun z => z.resolve_left e, .inr⟩
theorem mem_odds (k : Int) : ∀ l : List Int, k ∈ odds l ↔ l.count k % 2 = 1
  | [] => by simp [odds]
  | a :: l => by
    have ih := mem_odds k l
    show k ∈ tog a (odds l) ↔ _
    rw [mem_tog (odds_nodup l)]
    by_cases e : k = a
    · subst e
      rw [if_pos rfl, ih, List.count_cons_self]
      omega
    · rw [if_neg e, ih, List.count_cons_of_ne (fun z => e z.symm)]
theorem upto_tog (a : Int) (l : List Int) (x : Int) : upto (tog a l) x % 2 = (upto l x + (if a ≤ x then 1 else 0)) % 2 := by
  unfold tog
  by_cases q : a ∈ l
  · rw [if_pos q, upto_perm (List.perm_cons_erase q) x, upto_cons]
    split <;> omega
  · rw [if_neg q, upto_cons]
theorem upto_odds (x : Int) : ∀ l : List Int, upto (odds l) x % 2 = upto l x % 2
  | [] => rfl
  | a :: l => by
    have ih := upto_odds x l
    show upto (tog a (odds l)) x % 2 = _
    rw [upto_tog, upto_cons]
    omega
theorem len_tog (a : Int) (l : List Int) : (tog a l).length % 2 = (l.length + 1) % 2 := by
  unfold tog
  by_cases q : a ∈ l
  · have h1 := List.length_erase_of_mem q
    have h2 := List.length_pos_of_mem q
    rw [if_pos q]
    omega
  · rw [if_neg q, List.length_cons]
theorem len_odds : ∀ l : List Int, (odds l).length % 2 = l.length % 2
  | [] => rfl
  | a :: l => by
    have ih := len_odds l
    show (tog a (odds l)).length % 2 = (l.length + 1) % 2
    rw [len_tog]
    omega
theorem len_tog_le (a : Int) (l : List Int) : (tog a l).length ≤ l.length + 1 := by
  unfold tog
  split
  · have := List.length_erase_le (a := a) (l := l)
    omega
  · exact Nat.le_refl _
theorem odds_le : ∀ l : List Int, (odds l).length ≤ l.length
  | [] => Nat.le_refl _
  | a :: l => Nat.le_trans (len_tog_le a _) (Nat.succ_le_succ (odds_le l))
/-- sorted values that stand an odd number of times among the ends: every second difference -/
theorem odd_alt2 {L : List Iv} {s : List Int} (h : ∀ p ∈ L, p.1 < p.2) (nd : s.Nodup) (hm : ∀ k, k ∈ s ↔ (endsOf L).count k % 2 = 1) (hs : s.Pairwise (· ≤ ·)) : OddOf L (alt s) ∧ s.length % 2 = 0 ∧ s.length ≤ 2 * L.length := by
  have perm : s.Perm (odds (endsOf L)) := (List.perm_ext_iff_of_nodup nd (odds_nodup _)).mpr fun k => (hm k).trans (mem_odds k _).symm
  have even : s.length % 2 = 0 := by
    rw [perm.length_eq, len_odds, endsOf_len]
    omega
  refine ⟨fun lo n w => ?_, even, ?_⟩
  · rw [← alt_cnt s lo n hs even fun x hx => ?_]
    · congr 1
      refine cnt_congr fun x _ _ => ?_
      unfold odd
      rw [held_upto h, upto_perm perm, upto_odds]
    · have hc : 0 < (endsOf L).count x := by
        have := (hm x).mp hx
        omega
      obtain ⟨p, hpL, hxp⟩ := List.mem_flatMap.mp (List.count_pos_iff.mp hc)
      have h1 := w p hpL
      have h2 := h p hpL
      rcases List.mem_cons.mp hxp with rfl | hxp
      · omega
      · rw [List.mem_singleton.mp hxp]
        omega
  · have h1 := odds_le (endsOf L)
    rw [endsOf_len] at h1
    rw [perm.length_eq]
    exact h1
end SM

set_option Elab.async false
set_option linter.all false
set_option maxRecDepth 100000
set_option maxHeartbeats 4000000
set_option exponentiation.threshold 600
namespace K29
open PySem PySem.Spec PyProof.Rows L2 RT TT PC
theorem dec_i (a b : Int) : decide (V.int a = V.int b) = decide (a = b) := by
  refine decide_eq_decide.mpr ⟨fun h => ?_, fun h => by rw [h]⟩
  injection h with h
theorem ite_t {c : Bool} {A B : Prop} (e : c = true) (h : A) : if c = true then A else B := by
  rw [e]
  exact iteT h
theorem ite_f {c : Bool} {A B : Prop} (e : c = false) (h : B) : if c = true then A else B := by
  rw [e]
  exact iteF h
theorem row_k {H : Hp} {a : Addr} {k : List Int} (h : Row H a k) : H a = some (.tup ((kI k).map kV)) := by
  rw [kI_V]
  exact h
/-- a list of rows at a -/
def Rws (K : PySem.W.Frag) (H : Hp) (a : Addr) (L : List (Addr × List Int)) : Prop := SqL K H a (L.map fun q => V.ref q.1) ∧ ∀ q ∈ L, Row H q.1 q.2
theorem Rws.same {K : PySem.W.Frag} {H H' : Hp} {a : Addr} {L : List (Addr × List Int)} (h : Rws K H a L) (e : Same H H') : Rws K H' a L := ⟨same_sql e h.1, fun q hq => e _ _ (h.2 q hq)⟩
theorem Rws.at {K : PySem.W.Frag} {H : Hp} {a : Addr} {L : List (Addr × List Int)} (h : Rws K H a L) {i : Nat} {x : V} (hx : (L.map fun q => V.ref q.1)[i]? = some x) : ∃ q, L[i]? = some q ∧ x = .ref q.1 ∧ Row H q.1 q.2 := by
  rw [List.getElem?_map] at hx
  obtain ⟨q, hq, rfl⟩ := Option.map_eq_some_iff.mp hx
  exact ⟨q, hq, rfl, h.2 q (List.mem_of_getElem? hq)⟩
theorem take_row {L : List (Addr × List Int)} {i : Nat} {q : Addr × List Int} (h : L[i]? = some q) : L.take (i + 1) = L.take i ++ [q] := by
  rw [List.take_succ, h]
  rfl
theorem size_lt {n m : Nat} (h : n ≤ m) (hm : m < 100000) : n < sizeLine := Nat.lt_of_lt_of_le (show n < 100001 by omega) (by decide)
theorem put_len {α : Type} [DecidableEq α] (M : List (α × V)) (k : α) (v : V) : (putK M k v).length ≤ M.length + 1 := by
  unfold putK
  split
  · rw [List.length_map]
    omega
  · rw [List.length_append]
    exact Nat.le_refl _
theorem dI_len (M : List (List Int × V)) : (dI M).length = M.length := List.length_map ..
section
variable {P : Program} {w : World} {K : PySem.W.Frag} {mg : Str → Option Value} {base : Heap}
def spTally (K : PySem.W.Frag) : Sp := fun vs H Q _ => ∃ (a : Addr) (L : List (Addr × List Int)), vs = [.ref a] ∧ Rws K H a L ∧ L.length ≤ 10000 ∧ ∀ d M H', Same H H' → H d = none → H' d = some (.dT (dI M)) → Tally M (L.map (·.2)) → Once M → M.length ≤ L.length → Q (.ref d) H'
theorem ok_tally (D : Ds K) (T : Tx K mg) : FnOk P w K mg base CX0 1 (dtally.adr K) D.fd_tally ["values"] (spTally K) := by
  refine D.F_tally.ok sctally (fun vs H Q E h => ?_) (fun cdv A outer s H vs Q E hr h => ?_)
  · obtain ⟨a, L, rfl, _⟩ := h
    rfl
  · obtain ⟨a, L, rfl, ss, hn, q⟩ := h
    have nd := sctally.nd
    refine ⟨_, PSs.nox (pss_cons (ps_set (i := 1) nd rfl (.inl rfl) pe_dnewT)
      (pss_cons (ps_for PassesOwn.never rfl (pi_list (pv 0)) (pg_name (i := 2) nd rfl (.inl rfl))
          (pss_one (ps_dput (hu_of hr) (pv 1) (pv 2) (pe_op op_add (pe_dget2 (hu_of hr) (pv 1) (pv 2) pe_int ⟨rfl, rfl, rfl, rfl⟩) pe_int) rfl)))
      (pss_one (ps_ret (pv 1))))), ?_⟩
    intro d hd
    have sD : ∀ {H' : Hp} {o : HO}, Same H H' → Same H (upd H' d o) := fun {H' o} s b u h => by
      rw [upd_ne (ne_of_none h hd)]
      exact s b u h
    refine ⟨_, rfl, a, rfl, ⟨_, same_sql (same_new hd) ss.1⟩, for_list (xs := L.map fun q => V.ref q.1) (fun i σ H' => ∃ (M : List (List Int × V)) (z2 : Option V), Same H H' ∧ H' d = some (.dT (dI M)) ∧ Tally M ((L.take i).map (·.2)) ∧ Once M ∧ M.length ≤ i ∧ σ = [some (.ref a), some (.ref d), z2])
      ⟨[], _, same_new hd, upd_same, tally_nil, List.nodup_nil, Nat.le_refl _, rfl⟩ (fun i σ H' hi hp' => ?_) (fun i x σ H' hx hp' => ?_) fun σ H' hp' => ?_⟩
    · obtain ⟨M, z2, sm, _⟩ := hp'
      exact same_sql sm ss.1
    · obtain ⟨M, z2, sm, ed, ht, ho, hlen, rfl⟩ := hp'
      obtain ⟨r, hr', rfl, er⟩ := (ss.same sm).at hx
      have hi' : i < L.length := (List.getElem?_eq_some_iff.mp hr').1
      have eg : (valV (dI M) (kI r.2)).getD (V.int 0) = V.int ((((L.take i).map (·.2)).count r.2 : Nat) : Int) := by rw [val_dI, tally_get ht]
      refine ⟨_, rfl, d, rfl, .inr ⟨_, .inl ed⟩, _, rfl, _, DGet.t ed (row_k er), ?_⟩
      rw [eg]
      refine ⟨_, _, rfl, rfl, _, rfl, _, rfl, d, _, rfl, DPut.t ed (row_k er) ?_, ?_⟩
      · rw [dI_len]
        exact size_lt (m := 10000) (by omega) (by decide)
      · refine ⟨putK M r.2 (.int ((((L.take i).map (·.2)).count r.2 : Nat) + 1 : Int)), _, sD sm, ?_, ?_, once_put ho, Nat.le_trans (put_len ..) (by omega), rfl⟩
        · rw [upd_same, put_dI]
        · rw [take_row hr', List.map_append]
          exact tally_next ht
    · obtain ⟨M, z2, sm, ed, ht, ho, hlen, rfl⟩ := hp'
      rw [List.length_map] at hlen
      rw [List.length_map, List.take_length] at ht
      exact ⟨_, rfl, q d M H' sm hd ed ht ho hlen⟩
abbrev NOd : List Str := Nodd_ones ++ [("value" : Str)]
theorem scOd : FnScope NOd ["values"] (defScope sodd_ones) := ⟨rfl, rfl, rfl, by decide +kernel, rfl, by decide +kernel, by decide +kernel⟩
/-- the rows that stand an odd number of times, ascending -/
def OddOf (vs R : List (List Int)) : Prop := Asc R ∧ ∀ k, k ∈ R ↔ vs.count k % 2 = 1
/-- a list of rows that is new -/
def NewRws (H' : Hp) (p : Addr) (L : List (Addr × List Int)) : Prop := H' p = some (.lst (L.map fun q => V.ref q.1)) ∧ ∀ q ∈ L, Row H' q.1 q.2
theorem NewRws.rws {K : PySem.W.Frag} {H' : Hp} {p : Addr} {L : List (Addr × List Int)} (h : NewRws H' p L) : Rws K H' p L := ⟨lstL h.1, h.2⟩
def spOdds (K : PySem.W.Frag) : Sp := fun vs H Q _ => ∃ (a : Addr) (L : List (Addr × List Int)) (n : Nat), vs = [.ref a] ∧ Rws K H a L ∧ L.length ≤ 10000 ∧ 1 ≤ n ∧ (∀ q ∈ L, q.2.length = n) ∧ ∀ (p : Addr) (L' : List (Addr × List Int)) (H' : Hp), Same H H' → H p = none → NewRws H' p L' → OddOf (L.map (·.2)) (L'.map (·.2)) → Q (.ref p) H'
theorem tally_len {M : List (List Int × V)} {vs : List (List Int)} {n : Nat} (h : Tally M vs) (hv : ∀ k ∈ vs, k.length = n) : ∀ p ∈ M, p.1.length = n := fun p hp => by
  have z := mem_keys.mp (List.mem_map.mpr ⟨p, hp, rfl⟩ : p.1 ∈ M.map (·.1))
  rw [h p.1] at z
  by_cases c : vs.count p.1 = 0
  · rw [if_pos c] at z
    cases z
  · exact hv _ (List.count_pos_iff.mp (by omega))
theorem ok_oddOnes (D : Ds K) (T : Tx K mg) : FnOk P w K mg base CX0 2 (dodd_ones.adr K) D.fd_odd_ones ["values"] (spOdds K) := by
  have G : FnOk P w K mg base CX0 1 _ _ _ (spTally K) := ok_tally D T
  refine D.F_odd_ones.ok scOd (fun vs H Q E h => ?_) (fun cdv A outer s H vs Q E hr h => ?_)
  · obtain ⟨a, L, n, rfl, _⟩ := h
    rfl
  · obtain ⟨a, L, n, rfl, ss, hn, n1, len, q⟩ := h
    have nd := scOd.nd
    refine ⟨_, PSs.nox (pss_cons (ps_set (i := 1) nd rfl (.inr rfl) (pe_call G hr (by rfl) T.g_tally D.F_tally.kp (b_tally D) .nil pass0 (pa_cons (pv 0) pa_nil)))
      (pss_one (ps_ret (pe_callB cr_sortR (by rfl) T.z_sorted (by decide +kernel) (pa_cons (pe_lock (pe_lc (own := [(("value" : Str), 2)]) (g := gName 2) (tt := tTest (tOp rEq (tOp (rI (fun _ j => 0 < j) fun i j => .int (i % j)) (tDGet (tVar 1) (tVar 2)) (tC (.int 2))) (tC (.int 1)))) (te := tVar 2) rfl nd (pi_keys (pv 1))
          (blkOk_by (own := [(("value" : Str), 2)]) (N := NOd) (sc := defScope sodd_ones) (by decide +kernel)) (fun _ _ _ _ _ => pg_name (i := 2) nd rfl (Or.inl rfl)) (fun _ _ _ _ _ => pts_one (pt_cmpR op_eq (pe_op op_mod (pe_dget (hu_of hr) (pv 1) (pv 2) (fun _ _ => rfl)) pe_int) pe_int (nomark _))) (fun _ _ _ _ _ => pv 2))) pa_nil))))), ?_⟩
    refine ⟨_, rfl, a, L, rfl, ss, hn, fun d M H1 s1 hd ed ht ho hlen => ?_⟩
    refine ⟨d, _, ed, trivial, fun od => ?_⟩
    have ef : upd H1 d (.frz od (.dT (dI M))) d = some (.frz od (.dT (dI M))) := upd_same
    refine ⟨_, rfl, d, od, rfl, .inr ⟨_, ef, fun D1 hD => ?_⟩⟩
    have dD : d ≠ D1 := ne_of_none ef hD
    have hD1 : H1 D1 = none := by rwa [upd_ne (Ne.symm dD)] at hD
    refine lc_it (walk_keysT (d := d) (o := od) (kvs := dI M)) (fun i H' => (∀ b o, b ≠ d → H1 b = some o → H' b = some o) ∧ H' d = some (.frz od (.dT (dI M))) ∧ ∃ L' : List (Addr × List Int), NewRws H' D1 L' ∧ L'.map (·.2) = ((M.take i).map (·.1)).filter fun k => decide ((L.map (·.2)).count k % 2 = 1))
      ⟨fun b o hb h => ?_, ?_, [], ⟨upd_same, fun _ z => nomatch z⟩, rfl⟩ (fun i H' hi p => p.2.1) (fun i x H2 H3 hi p y => ?_) fun H2 p => ?_
    · rw [upd_ne (ne_of_none h hD1), upd_ne hb]
      exact h
    · rw [upd_ne dD]
      exact ef
    · obtain ⟨kp, e1, L', nr, eL⟩ := p
      obtain ⟨rfl, k, v, c, hk, rfl, hc⟩ := y
      unfold dI at hk
      rw [List.getElem?_map] at hk
      obtain ⟨m, hm, e⟩ := Option.map_eq_some_iff.mp hk
      cases e
      have tk : (M.take (i + 1)).map (·.1) = (M.take i).map (·.1) ++ [m.1] := by rw [List.take_succ, hm, List.map_append]; rfl
      have hv := once_at ho hm
      have hcnt : m.2 = .int (((L.map (·.2)).count m.1 : Nat) : Int) := by
        have z := ht m.1
        rw [hv] at z
        by_cases c0 : (L.map (·.2)).count m.1 = 0
        · rw [if_pos c0] at z
          cases z
        · rw [if_neg c0] at z
          exact Option.some.inj z
      have hc' : Row H3 c m.1 := by
        rw [kI_V] at hc
        exact hc
      have llen : L'.length ≤ i := by
        have z : (L'.map (·.2)).length ≤ i := by
          rw [eL]
          refine Nat.le_trans (List.length_filter_le _ _) ?_
          rw [List.length_map, List.length_take]
          omega
        rwa [List.length_map] at z
      have hi' : i < M.length := (List.getElem?_eq_some_iff.mp hm).1
      refine ⟨rfl, _, rfl, _, rfl, d, _, rfl, .inr ⟨_, kI m.1, c, .inr ⟨od, e1⟩, rfl, hc, by rw [val_dI, hv]⟩, ?_⟩
      rw [hcnt]
      refine ⟨_, _, rfl, rfl, (by decide : (0 : Int) < 2), rfl, _, rfl, ?_⟩
      have ed2 : decide (V.int ((((L.map (·.2)).count m.1 : Nat) : Int) % 2) = V.int 1) = decide ((L.map (·.2)).count m.1 % 2 = 1) := by
        rw [dec_i]
        exact decide_eq_decide.mpr (by omega)
      rw [ed2]
      by_cases hcc : (L.map (·.2)).count m.1 % 2 = 1
      · refine ite_t (decide_eq_true hcc) ⟨_, rfl, _, nr.1, ?_, fun b o hb h => ?_, ?_, L' ++ [(c, m.1)], ⟨?_, fun r hr1 => ?_⟩, ?_⟩
        · rw [List.length_map]
          exact size_lt (m := 10000) (by omega) (by decide)
        · rw [upd_ne (ne_of_none h hD1)]
          exact kp b o hb h
        · rw [upd_ne dD]
          exact e1
        · rw [upd_same, List.map_append]
          rfl
        · have nD : ∀ {r : Addr × List Int}, Row H3 r.1 r.2 → r.1 ≠ D1 := fun {r} z y => by
            have z' : H3 r.1 = some (.tup (r.2.map V.int)) := z
            rw [y, nr.1] at z'
            cases z'
          have z : Row H3 r.1 r.2 := (List.mem_append.mp hr1).elim (fun z => nr.2 r z) fun z => by
            rw [List.mem_singleton.mp z]
            exact hc'
          show upd _ _ _ _ = _
          rw [upd_ne (nD z)]
          exact z
        · rw [List.map_append, eL, tk, List.filter_append]
          congr 1
          show [m.1] = [m.1].filter _
          rw [List.filter_cons, if_pos (decide_eq_true hcc)]
          rfl
      · refine ite_f (decide_eq_false hcc) ⟨kp, e1, L', nr, ?_⟩
        rw [eL, tk, List.filter_append]
        have : [m.1].filter (fun k => decide ((L.map (·.2)).count k % 2 = 1)) = [] := by
          rw [List.filter_cons, if_neg (by rw [decide_eq_true_eq]; exact hcc)]
          rfl
        rw [this, List.append_nil]
    · obtain ⟨kp, e1, L', nr, eL⟩ := p
      rw [dI_len, List.take_length] at eL
      have alive : ∀ {b : Addr} {o : HO}, b ≠ d → H2 b = some o → upd H2 d (.dT (dI M)) b = some o := fun {b o} hb h => by
        rw [upd_ne hb]
        exact h
      have memL : ∀ r ∈ L', r.2 ∈ M.map (·.1) ∧ (L.map (·.2)).count r.2 % 2 = 1 := fun r hr1 => by
        have z : r.2 ∈ L'.map (·.2) := List.mem_map.mpr ⟨r, hr1, rfl⟩
        rw [eL, List.mem_filter, decide_eq_true_eq] at z
        exact z
      have rows : ∀ r ∈ L', upd H2 d (.dT (dI M)) r.1 = some (.tup (r.2.map V.int)) := fun r hr1 => by
        have z := nr.2 r hr1
        refine alive (fun y => ?_) z
        have z' : H2 r.1 = some (.tup (r.2.map V.int)) := z
        rw [y, e1] at z'
        cases z'
      have vlen : ∀ k ∈ L.map (·.2), k.length = n := fun k hk => by
        obtain ⟨r, hr1, rfl⟩ := List.mem_map.mp hk
        exact len r hr1
      refine ⟨e1, D1, L', n, rfl, lstL (alive (Ne.symm dD) nr.1), n1, fun r hr1 => ⟨rows r hr1, ?_⟩, fun L2 p perm srt hp => ?_⟩
      · exact vlen _ (List.count_pos_iff.mp (by have := (memL r hr1).2; omega))
      · have sam : Same H (upd (upd H2 d (.dT (dI M))) p (.lst (L2.map fun q => V.ref q.1))) := fun b o h => by
          have h1 := s1 b o h
          have hbd : b ≠ d := ne_of_none h hd
          exact same_new hp b o (alive hbd (kp b o hbd h1))
        have hpH : H p = none := by
          cases c : H p with
          | none => rfl
          | some o =>
            have hbd : p ≠ d := ne_of_none c hd
            have z := alive hbd (kp p o hbd (s1 p o c))
            rw [hp] at z
            cases z
        refine q p L2 _ sam hpH ⟨upd_same, fun r hr1 => same_new hp _ _ (rows r (perm.mem_iff.mp hr1))⟩ ⟨asc_of srt ?_, fun k => ?_⟩
        · refine ((perm.map (·.2)).nodup_iff).mpr ?_
          rw [eL]
          exact List.Nodup.sublist (List.filter_sublist) ho
        · rw [(perm.map (·.2)).mem_iff, eL, List.mem_filter, decide_eq_true_eq]
          refine ⟨fun z => z.2, fun z => ⟨?_, z⟩⟩
          refine mem_keys.mpr ?_
          rw [ht k, if_neg (by omega)]
          rfl
end
end K29

set_option Elab.async false
set_option linter.all false
set_option maxRecDepth 100000
set_option maxHeartbeats 4000000
set_option exponentiation.threshold 600
namespace K29
open PySem PySem.Spec PyProof.Rows L2 RT TT PC
theorem kit_tu {K : PySem.W.Frag} : PySem.W.kitOne K (.type "tuple") (.type "tuple") = some true := kit_ty (by decide +kernel)
/-- a dict comprehension over a walk -/
theorem dcT_it {J : It} {n : Nat} {G : Hp → Prop} {Y : Nat → Hp → V → Hp → Prop} (w : Walk J n G Y) {g : TG} {tt : TT} {tk tv : TE} {vs : List Nat} {σ : L2.St} {H1 : Hp} {D : Addr} {Qd : Hp → Prop} (Pv : Nat → Hp → Prop) (h0 : Pv 0 (upd H1 D (.dT []))) (hG : ∀ i H, i ≤ n → Pv i H → G H)
    (hs : ∀ i x H H', i < n → Pv i H → Y i H x H' → g x (wipe σ vs) H' fun σ2 H2 => wipe σ2 vs = wipe σ vs ∧ tt σ2 H2 fun b H3 =>
      if b = true then tk σ2 H3 fun y H4 => tv σ2 H4 fun z H5 => ∃ kvs k c, y = .ref c ∧ H5 c = some (.tup (k.map kV)) ∧ H5 D = some (.dT kvs) ∧ kvs.length < sizeLine ∧ Pv (i + 1) (upd H5 D (.dT (putK kvs k z))) else Pv (i + 1) H3) (hd : ∀ H, Pv n H → Qd H) :
    ∃ W : Nat → Nat → Hp → Prop, (∃ m, W 0 m (upd H1 D (.dT []))) ∧ ∀ i m H, W i m H →
      (J.stop i H ∧ Qd H) ∨ (J.go i H ∧ ∃ Nx : Hp → Prop, (∀ H', Nx H' → ∃ m', m' < m ∧ W (i + 1) m' H') ∧ ∀ x H', J.yld i H x H' → g x (wipe σ vs) H' fun σ2 H2 => wipe σ2 vs = wipe σ vs ∧ tt σ2 H2 fun b H3 =>
        if b = true then tk σ2 H3 fun y H4 => tv σ2 H4 fun z H5 => ∃ kvs k c, y = .ref c ∧ H5 c = some (.tup (k.map kV)) ∧ H5 D = some (.dT kvs) ∧ kvs.length < sizeLine ∧ Nx (upd H5 D (.dT (putK kvs k z))) else Nx H3) := by
  refine ⟨fun i m H => m = n - i ∧ i ≤ n ∧ Pv i H, ⟨n, by simp, Nat.zero_le _, h0⟩, ?_⟩
  rintro i m H ⟨rfl, hi, p⟩
  have q := hG i H hi p
  by_cases hlt : i < n
  · refine .inr ⟨w.goes i H hlt q, Pv (i + 1), fun H' p' => ⟨n - (i + 1), by omega, rfl, hlt, p'⟩, fun x H' y => hs i x H H' hlt p (w.yields i H x H' hlt q y)⟩
  · have e : i = n := by omega
    subst e
    exact .inl ⟨w.stops H q, hd H p⟩
/-- edges, each once -/
def Edges (L : List (Addr × List Int)) : Prop := (∀ q ∈ L, EdgeR q.2) ∧ (L.map (·.2)).Nodup ∧ L.length ≤ 1228
/-- a Picture at a, its edges L ascending -/
def IsPic (K : PySem.W.Frag) (H : Hp) (a : Addr) (L : List (Addr × List Int)) : Prop := ∃ d t h M, H a = some (.ins (He.ga K "Picture") d [("_edges", .ref t), ("_has", .ref h)]) ∧ H t = some (.tup (L.map fun q => V.ref q.1)) ∧ (∀ q ∈ L, Row H q.1 q.2) ∧
  Asc (L.map (·.2)) ∧ Edges L ∧ H h = some (.dT (dI M)) ∧ ∀ k, (valV M k).isSome = true ↔ k ∈ L.map (·.2)
theorem IsPic.same {K : PySem.W.Frag} {H H' : Hp} {a : Addr} {L : List (Addr × List Int)} (p : IsPic K H a L) (e : Same H H') : IsPic K H' a L := by
  obtain ⟨d, t, h, M, h1, h2, h3, h4, h5, h6, h7⟩ := p
  exact ⟨d, t, h, M, e _ _ h1, e _ _ h2, fun q hq => e _ _ (h3 q hq), h4, h5, e _ _ h6, h7⟩
section
variable {P : Program} {w : World} {K : PySem.W.Frag} {mg : Str → Option Value} {base : Heap}
abbrev NCk : List Str := Ncheck_edges ++ [("edge" : Str)]
theorem scCk : FnScope NCk ["edges"] (defScope scheck_edges) := ⟨rfl, rfl, rfl, by decide +kernel, rfl, by decide +kernel, by decide +kernel⟩
def spCkEd (K : PySem.W.Frag) : Sp := fun vs H Q _ => ∃ (a : Addr) (L : List (Addr × List Int)), vs = [.ref a] ∧ Rws K H a L ∧ Edges L ∧ ∀ H', Same H H' → Q .non H'
theorem ok_cked (D : Ds K) (T : Tx K mg) : FnOk P w K mg base CX0 4 (dcheck_edges.adr K) D.fd_check_edges ["edges"] (spCkEd K) := by
  have G : FnOk P w K mg base CX0 3 _ _ _ spIsEdge := ok_isedge D T
  refine D.F_check_edges.ok scCk (fun vs H Q E h => ?_) (fun cdv A outer s H vs Q E hr h => ?_)
  · obtain ⟨a, L, rfl, _⟩ := h
    rfl
  · obtain ⟨a, L, rfl, ss, fine, q⟩ := h
    have nd := scCk.nd
    refine ⟨_, PSs.nox (pss_cons (ps_if (PW.pt (pw_or (pt_not (pt_val (pe_callB call_isiY (by rfl) T.z_isinstance (by decide +kernel) (pa_cons (pv 0) (pa_cons (pe_bltn (v := .ty "list") (by rfl) T.z_list (by decide +kernel) rfl) pa_nil)))))
      (pw_or1 (pt_not (pt_val (pe_callB (cr_all rfl) (by rfl) T.z_all (by decide +kernel) (pa_cons (pe_lc (own := [(("edge" : Str), 1)]) (g := gName 1) (tt := tYes) (te := tCall spIsEdge [] E0 (tCons (tVar 1) tNil)) rfl nd (pi_list (pv 0))
        (blkOk_by (own := [(("edge" : Str), 1)]) (N := NCk) (sc := defScope scheck_edges) (by decide +kernel)) (fun _ _ _ _ _ => pg_name (i := 1) nd rfl (Or.inl rfl)) (fun _ _ _ _ _ => pts_nil)
        (fun _ _ _ _ _ => pe_call G hr (by rfl) T.g_is_edge D.F_is_edge.kp (b_is_edge D) .nil pass0 (pa_cons (pv 1) pa_nil))) pa_nil))))))) (pss_one ps_never) pss_nil)
      (pss_one (ps_if (pt_cmpR op_lt (pe_callB cr_lenT (by rfl) T.z_len PySem.boot_len (pa_cons (pe_callTy (cr_setT rfl hr.units) (by rfl) T.z_set (by decide +kernel) (pa_cons (pv 0) pa_nil)) pa_nil)) (pe_callB call_len_seq (by rfl) T.z_len PySem.boot_len (pa_cons (pv 0) pa_nil)) (nomark _)) (pss_one ps_never) pss_nil))), ?_⟩
    refine ⟨_, rfl, _, .ty "list", _, _, true, rfl, .ty "list", ty_list ss.1, kit_ll, true, rfl, iteF ?_⟩
    refine ⟨_, rfl, a, rfl, ⟨_, ss.1⟩, fun D1 hD => ?_⟩
    refine lc_list (K := K) (a := a) (xs := L.map fun q => V.ref q.1) (fun n H' => Same H H' ∧ H' D1 = some (.lst ((List.replicate n true).map V.bl))) ⟨same_new hD, upd_same⟩ (fun n H' hi p => same_sql p.1 ss.1) (fun n x H' hx p => ?_) fun H' p => ?_
    · obtain ⟨s, eD⟩ := p
      obtain ⟨r, hr', rfl, er⟩ := (ss.same s).at hx
      have hn : n < L.length := (List.getElem?_eq_some_iff.mp hr').1
      refine ⟨rfl, _, rfl, r.1, r.2, rfl, er, fine.1 r (List.mem_of_getElem? hr'), fun H2 s2 => ?_⟩
      refine ⟨_, s2 _ _ eD, ?_, ?_, ?_⟩
      · rw [List.length_map, List.length_replicate]
        have h1 := fine.2.2
        exact size_lt (m := 1228) (by omega) (by decide)
      · intro b o h
        rw [upd_ne (ne_of_none h hD)]
        exact s2 _ _ (s _ _ h)
      · rw [upd_same, List.replicate_succ', List.map_append]
        rfl
    · obtain ⟨s, eD⟩ := p
      refine ⟨D1, _, rfl, lstL eD, true, by rw [show ∀ m, (List.replicate m true).all id = true from fun m => by simp [List.all_replicate]], iteF ?_⟩
      have s3 := ss.same s
      refine ⟨_, rfl, a, L, rfl, s3.1, fun p hp => tupT (s3.2 p hp), fine.2.2, fun b L2 hb h1 h2 h3 => ?_⟩
      have s4 := same_new (o := SetW P w b L2) hb
      refine ⟨b, L2, rfl, upd_same, _, rfl, a, _, rfl, .inl (same_sql s4 s3.1), _, _, rfl, rfl, ?_⟩
      have len : L2.length = L.length := by
        have pm : (L2.map (·.2)).Perm (L.map (·.2)) := (List.perm_ext_iff_of_nodup h3 fine.2.1).mpr fun k => ⟨fun hk => by
          obtain ⟨p, hp, rfl⟩ := List.mem_map.mp hk
          exact List.mem_map.mpr ⟨p, h1 p hp, rfl⟩, fun hk => by
          obtain ⟨p, hp, rfl⟩ := List.mem_map.mp hk
          exact h2 p hp⟩
        have z := pm.length_eq
        rwa [List.length_map, List.length_map] at z
      refine ⟨_, rfl, ?_⟩
      rw [List.length_map, len, decide_eq_false (Int.lt_irrefl _)]
      exact iteF (q _ (s.trans s4))
abbrev NIn : List Str := NPicture_init ++ [("edge" : Str)]
theorem scIn : FnScope NIn ["self", "edges"] (defScope sPicture_init) := ⟨rfl, rfl, rfl, by decide +kernel, rfl, by decide +kernel, by decide +kernel⟩
def spInit (K : PySem.W.Frag) : Sp := fun vs H Q _ => ∃ (a d e : Addr) (L : List (Addr × List Int)), vs = [.ref a, .ref e] ∧ H a = some (.ins (He.ga K "Picture") d []) ∧ Rws K H e L ∧ Edges L ∧
  ∀ H' L', (∀ b o, b ≠ a → H b = some o → H' b = some o) → IsPic K H' a L' → (L'.map (·.2)).Perm (L.map (·.2)) → Q .non H'
theorem ok_init (D : Ds K) (T : Tx K mg) : FnOk P w K mg base CX0 5 (dPicture_init.adr K) D.fd_Picture_init ["self", "edges"] (spInit K) := by
  have G : FnOk P w K mg base CX0 4 _ _ _ (spCkEd K) := ok_cked D T
  refine D.F_Picture_init.ok scIn (fun vs H Q E h => ?_) (fun cdv A outer s H vs Q E hr h => ?_)
  · obtain ⟨a, d, e, L, rfl, _⟩ := h
    rfl
  · obtain ⟨a, d, e, L, rfl, ea, ss, fine, q⟩ := h
    have nd := scIn.nd
    refine ⟨_, PSs.nox (pss_cons (ps_expr (pe_call G hr (by rfl) T.g_check_edges D.F_check_edges.kp (b_check_edges D) .nil pass0 (pa_cons (pv 1) pa_nil)))
      (pss_cons (ps_fld (pv 0) (pe_callTy call_tuple_of (by rfl) T.z_tuple (by decide +kernel) (pa_cons (pe_callB cr_sortR (by rfl) T.z_sorted (by decide +kernel) (pa_cons (pv 1) pa_nil)) pa_nil)) rfl)
      (pss_one (ps_fld (pv 0) (pe_dcT (own := [(("edge" : Str), 2)]) (g := gName 2) (tt := tYes) (tk := tVar 2) (tv := tC (.bl true)) rfl (hu_of hr) nd (pi_list (pv 1))
        (blkOk_by (own := [(("edge" : Str), 2)]) (N := NIn) (sc := defScope sPicture_init) (by decide +kernel)) (fun _ _ _ _ _ => pg_name (i := 2) nd rfl (Or.inl rfl)) (fun _ _ _ _ _ => pts_nil) (fun _ _ _ _ _ => pv 2) (fun _ _ _ _ _ => pe_bl)) rfl)))), ?_⟩
    refine ⟨_, rfl, e, L, rfl, ss, fine, fun H1 s1 => ?_⟩
    have ss1 := ss.same s1
    refine ⟨_, rfl, e, L, 3, rfl, ss1.1, by decide, fun p hp => ⟨ss1.2 p hp, (fine.1 p hp).len⟩, fun L2 p perm srt hp => ?_⟩
    have s2 := same_new (o := .lst (L2.map fun q => V.ref q.1)) hp
    refine ⟨p, _, rfl, .inl ⟨lstL upd_same, fun t ht => ?_⟩⟩
    have s3 := same_new (o := .tup (L2.map fun q => V.ref q.1)) ht
    have s13 := s1.trans (s2.trans s3)
    refine ⟨_, rfl, a, _, d, _, rfl, s13 _ _ ea, T.c_Picture, T.n_Picture__edges, by show 0 < 1000; decide, ?_⟩
    generalize eH : upd (upd H1 p (.lst (L2.map fun q => V.ref q.1))) t (.tup (L2.map fun q => V.ref q.1)) = H3 at *
    have et : H3 t = some (.tup (L2.map fun q => V.ref q.1)) := by
      rw [← eH]
      exact upd_same
    have ea3 := s13 _ _ ea
    have ss3 := ss1.same (s2.trans s3)
    have nta : t ≠ a := fun z => by
      rw [z, ea3] at et
      cases et
    obtain ⟨H4, e4⟩ : ∃ H4, upd H3 a (.ins (He.ga K "Picture") d [("_edges", .ref t)]) = H4 := ⟨_, rfl⟩
    have ea4 : H4 a = some (.ins (He.ga K "Picture") d [("_edges", .ref t)]) := by
      rw [← e4]
      exact upd_same
    have k4 : ∀ b o, b ≠ a → H3 b = some o → H4 b = some o := fun b o hb h => by
      rw [← e4, upd_ne hb]
      exact h
    have nin : ∀ {b : Addr} {o : HO}, H3 b = some o → (∀ d fs, o ≠ .ins (He.ga K "Picture") d fs) → b ≠ a := fun {b o} h n z => by
      rw [z, ea3] at h
      exact n _ _ (Option.some.inj h).symm
    have rowa : ∀ {b : Addr} {k : List Int}, Row H3 b k → Row H4 b k := fun {b k} h => k4 _ _ (nin (show H3 b = some (.tup (k.map V.int)) from h) fun _ _ z => nomatch z) h
    have ss4 : Rws K H4 e L := by
      refine ⟨?_, fun r hr1 => rowa (ss3.2 r hr1)⟩
      rcases ss3.1 with (h | ⟨o, h⟩) | h
      · exact .inl (.inl (k4 _ _ (nin h fun _ _ z => nomatch z) h))
      · exact .inl (.inr ⟨o, k4 _ _ (nin h fun _ _ z => nomatch z) h⟩)
      · exact .inr h
    rw [show putF ("_edges" : Str) (V.ref t) [] = ([("_edges", V.ref t)] : List (Str × V)) from rfl, e4]
    refine ⟨_, rfl, e, rfl, ⟨_, ss4.1⟩, fun h hh => ?_⟩
    refine dcT_it (walk_list (K := K) (a := e) (xs := L.map fun q => V.ref q.1)) (fun i H' => Same H4 H' ∧ ∃ M, H' h = some (.dT (dI M)) ∧ (∀ k, (valV M k).isSome = true ↔ k ∈ (L.take i).map (·.2)) ∧ M.length ≤ i)
      ⟨same_new hh, [], upd_same, fun k => ⟨fun z => (by cases z), fun z => (by cases z)⟩, Nat.le_refl _⟩ (fun i H' hi p => same_sql p.1 ss4.1) (fun i x H5 H6 hi p y => ?_) fun H5 p => ?_
    · obtain ⟨sm, M, em, hm, lm⟩ := p
      obtain ⟨rfl, hx⟩ := y
      obtain ⟨r, hr', rfl, er⟩ := (ss4.same sm).at hx
      have h1 := fine.2.2
      have hi' : i < L.length := (List.getElem?_eq_some_iff.mp hr').1
      refine ⟨rfl, _, rfl, _, kI r.2, _, rfl, row_k er, em, ?_, fun b o hb => ?_, putK M r.2 (.bl true), ?_, fun k => ?_, Nat.le_trans (put_len ..) (by omega)⟩
      · rw [dI_len]
        exact size_lt (m := 1228) (by omega) (by decide)
      · rw [upd_ne (ne_of_none hb hh)]
        exact sm _ _ hb
      · rw [upd_same, put_dI]
      · rw [valV_put, take_row hr', List.map_append, List.mem_append]
        by_cases ek : k = r.2
        · rw [if_pos ek]
          exact ⟨fun _ => .inr (by rw [ek]; exact List.mem_singleton.mpr rfl), fun _ => rfl⟩
        · rw [if_neg ek, hm k]
          exact ⟨.inl, fun z => z.elim id fun y => absurd (List.mem_singleton.mp y) ek⟩
    · obtain ⟨sm, M, em, hm, lm⟩ := p
      rw [List.length_map, List.take_length] at hm
      have ea5 := sm _ _ ea4
      refine ⟨_, rfl, a, _, d, _, rfl, ea5, T.c_Picture, T.n_Picture__has, by show 1 < 1000; decide, ?_⟩
      have nh : h ≠ a := fun z => by
        rw [z, ea5] at em
        cases em
      refine q _ L2 (fun b o hb h0 => ?_) ⟨d, t, h, M, upd_same, ?_, fun r hr1 => ?_, asc_of srt ((perm.map (·.2)).nodup_iff.mpr fine.2.1), ⟨fun r hr1 => fine.1 r (perm.mem_iff.mp hr1), (perm.map (·.2)).nodup_iff.mpr fine.2.1, by rw [perm.length_eq]; exact fine.2.2⟩, ?_, fun k => ?_⟩ (perm.map (·.2))
      · rw [upd_ne hb]
        exact sm _ _ (k4 _ _ hb (s13 _ _ h0))
      · rw [upd_ne nta]
        exact sm _ _ (k4 _ _ nta et)
      · have z : Row H5 r.1 r.2 := sm _ _ (rowa (ss3.2 r (perm.mem_iff.mp hr1)))
        show upd _ _ _ _ = _
        rw [upd_ne (fun y => ?_)]
        · exact z
        · have z' : H5 r.1 = some (.tup (r.2.map V.int)) := z
          rw [y, ea5] at z'
          cases z'
      · rw [upd_ne nh]
        exact em
      · rw [hm k, (perm.map (·.2)).mem_iff]
/-- Picture(..) -/
theorem make_p {K : PySem.W.Frag} {H : Hp} {e : Addr} {L : List (Addr × List Int)} {Q : VK} {E : XK} (hL : Rws K H e L) (fine : Edges L) (q : ∀ a H' L', Same H H' → H a = none → IsPic K H' a L' → (L'.map (·.2)).Perm (L.map (·.2)) → Q (.ref a) H') :
    ∀ x dx', H x = none → H dx' = none → dx' ≠ x → spInit K (.ref x :: ([.ref e] ++ [])) (upd (upd H dx' (.own x)) x (.ins (He.ga K "Picture") dx' [])) (fun v H2 => v = .non ∧ Q (.ref x) H2) E := fun x d hx hd hne => by
  have up : Same H (upd (upd H d (.own x)) x (.ins (He.ga K "Picture") d [])) := fun b o e => by
    rw [upd_ne (ne_of_none e hx), upd_ne (ne_of_none e hd)]
    exact e
  exact ⟨x, d, e, L, rfl, upd_same, hL.same up, fine, fun H' L' k m pm => ⟨rfl, q x H' L' (fun b o e => k b o (ne_of_none e hx) (up _ _ e)) hx m pm⟩⟩
end
end K29

set_option Elab.async false
set_option linter.all false
set_option maxRecDepth 100000
set_option maxHeartbeats 4000000
set_option exponentiation.threshold 600
namespace K29
open PySem PySem.Spec PyProof.Rows L2 RT TT PC
/-- any body over a walk -/
theorem walk_it {J : It} {n : Nat} {G : Hp → Prop} {Y : Nat → Hp → V → Hp → Prop} (w : Walk J n G Y) {Bd : V → Hp → (Hp → Prop) → Prop} {H0 : Hp} {Qd : Hp → Prop} (Pv : Nat → Hp → Prop) (h0 : Pv 0 H0) (hG : ∀ i H, i ≤ n → Pv i H → G H)
    (hs : ∀ i x H H', i < n → Pv i H → Y i H x H' → Bd x H' (Pv (i + 1))) (hd : ∀ H, Pv n H → Qd H) :
    ∃ W : Nat → Nat → Hp → Prop, (∃ m, W 0 m H0) ∧ ∀ i m H, W i m H → (J.stop i H ∧ Qd H) ∨ (J.go i H ∧ ∃ Nx : Hp → Prop, (∀ H', Nx H' → ∃ m', m' < m ∧ W (i + 1) m' H') ∧ ∀ x H', J.yld i H x H' → Bd x H' Nx) := by
  refine ⟨fun i m H => m = n - i ∧ i ≤ n ∧ Pv i H, ⟨n, by simp, Nat.zero_le _, h0⟩, ?_⟩
  rintro i m H ⟨rfl, hi, p⟩
  have q := hG i H hi p
  by_cases hlt : i < n
  · refine .inr ⟨w.goes i H hlt q, Pv (i + 1), fun H' p' => ⟨n - (i + 1), by omega, rfl, hlt, p'⟩, fun x H' y => hs i x H H' hlt p (w.yields i H x H' hlt q y)⟩
  · have e : i = n := by omega
    subst e
    exact .inl ⟨w.stops H q, hd H p⟩
section
variable {P : Program} {w : World} {K : PySem.W.Frag} {mg : Str → Option Value} {base : Heap}
def spEdges (K : PySem.W.Frag) : Sp := fun vs H Q _ => ∃ (a : Addr) (L : List (Addr × List Int)), vs = [.ref a] ∧ IsPic K H a L ∧ ∀ t, H t = some (.tup (L.map fun q => V.ref q.1)) → Q (.ref t) H
theorem ok_edges (D : Ds K) (T : Tx K mg) : FnOk P w K mg base CX0 1 (dPicture_edges.adr K) D.fd_Picture_edges ["self"] (spEdges K) := by
  refine D.F_Picture_edges.ok scPicture_edges (fun vs H Q E h => ?_) (fun cdv A outer s H vs Q E hr h => ?_)
  · obtain ⟨a, L, rfl, _⟩ := h
    rfl
  · obtain ⟨a, L, rfl, ⟨d, t, h, M, h1, h2, h3, _⟩, q⟩ := h
    refine ⟨_, PSs.nox (pss_one (ps_ret (pe_fld (pv 0) rfl))), ?_⟩
    exact ⟨_, rfl, a, _, d, _, _, rfl, h1, T.c_Picture, T.n_Picture__edges, rfl, q t h2⟩
def spCon (K : PySem.W.Frag) : Sp := fun vs H Q _ => ∃ (a b : Addr) (L : List (Addr × List Int)) (k : List Int), vs = [.ref a, .ref b] ∧ IsPic K H a L ∧ Row H b k ∧ EdgeR k ∧ ∀ H', Same H H' → Q (.bl (decide (k ∈ L.map (·.2)))) H'
theorem ok_con (D : Ds K) (T : Tx K mg) : FnOk P w K mg base CX0 4 (dPicture_contains.adr K) D.fd_Picture_contains ["self", "x"] (spCon K) := by
  have G : FnOk P w K mg base CX0 3 _ _ _ spIsEdge := ok_isedge D T
  refine D.F_Picture_contains.ok scPicture_contains (fun vs H Q E h => ?_) (fun cdv A outer s H vs Q E hr h => ?_)
  · obtain ⟨a, b, L, k, rfl, _⟩ := h
    rfl
  · obtain ⟨a, b, L, k, rfl, hp, hb, he, q⟩ := h
    refine ⟨_, PSs.nox (pss_one (ps_ret (pe_and (pe_call G hr (by rfl) T.g_is_edge D.F_is_edge.kp (b_is_edge D) .nil pass0 (pa_cons (pv 1) pa_nil)) (pe_one (pe_cmp (pc_din (hu_of hr) (pv 1) (pe_fld (pv 0) rfl))))))), ?_⟩
    refine ⟨_, rfl, b, k, rfl, hb, he, fun H1 s1 => ⟨true, rfl, iteT ?_⟩⟩
    obtain ⟨d, t, h, M, h1, h2, h3, h4, h5, h6, h7⟩ := hp.same s1
    refine ⟨_, rfl, _, rfl, a, _, d, _, _, rfl, h1, T.c_Picture, T.n_Picture__has, rfl, h, _, rfl, DGet.t h6 (row_k (s1 _ _ hb)), ?_⟩
    have e : (valV (dI M) (kI k)).isSome = decide (k ∈ L.map (·.2)) := by
      rw [val_dI, Bool.eq_iff_iff, decide_eq_true_eq]
      exact h7 k
    rw [e]
    exact q H1 s1
def spCkPic (K : PySem.W.Frag) : Sp := fun vs H Q _ => ∃ (a : Addr) (L : List (Addr × List Int)), vs = [.ref a] ∧ IsPic K H a L ∧ Q .non H
theorem ok_ckpic (D : Ds K) (T : Tx K mg) : FnOk P w K mg base CX0 1 (dcheck_picture.adr K) D.fd_check_picture ["picture"] (spCkPic K) := by
  refine D.F_check_picture.ok sccheck_picture (fun vs H Q E h => ?_) (fun cdv A outer s H vs Q E hr h => ?_)
  · obtain ⟨a, L, rfl, _⟩ := h
    rfl
  · obtain ⟨a, L, rfl, ⟨d, t, h, M, ea, _⟩, q⟩ := h
    refine ⟨_, PSs.nox (pss_one (ps_if (pt_not (pt_val (pe_callB call_isiY (by rfl) T.z_isinstance (by decide +kernel) (pa_cons (pv 0) (pa_cons (pe_glob (v := .ref (He.ga K "Picture")) rfl T.g_Picture rfl) pa_nil))))) (pss_one ps_never) pss_nil)), ?_⟩
    exact ⟨_, rfl, _, .ref (He.ga K "Picture"), _, _, true, rfl, .own _, .base (.base (.ins ea T.c_Picture T.i_Picture.ha T.i_Picture.hn T.i_Picture.ht T.i_Picture.hm)), T.t_Picture, true, rfl, iteF q⟩
abbrev NDg : List Str := Ndegree_at ++ [("edge" : Str)]
theorem scDg : FnScope NDg ["picture", "point"] (defScope sdegree_at) := ⟨rfl, rfl, rfl, by decide +kernel, rfl, by decide +kernel, by decide +kernel⟩
def spDeg (K : PySem.W.Frag) : Sp := fun vs H Q _ => ∃ (a b : Addr) (L : List (Addr × List Int)) (x y : Int), vs = [.ref a, .ref b] ∧ IsPic K H a L ∧ Row H b [x, y] ∧ ∀ H', Same H H' → Q (.int ((endsAll (L.map (·.2))).count [x, y] : Nat)) H'
theorem ok_degree (D : Ds K) (T : Tx K mg) : FnOk P w K mg base CX0 5 (ddegree_at.adr K) D.fd_degree_at ["picture", "point"] (spDeg K) := by
  have G1 : FnOk P w K mg base CX0 1 _ _ _ (spCkPic K) := ok_ckpic D T
  have G2 : FnOk P w K mg base CX0 3 _ _ _ spCkPt := ok_ckpt D T
  have G3 : FnOk P w K mg base CX0 4 _ _ _ (spCon K) := ok_con D T
  refine D.F_degree_at.ok scDg (fun vs H Q E h => ?_) (fun cdv A outer s H vs Q E hr h => ?_)
  · obtain ⟨a, b, L, x, y, rfl, _⟩ := h
    rfl
  · obtain ⟨a, b, L, x, y, rfl, hp, hb, q⟩ := h
    have nd := scDg.nd
    refine ⟨_, PSs.nox (pss_cons (ps_expr (pe_call G1 (hr.mono (by decide)) (by rfl) T.g_check_picture D.F_check_picture.kp (b_check_picture D) .nil pass0 (pa_cons (pv 0) pa_nil)))
      (pss_cons (ps_expr (pe_call G2 (hr.mono (by decide)) (by rfl) T.g_check_point D.F_check_point.kp (b_check_point D) .nil pass0 (pa_cons (pv 1) pa_nil)))
      (pss_cons (ps_asg (pv 1) (pg_tup (by rfl) (pgs_cons (pg_name (i := 2) nd rfl (.inl rfl)) (pgs_cons (pg_name (i := 3) nd rfl (.inl rfl)) pgs_nil))))
      (pss_cons (ps_set (i := 4) nd rfl (.inl rfl) (pe_lst (pa_cons (pe_tup (pa_cons (pv 2) (pa_cons (pv 3) (pa_cons pe_int pa_nil)))) (pa_cons (pe_tup (pa_cons (pv 2) (pa_cons (pv 3) (pa_cons pe_int pa_nil))))
          (pa_cons (pe_tup (pa_cons (pe_op op_sub (pv 2) pe_int) (pa_cons (pv 3) (pa_cons pe_int pa_nil)))) (pa_cons (pe_tup (pa_cons (pv 2) (pa_cons (pe_op op_sub (pv 3) pe_int) (pa_cons pe_int pa_nil)))) pa_nil))))))
      (pss_one (ps_ret (pe_callB call_len_seq (by rfl) T.z_len PySem.boot_len (pa_cons
        (pe_lc (own := [(("edge" : Str), 5)]) (g := gName 5) (te := tVar 5) rfl nd (pi_list (pv 4)) (blkOk_by (own := [(("edge" : Str), 5)]) (N := NDg) (sc := defScope sdegree_at) (by decide +kernel))
          (fun _ _ _ _ _ => pg_name (i := 5) nd rfl (Or.inl rfl)) (fun _ _ _ _ _ => pts_one (pt_cmpR (op_inO T.m_Picture_contains G3 hr (b_Picture_contains D) pass0) (pv 5) (pv 0) rfl)) (fun _ _ _ _ _ => pv 5)) pa_nil)))))))), ?_⟩
    refine ⟨_, rfl, a, L, rfl, hp, ?_⟩
    refine ⟨_, rfl, b, x, y, rfl, hb, ?_⟩
    refine ⟨_, rfl, b, _, rfl, tupT hb, rfl, _, _, rfl, _, _, rfl, rfl, ?_⟩
    refine ⟨_, rfl, _, rfl, big3, fun p1 hp1 => ⟨_, rfl, _, rfl, big3, fun p2 hp2 => ?_⟩⟩
    refine ⟨_, rfl, _, _, rfl, rfl, _, rfl, big3, fun p3 hp3 => ?_⟩
    refine ⟨_, rfl, _, rfl, _, _, rfl, rfl, big3, fun p4 hp4 => ?_⟩
    refine ⟨by show 4 ≤ sizeLine; decide, fun n hn => ?_⟩
    have s1 := same_new (o := .tup [.int x, .int y, .int 0]) hp1
    have s2 := same_new (o := .tup [.int x, .int y, .int 1]) hp2
    have s3 := same_new (o := .tup [.int (x - 1), .int y, .int 0]) hp3
    have s4 := same_new (o := .tup [.int x, .int (y - 1), .int 1]) hp4
    have s5 := same_new (o := .lst [.ref p1, .ref p2, .ref p3, .ref p4]) hn
    generalize e6 : upd (upd (upd (upd (upd H p1 (.tup [.int x, .int y, .int 0])) p2 (.tup [.int x, .int y, .int 1])) p3 (.tup [.int (x - 1), .int y, .int 0])) p4 (.tup [.int x, .int (y - 1), .int 1])) n (.lst [.ref p1, .ref p2, .ref p3, .ref p4]) = H6 at *
    have s06 := s1.trans (s2.trans (s3.trans (s4.trans s5)))
    have hL : Rws K H6 n [(p1, [x, y, 0]), (p2, [x, y, 1]), (p3, [x - 1, y, 0]), (p4, [x, y - 1, 1])] := by
      refine ⟨lstL ?_, fun r hr1 => ?_⟩
      · rw [← e6]
        exact upd_same
      · simp only [List.mem_cons, List.not_mem_nil, or_false] at hr1
        rcases hr1 with rfl | rfl | rfl | rfl
        · exact s5 _ _ (s4 _ _ (s3 _ _ (s2 _ _ upd_same)))
        · exact s5 _ _ (s4 _ _ (s3 _ _ upd_same))
        · exact s5 _ _ (s4 _ _ upd_same)
        · exact s5 _ _ upd_same
    have hE : ∀ r ∈ [(p1, [x, y, (0 : Int)]), (p2, [x, y, 1]), (p3, [x - 1, y, 0]), (p4, [x, y - 1, 1])], EdgeR r.2 := fun r hr1 => by
      simp only [List.mem_cons, List.not_mem_nil, or_false] at hr1
      rcases hr1 with rfl | rfl | rfl | rfl
      · exact ⟨_, _, _, rfl, .inl rfl⟩
      · exact ⟨_, _, _, rfl, .inr rfl⟩
      · exact ⟨_, _, _, rfl, .inl rfl⟩
      · exact ⟨_, _, _, rfl, .inr rfl⟩
    have hN : [(p1, [x, y, (0 : Int)]), (p2, [x, y, 1]), (p3, [x - 1, y, 0]), (p4, [x, y - 1, 1])].map (·.2) = nearR x y := rfl
    generalize [(p1, [x, y, (0 : Int)]), (p2, [x, y, 1]), (p3, [x - 1, y, 0]), (p4, [x, y - 1, 1])] = L4 at hL hE hN
    have n4 : L4.length = 4 := by
      have z := congrArg List.length hN
      rwa [List.length_map] at z
    refine ⟨_, rfl, n, rfl, ⟨_, hL.1⟩, fun D1 hD => lc_it (walk_list (K := K) (a := n) (xs := L4.map fun q => V.ref q.1)) (fun i H' => Same H6 H' ∧ ∃ ys, H' D1 = some (.lst ys) ∧ ys.length = (((L4.take i).map (·.2)).filter fun e => decide (e ∈ L.map (·.2))).length)
      ⟨same_new hD, [], upd_same, rfl⟩ (fun i H' hi p => same_sql p.1 hL.1) (fun i v H7 H8 hi p y8 => ?_) fun H7 p => ?_⟩
    · obtain ⟨sm, ys, ey, ly⟩ := p
      obtain ⟨rfl, hx⟩ := y8
      obtain ⟨r, hr', rfl, er⟩ := (hL.same sm).at hx
      have hi' : i < L4.length := (List.getElem?_eq_some_iff.mp hr').1
      have mr := List.mem_of_getElem? hr'
      have ly2 : ys.length ≤ i := by
        rw [ly]
        refine Nat.le_trans (List.length_filter_le _ _) ?_
        rw [List.length_map, List.length_take]
        omega
      obtain ⟨pd, pt, ph, pM, pea, _⟩ := id (hp.same (s06.trans sm))
      refine ⟨rfl, _, rfl, _, rfl, a, pd, _, rfl, pea, a, r.1, L, r.2, rfl, hp.same (s06.trans sm), er, hE r mr, fun H9 s9 => ⟨_, rfl, _, rfl, ?_⟩⟩
      have tk : ((L4.take (i + 1)).map (·.2)).filter (fun e => decide (e ∈ L.map (·.2))) = ((L4.take i).map (·.2)).filter (fun e => decide (e ∈ L.map (·.2))) ++ [r.2].filter fun e => decide (e ∈ L.map (·.2)) := by
        rw [take_row hr', List.map_append, List.filter_append]
        rfl
      by_cases c : r.2 ∈ L.map (·.2)
      · refine ite_t (decide_eq_true c) ⟨_, rfl, _, s9 _ _ ey, size_lt (m := 4) (by omega) (by decide), fun b o hb0 => ?_, _, upd_same, ?_⟩
        · rw [upd_ne (ne_of_none hb0 hD)]
          exact s9 _ _ (sm _ _ hb0)
        · rw [tk, List.length_append, List.length_append, ly, List.filter_cons, if_pos (decide_eq_true c)]
          rfl
      · refine ite_f (decide_eq_false c) ⟨sm.trans s9, ys, s9 _ _ ey, ?_⟩
        rw [tk, ly, List.filter_cons, if_neg (by rw [decide_eq_true_eq]; exact c), List.filter_nil, List.append_nil]
    · obtain ⟨sm, ys, ey, ly⟩ := p
      rw [List.length_map, List.take_length, hN] at ly
      refine ⟨D1, _, rfl, .inl (lstL ey), ?_⟩
      obtain ⟨pd, pt, ph, pM, _, _, _, pasc, pfine, _⟩ := hp
      rw [ly, ← degree_near (fun e he => by
        obtain ⟨r, hr1, rfl⟩ := List.mem_map.mp he
        exact pfine.1 r hr1) pfine.2.1 x y]
      exact q _ (s06.trans sm)
abbrev NOp : List Str := Nodd_points ++ [("edge" : Str), ("point" : Str)]
theorem scOp : FnScope NOp ["picture"] (defScope sodd_points) := ⟨rfl, rfl, rfl, by decide +kernel, rfl, by decide +kernel, by decide +kernel⟩
def spOddP (K : PySem.W.Frag) : Sp := fun vs H Q _ => ∃ (a : Addr) (L : List (Addr × List Int)), vs = [.ref a] ∧ IsPic K H a L ∧ ∀ (p : Addr) (L' : List (Addr × List Int)) (H' : Hp), Same H H' → H p = none → NewRws H' p L' → OddOf (endsAll (L.map (·.2))) (L'.map (·.2)) → Q (.ref p) H'
theorem ok_oddp (D : Ds K) (T : Tx K mg) : FnOk P w K mg base CX0 3 (dodd_points.adr K) D.fd_odd_points ["picture"] (spOddP K) := by
  have G1 : FnOk P w K mg base CX0 1 _ _ _ (spCkPic K) := ok_ckpic D T
  have G2 : FnOk P w K mg base CX0 1 _ _ _ spEnds := ok_ends D T
  have G3 : FnOk P w K mg base CX0 2 _ _ _ (spOdds K) := ok_oddOnes D T
  have G4 : FnOk P w K mg base CX0 1 _ _ _ (spEdges K) := ok_edges D T
  refine D.F_odd_points.ok scOp (fun vs H Q E h => ?_) (fun cdv A outer s H vs Q E hr h => ?_)
  · obtain ⟨a, L, rfl, _⟩ := h
    rfl
  · obtain ⟨a, L, rfl, hp, q⟩ := h
    have nd := scOp.nd
    refine ⟨_, PSs.nox (pss_cons (ps_expr (pe_call G1 (hr.mono (by decide)) (by rfl) T.g_check_picture D.F_check_picture.kp (b_check_picture D) .nil pass0 (pa_cons (pv 0) pa_nil)))
      (pss_one (ps_ret (pe_call G3 hr (by rfl) T.g_odd_ones D.F_odd_ones.kp (b_odd_ones D) .nil pass0 (pa_cons
        (pe_lc2 (own := [(("edge" : Str), 1), (("point" : Str), 2)]) (vs1 := [2]) (g := gName 1) (tt := tYes) (wi1 := iTup K (tCall spEnds [] E0 (tCons (tVar 1) tNil))) (g1 := gName 2) (tt1 := tYes) (te := tVar 2) rfl nd (pi_tup (pe_prop (pv 0) T.c_Picture T.p_Picture_edges G4 (hr.mono (by decide)) (b_Picture_edges D) .nil pass0 rfl))
            (blkOk_by (own := [(("edge" : Str), 1), (("point" : Str), 2)]) (N := NOp) (sc := defScope sodd_points) (by decide +kernel)) (by decide) (fun _ _ _ _ _ => pg_name (i := 1) nd rfl (Or.inl rfl)) (fun _ _ _ _ _ => pts_nil)
            (fun _ _ _ _ _ => pi_tup (pe_call G2 (hr.mono (by decide)) (by rfl) T.g_ends_of_edge D.F_ends_of_edge.kp (b_ends_of_edge D) .nil pass0 (pa_cons (pv 1) pa_nil))) (fun _ _ _ _ _ => pg_name (i := 2) nd rfl (Or.inl rfl)) (fun _ _ _ _ _ => pts_nil) (fun _ _ _ _ _ => pv 2)) pa_nil))))), ?_⟩
    refine ⟨_, rfl, a, L, rfl, hp, ?_⟩
    obtain ⟨pd, pt, ph, pM, pea, pt1, prow, pasc, pfine, _⟩ := id hp
    refine ⟨_, rfl, a, pd, _, rfl, pea, a, L, rfl, hp, fun t ht => ?_⟩
    refine ⟨t, rfl, ⟨_, tupT ht⟩, fun D1 hD => ?_⟩
    have len := pfine.2.2
    refine walk_it (walk_tup (K := K) (a := t) (xs := L.map fun q => V.ref q.1)) (fun i H' => Same H H' ∧ ∃ Ls, NewRws H' D1 Ls ∧ Ls.map (·.2) = endsAll ((L.take i).map (·.2)))
      ⟨same_new hD, [], ⟨upd_same, fun _ z => nomatch z⟩, rfl⟩ (fun i H' hi p => tupT (p.1 _ _ ht)) (fun i v H7 H8 hi p y8 => ?_) fun H7 p => ?_
    · obtain ⟨sm, Ls, nr, eL⟩ := p
      obtain ⟨rfl, hx⟩ := y8
      rw [List.getElem?_map] at hx
      obtain ⟨r, hr', rfl⟩ := Option.map_eq_some_iff.mp hx
      have hi' : i < L.length := (List.getElem?_eq_some_iff.mp hr').1
      have mr := List.mem_of_getElem? hr'
      have er := sm _ _ (prow r mr)
      refine ⟨rfl, _, rfl, r.1, r.2, rfl, er, pfine.1 r mr, fun H9 u p1 p2 k1 k2 s9 eu ek e1 e2 => ?_⟩
      refine ⟨u, rfl, ⟨_, tupT eu⟩, ?_⟩
      have nr9 : NewRws H9 D1 Ls := ⟨s9 _ _ nr.1, fun r' hr1 => s9 _ _ (nr.2 r' hr1)⟩
      have tk : endsAll ((L.take (i + 1)).map (·.2)) = endsAll ((L.take i).map (·.2)) ++ [k1, k2] := by
        rw [take_row hr', List.map_append]
        unfold endsAll
        rw [List.flatMap_append]
        show _ ++ (endsR r.2 ++ []) = _
        rw [ek]
        rfl
      have lens : Ls.length = 2 * i := by
        have z := congrArg List.length eL
        rw [List.length_map, endsAll_len (fun e he => by
          obtain ⟨r', hr1, rfl⟩ := List.mem_map.mp he
          exact pfine.1 r' (List.mem_of_mem_take hr1)), List.length_map, List.length_take] at z
        omega
      have HP : Row H9 p1 k1 ∧ Row H9 p2 k2 := ⟨e1, e2⟩
      have s79 : Same H H9 := sm.trans s9
      clear e1 e2 s9 nr
      refine walk_it (walk_tup (K := K) (a := u) (xs := [V.ref p1, V.ref p2])) (fun j H' => Same H H' ∧ H' u = some (.tup [.ref p1, .ref p2]) ∧ (Row H' p1 k1 ∧ Row H' p2 k2) ∧ ∃ Ls', NewRws H' D1 Ls' ∧ Ls'.length = 2 * i + j ∧ Ls'.map (·.2) = endsAll ((L.take i).map (·.2)) ++ [k1, k2].take j)
        ⟨s79, eu, HP, Ls, nr9, lens, by rw [List.take_zero, List.append_nil]; exact eL⟩ (fun j H' hj p => tupT p.2.1) (fun j v H10 H11 hj p y => ?_) fun H10 p => ?_
      · obtain ⟨s10, eu', HP', Ls', nr', len', eL'⟩ := p
        obtain ⟨rfl, hx'⟩ := y
        have hj2 : j < 2 := hj
        have put : ∀ (pj : Addr) (kj : List Int), Row H11 pj kj → [k1, k2].take (j + 1) = [k1, k2].take j ++ [kj] → ∃ acc, H11 D1 = some (.lst acc) ∧ acc.length < sizeLine ∧ (Same H (upd H11 D1 (.lst (acc ++ [.ref pj]))) ∧ upd H11 D1 (.lst (acc ++ [.ref pj])) u = some (.tup [.ref p1, .ref p2]) ∧
            (Row (upd H11 D1 (.lst (acc ++ [.ref pj]))) p1 k1 ∧ Row (upd H11 D1 (.lst (acc ++ [.ref pj]))) p2 k2) ∧ ∃ Ls', NewRws (upd H11 D1 (.lst (acc ++ [.ref pj]))) D1 Ls' ∧ Ls'.length = 2 * i + (j + 1) ∧ Ls'.map (·.2) = endsAll ((L.take i).map (·.2)) ++ [k1, k2].take (j + 1)) := fun pj kj ej ekj => by
          have nD : ∀ {b : Addr} {xs : List V}, H11 b = some (.tup xs) → b ≠ D1 := fun {b xs} z y => by
            rw [y, nr'.1] at z
            cases z
          have up : ∀ {b : Addr} {xs : List V} {o : HO}, H11 b = some (.tup xs) → upd H11 D1 o b = some (.tup xs) := fun {b xs o} z => by
            rw [upd_ne (nD z)]
            exact z
          refine ⟨_, nr'.1, ?_, fun b o hb => ?_, up eu', ⟨up HP'.1, up HP'.2⟩, Ls' ++ [(pj, kj)], ⟨?_, fun r' hr1 => ?_⟩, ?_, ?_⟩
          · rw [List.length_map, len']
            exact size_lt (m := 4000) (by omega) (by decide)
          · rw [upd_ne (ne_of_none hb hD)]
            exact s10 _ _ hb
          · rw [upd_same, List.map_append]
            rfl
          · rcases List.mem_append.mp hr1 with hr1 | hr1
            · exact up (nr'.2 r' hr1)
            · rw [List.mem_singleton.mp hr1]
              exact up ej
          · rw [List.length_append, len']
            rfl
          · rw [List.map_append, eL', ekj, List.append_assoc]
            rfl
        rcases (by omega : j = 0 ∨ j = 1) with rfl | rfl
        · obtain rfl : V.ref p1 = v := Option.some.inj hx'
          exact ⟨rfl, _, rfl, put p1 k1 HP'.1 rfl⟩
        · obtain rfl : V.ref p2 = v := Option.some.inj hx'
          exact ⟨rfl, _, rfl, put p2 k2 HP'.2 rfl⟩
      · obtain ⟨s10, eu', HP', Ls', nr', len', eL'⟩ := p
        exact ⟨s10, Ls', nr', by rw [eL', tk]; rfl⟩
    · obtain ⟨sm, Ls, nr, eL⟩ := p
      rw [List.length_map, List.take_length] at eL
      have allE : ∀ e ∈ L.map (·.2), EdgeR e := fun e he => by
        obtain ⟨r', hr1, rfl⟩ := List.mem_map.mp he
        exact pfine.1 r' hr1
      refine ⟨D1, Ls, 2, rfl, nr.rws, ?_, by decide, fun r' hr1 => ?_, fun p L' H' s1 hp1 nr1 odd => ?_⟩
      · have z := congrArg List.length eL
        rw [List.length_map, endsAll_len allE, List.length_map] at z
        omega
      · refine endsAll_two allE r'.2 ?_
        rw [← eL]
        exact List.mem_map.mpr ⟨r', hr1, rfl⟩
      · rw [eL] at odd
        refine q p L' H' (sm.trans s1) ?_ nr1 odd
        cases c : H p with
        | none => rfl
        | some o =>
          have z := sm p o c
          rw [hp1] at z
          cases z
def spEven (K : PySem.W.Frag) : Sp := fun vs H Q _ => ∃ (a : Addr) (L : List (Addr × List Int)), vs = [.ref a] ∧ IsPic K H a L ∧ ∀ (R : List (List Int)) (H' : Hp), Same H H' → OddOf (endsAll (L.map (·.2))) R → Q (.bl R.isEmpty) H'
theorem ok_even (D : Ds K) (T : Tx K mg) : FnOk P w K mg base CX0 4 (dis_even.adr K) D.fd_is_even ["picture"] (spEven K) := by
  have G : FnOk P w K mg base CX0 3 _ _ _ (spOddP K) := ok_oddp D T
  refine D.F_is_even.ok scis_even (fun vs H Q E h => ?_) (fun cdv A outer s H vs Q E hr h => ?_)
  · obtain ⟨a, L, rfl, _⟩ := h
    rfl
  · obtain ⟨a, L, rfl, hp, q⟩ := h
    refine ⟨_, PSs.nox (pss_one (ps_ret (pe_notT (pe_call G hr (by rfl) T.g_odd_points D.F_odd_points.kp (b_odd_points D) .nil pass0 (pa_cons (pv 0) pa_nil))))), ?_⟩
    refine ⟨_, rfl, a, L, rfl, hp, fun p L' H' s1 hp1 nr odd => ?_⟩
    refine ⟨_, .inl ⟨_, nr.rws.1, rfl⟩, ?_⟩
    rw [Bool.not_not, List.isEmpty_map, ← List.isEmpty_map (f := fun q : Addr × List Int => q.2)]
    exact q _ H' s1 odd
end
end K29

set_option Elab.async false
set_option linter.all false
set_option maxRecDepth 100000
set_option maxHeartbeats 4000000
set_option exponentiation.threshold 600
namespace K29
open PySem PySem.Spec PyProof.Rows L2 RT TT PC
/-- the state of a cell's draws: digits, a number, a counter -/
def Tk (H : Hp) (t : Addr) (c : Nat) : Prop := ∃ A B : Int, H t = some (.lst [.int A, .int B, .int c]) ∧ 0 ≤ A ∧ 0 ≤ B ∧ B < 10000000000000000000000000000000000000000000000
theorem Tk.same {H H' : Hp} {t : Addr} {c : Nat} (h : Tk H t c) (e : Same H H') : Tk H' t c := by
  obtain ⟨A, B, h1, h2⟩ := h
  exact ⟨A, B, e _ _ h1, h2⟩
theorem p18 : (10 : Int) ^ ((18 : Int).toNat) = 1000000000000000000 := by decide
theorem p42 : (10 : Int) ^ ((42 : Int).toNat) = 1000000000000000000000000000000000000000000 := by decide
theorem p45 : (10 : Int) ^ ((45 : Int).toNat) = 1000000000000000000000000000000000000000000000 := by decide
theorem p46 : (10 : Int) ^ ((46 : Int).toNat) = 10000000000000000000000000000000000000000000000 := by decide
theorem pw_ok {j : Int} (h0 : 0 ≤ j) (h : j ≤ 1000000) : CPow 10 j := ⟨h0, h, by decide⟩
theorem bits_le {i : Int} {n : Nat} (hn : 0 < n) (h : i.natAbs < 2 ^ n) : Builtin.Int.intBits i ≤ n := by
  have h2 := PySem.Flt.log2_lt_of hn h
  unfold Builtin.Int.intBits
  split <;> omega
theorem cube_ok {i : Int} (h0 : 0 ≤ i) (h : i < 2 ^ 200) : CPowW i 3 := by
  have b : Builtin.Int.intBits i ≤ 200 := bits_le (by decide) (by omega)
  refine ⟨by decide, ?_⟩
  have e : ((Builtin.Int.intBits i : Nat) : Int) ≤ 200 := by omega
  omega
section
variable {P : Program} {w : World} {K : PySem.W.Frag} {mg : Str → Option Value} {base : Heap}
def spWell (K : PySem.W.Frag) : Sp := fun vs H Q _ => ∃ (a : Addr) (ns : List Int) (k : Nat), vs = [.ref a, .int k] ∧ SqL K H a (ns.map V.int) ∧ k ≤ 100 ∧ ∀ t H', Same H H' → H t = none → Tk H' t 0 → Q (.ref t) H'
theorem ok_well (D : Ds K) (T : Tx K mg) : FnOk P w K mg base CX0 1 (d_law_well.adr K) D.fd__law_well ["script", "k"] (spWell K) := by
  refine D.F__law_well.ok sc_law_well (fun vs H Q E h => ?_) (fun cdv A outer s H vs Q E hr h => ?_)
  · obtain ⟨a, ns, k, rfl, _⟩ := h
    rfl
  · obtain ⟨a, ns, k, rfl, hS, hk, q⟩ := h
    have nd := sc_law_well.nd
    refine ⟨_, PSs.nox (pss_cons (ps_set (i := 2) nd rfl (.inl rfl) (pe_ifExp (pt_cmpR op_lt (pv 1) (pe_callB call_len_seq (by rfl) T.z_len PySem.boot_len (pa_cons (pv 0) pa_nil)) (nomark _)) (pe_ix ix_list (pv 0) (pv 1) (fun _ _ => rfl)) pe_int))
      (pss_one (ps_ret (pe_lst (pa_cons (pe_callB (call_max2 rfl) (by rfl) T.z_max (by decide +kernel) (pa_cons pe_int (pa_cons (pe_op op_sub (pv 2) (pe_op op_pow pe_int pe_int)) pa_nil)))
        (pa_cons (pe_op op_add (pe_op op_mul (pe_op op_mod (pv 2) (pe_op op_add (pe_op op_pow pe_int pe_int) pe_int)) pe_int) (pv 1)) (pa_cons pe_int pa_nil))))))), ?_⟩
    refine ⟨_, rfl, _, rfl, a, _, rfl, .inl hS, _, _, rfl, rfl, _, rfl, ite2 (fun e => ?_) (fun e => ?_)⟩
    · have hk2 : k < ns.length := by
        have e2 := of_decide_eq_true e
        rw [List.length_map] at e2
        omega
      have g : (ns.map V.int)[k]? = some (.int ns[k]) := by
        rw [List.getElem?_map, List.getElem?_eq_getElem hk2]
        rfl
      refine ⟨_, rfl, _, rfl, a, _, _, _, rfl, rfl, hS, atI_nat g, ?_⟩
      have m0 : 0 ≤ ns[k] % (10 ^ (42 : Int).toNat + 63) := Int.emod_nonneg _ (by rw [p42]; decide)
      have m1 : ns[k] % (10 ^ (42 : Int).toNat + 63) < 1000000000000000000000000000000000000000063 := by
        rw [p42]
        exact Int.emod_lt_of_pos _ (by decide)
      refine ⟨_, rfl, _, _, rfl, rfl, pw_ok (by decide) (by decide), _, _, rfl, rfl, _, _, rfl, ?_⟩
      refine ⟨_, rfl, _, _, rfl, rfl, pw_ok (by decide) (by decide), _, _, rfl, rfl, _, _, rfl, rfl, (by show (0 : Int) < _; rw [p42]; decide), _, _, rfl, rfl, .inr ⟨by decide, by decide⟩, _, rfl, _, _, rfl, rfl, big3, fun p hp => ?_⟩
      exact q p _ (same_new hp) hp ⟨_, _, upd_same, by split <;> omega, by omega, by omega⟩
    · have m0 : 0 ≤ (0 : Int) % (10 ^ (42 : Int).toNat + 63) := Int.emod_nonneg _ (by rw [p42]; decide)
      have m1 : (0 : Int) % (10 ^ (42 : Int).toNat + 63) < 1000000000000000000000000000000000000000063 := by
        rw [p42]
        exact Int.emod_lt_of_pos _ (by decide)
      refine ⟨_, rfl, _, _, rfl, rfl, pw_ok (by decide) (by decide), _, _, rfl, rfl, _, _, rfl, ?_⟩
      refine ⟨_, rfl, _, _, rfl, rfl, pw_ok (by decide) (by decide), _, _, rfl, rfl, _, _, rfl, rfl, (by show (0 : Int) < _; rw [p42]; decide), _, _, rfl, rfl, .inr ⟨by decide, by decide⟩, _, rfl, _, _, rfl, rfl, big3, fun p hp => ?_⟩
      exact q p _ (same_new hp) hp ⟨_, _, upd_same, by split <;> omega, by omega, by omega⟩
def spDip : Sp := fun vs H Q _ => ∃ (t : Addr) (b : Int) (c : Nat), vs = [.ref t, .int b] ∧ Tk H t c ∧ c ≤ 100000 ∧ 1 ≤ b ∧ b.natAbs < 2 ^ 400 ∧
  ∀ (v : Int) (c' : Nat) H', Keep t H H' → Tk H' t c' → c ≤ c' → c' ≤ c + 1 → 0 ≤ v → v < b → Q (.int v) H'
theorem ok_dip (D : Ds K) (T : Tx K mg) : FnOk P w K mg base CX0 1 (d_law_dip.adr K) D.fd__law_dip ["ink", "many"] spDip := by
  refine D.F__law_dip.ok sc_law_dip (fun vs H Q E h => ?_) (fun cdv A outer s H vs Q E hr h => ?_)
  · obtain ⟨t, b, c, rfl, _⟩ := h
    rfl
  · obtain ⟨t, b, c, rfl, ⟨A1, B, et, hA, hB, hB2⟩, hc, hb, hb2, q⟩ := h
    have nd := sc_law_dip.nd
    refine ⟨_, PSs.nox (pss_cons (ps_if (pt_cmpR op_gt (pe_ix ix_list (pv 0) pe_int (fun _ _ => rfl)) pe_int (nomark _))
        (pss_cons (ps_set (i := 2) nd rfl (.inl rfl) (pe_op op_mod (pe_ix ix_list (pv 0) pe_int (fun _ _ => rfl)) (pv 1)))
          (pss_cons (ps_asg (pe_op op_fdivW (pe_ix ix_list (pv 0) pe_int (fun _ _ => rfl)) (pv 1)) (pg_sub (pv 0) pe_int set_list)) (pss_one (ps_ret (pv 2))))) pss_nil)
      (pss_cons (ps_asg (pe_op op_add (pe_ix ix_list (pv 0) pe_int (fun _ _ => rfl)) pe_int) (pg_sub (pv 0) pe_int set_list))
      (pss_cons (ps_set (i := 3) nd rfl (.inl rfl) (pe_op op_mod (pe_op op_powW (pe_op op_add (pe_ix ix_list (pv 0) pe_int (fun _ _ => rfl)) (pe_op op_mul pe_int (pe_ix ix_list (pv 0) pe_int (fun _ _ => rfl)))) pe_int) (pe_op op_add (pe_op op_pow pe_int pe_int) pe_int)))
      (pss_cons (ps_set (i := 3) nd rfl (.inl rfl) (pe_op op_mod (pe_op op_powW (pe_op op_add (pv 3) (pe_op op_mul pe_int (pe_ix ix_list (pv 0) pe_int (fun _ _ => rfl)))) pe_int) (pe_op op_add (pe_op op_pow pe_int pe_int) pe_int)))
      (pss_one (ps_ret (pe_op op_mod (pe_op op_fdivW (pv 3) pe_int) (pv 1)))))))), ?_⟩
    have g0 : atI [V.int A1, V.int B, V.int c] 0 = some (.int A1) := atI_nat (j := 0) rfl
    refine ⟨_, rfl, t, _, 0, _, rfl, rfl, lstL et, g0, _, _, rfl, rfl, _, rfl, ite2 (fun e => ?_) (fun e => ?_)⟩
    · have e0 : 0 < A1 := of_decide_eq_true e
      refine ⟨_, rfl, t, _, 0, _, rfl, rfl, lstL et, g0, _, rfl, _, _, rfl, rfl, hb, ?_⟩
      refine ⟨_, rfl, t, _, 0, _, rfl, rfl, lstL et, g0, _, rfl, _, _, rfl, rfl, wide_div (b := 400) (by omega) hb2 (by decide) (by decide), ?_⟩
      refine ⟨_, rfl, t, _, 0, 0, rfl, rfl, et, rfl, _, rfl, ?_⟩
      exact q _ c _ keep_upd ⟨_, B, upd_same, Int.ediv_nonneg hA (by omega), hB, hB2⟩ (Nat.le_refl _) (by omega) (Int.emod_nonneg _ (by omega)) (Int.emod_lt_of_pos _ (by omega))
    · have g2 : atI [V.int A1, V.int B, V.int c] 2 = some (.int c) := atI_nat (j := 2) rfl
      refine ⟨_, rfl, t, _, 2, _, rfl, rfl, lstL et, g2, _, _, rfl, rfl, _, rfl, t, _, 2, 2, rfl, rfl, et, rfl, ?_⟩
      have et2 : upd H t (.lst ([V.int A1, V.int B, V.int c].set 2 (.int ((c : Int) + 1)))) t = some (.lst [.int A1, .int B, .int ((c : Int) + 1)]) := upd_same
      have k1 : atI [V.int A1, V.int B, V.int ((c : Int) + 1)] 1 = some (.int B) := atI_nat (j := 1) rfl
      have k2 : atI [V.int A1, V.int B, V.int ((c : Int) + 1)] 2 = some (.int ((c : Int) + 1)) := atI_nat (j := 2) rfl
      refine ⟨_, rfl, t, _, 1, _, rfl, rfl, lstL et2, k1, _, rfl, t, _, 2, _, rfl, rfl, lstL et2, k2, _, _, rfl, rfl, .inl ⟨by decide, by decide⟩, _, _, rfl, rfl, _, _, rfl, rfl, cube_ok (by omega) (by omega), _, _, rfl, rfl, pw_ok (by decide) (by decide), _, _, rfl, rfl, _, _, rfl, rfl, (by show (0 : Int) < _; rw [p46]; decide), ?_⟩
      have m0 : 0 ≤ (B + 141650939 * ((c : Int) + 1)) ^ (3 : Int).toNat % (10 ^ (46 : Int).toNat + 9) := Int.emod_nonneg _ (by rw [p46]; decide)
      have m1 : (B + 141650939 * ((c : Int) + 1)) ^ (3 : Int).toNat % (10 ^ (46 : Int).toNat + 9) < 10000000000000000000000000000000000000000000009 := by
        rw [p46]
        exact Int.emod_lt_of_pos _ (by decide)
      refine ⟨_, rfl, _, rfl, t, _, 2, _, rfl, rfl, lstL et2, k2, _, _, rfl, rfl, .inl ⟨by decide, by decide⟩, _, _, rfl, rfl, _, _, rfl, rfl, cube_ok (by omega) (by omega), _, _, rfl, rfl, pw_ok (by decide) (by decide), _, _, rfl, rfl, _, _, rfl, rfl, (by show (0 : Int) < _; rw [p45]; decide), ?_⟩
      refine ⟨_, rfl, _, _, rfl, rfl, wide_div (b := 200) (by decide) (by decide) (by decide) (by decide), _, rfl, _, _, rfl, rfl, hb, ?_⟩
      exact q _ (c + 1) _ keep_upd ⟨A1, B, by rw [et2]; rfl, hA, hB, hB2⟩ (by omega) (Nat.le_refl _) (Int.emod_nonneg _ (by omega)) (Int.emod_lt_of_pos _ (by omega))
def spFrame : Sp := fun vs H Q _ => ∃ x y : Int, vs = [.int x, .int y] ∧ ∀ p L H', Same H H' → NewRws H' p L → L.map (·.2) = [[x, y, 0], [x, y + 1, 0], [x, y, 1], [x + 1, y, 1]] → Q (.ref p) H'
theorem ok_frame (D : Ds K) (T : Tx K mg) : FnOk P w K mg base CX0 1 (d_law_frame.adr K) D.fd__law_frame ["x", "y"] spFrame := by
  refine D.F__law_frame.ok sc_law_frame (fun vs H Q E h => ?_) (fun cdv A outer s H vs Q E hr h => ?_)
  · obtain ⟨x, y, rfl, _⟩ := h
    rfl
  · obtain ⟨x, y, rfl, q⟩ := h
    refine ⟨_, PSs.nox (pss_one (ps_ret (pe_lst (pa_cons (pe_tup (pa_cons (pv 0) (pa_cons (pv 1) (pa_cons pe_int pa_nil)))) (pa_cons (pe_tup (pa_cons (pv 0) (pa_cons (pe_op op_add (pv 1) pe_int) (pa_cons pe_int pa_nil))))
          (pa_cons (pe_tup (pa_cons (pv 0) (pa_cons (pv 1) (pa_cons pe_int pa_nil)))) (pa_cons (pe_tup (pa_cons (pe_op op_add (pv 0) pe_int) (pa_cons (pv 1) (pa_cons pe_int pa_nil)))) pa_nil))))))), ?_⟩
    refine ⟨_, rfl, _, rfl, big3, fun p1 hp1 => ?_⟩
    refine ⟨_, rfl, _, rfl, _, _, rfl, rfl, big3, fun p2 hp2 => ?_⟩
    refine ⟨_, rfl, _, rfl, big3, fun p3 hp3 => ?_⟩
    refine ⟨_, rfl, _, _, rfl, rfl, _, rfl, big3, fun p4 hp4 => ?_⟩
    refine ⟨by show 4 ≤ sizeLine; decide, fun n hn => ?_⟩
    have s1 := same_new (o := .tup [.int x, .int y, .int 0]) hp1
    have s2 := same_new (o := .tup [.int x, .int (y + 1), .int 0]) hp2
    have s3 := same_new (o := .tup [.int x, .int y, .int 1]) hp3
    have s4 := same_new (o := .tup [.int (x + 1), .int y, .int 1]) hp4
    have s5 := same_new (o := .lst [.ref p1, .ref p2, .ref p3, .ref p4]) hn
    refine q n [(p1, [x, y, 0]), (p2, [x, y + 1, 0]), (p3, [x, y, 1]), (p4, [x + 1, y, 1])] _ (s1.trans (s2.trans (s3.trans (s4.trans s5)))) ⟨upd_same, fun r hr1 => ?_⟩ rfl
    simp only [List.mem_cons, List.not_mem_nil, or_false] at hr1
    rcases hr1 with rfl | rfl | rfl | rfl
    · exact s5 _ _ (s4 _ _ (s3 _ _ (s2 _ _ upd_same)))
    · exact s5 _ _ (s4 _ _ (s3 _ _ upd_same))
    · exact s5 _ _ (s4 _ _ upd_same)
    · exact s5 _ _ upd_same
def spLEnds : Sp := fun vs H Q _ => ∃ (a : Addr) (k : List Int), vs = [.ref a] ∧ Row H a k ∧ EdgeR k ∧ ∀ p L H', Same H H' → H p = none → NewRws H' p L → L.map (·.2) = endsR k → Q (.ref p) H'
theorem ok_lends (D : Ds K) (T : Tx K mg) : FnOk P w K mg base CX0 1 (d_law_ends.adr K) D.fd__law_ends ["edge_here"] spLEnds := by
  refine D.F__law_ends.ok sc_law_ends (fun vs H Q E h => ?_) (fun cdv A outer s H vs Q E hr h => ?_)
  · obtain ⟨a, k, rfl, _⟩ := h
    rfl
  · obtain ⟨a, k, rfl, ea, ⟨x, y, z, rfl, hz⟩, q⟩ := h
    have nd := sc_law_ends.nd
    refine ⟨_, PSs.nox (pss_cons (ps_asg (pv 0) (pg_tup (by rfl) (pgs_cons (pg_name (i := 1) nd rfl (.inl rfl)) (pgs_cons (pg_name (i := 2) nd rfl (.inl rfl)) (pgs_cons (pg_name (i := 3) nd rfl (.inl rfl)) pgs_nil)))))
      (pss_one (ps_ret (pe_lst (pa_cons (pe_tup (pa_cons (pv 1) (pa_cons (pv 2) pa_nil))) (pa_cons (pe_tup (pa_cons (pe_op op_sub (pe_op op_add (pv 1) pe_int) (pv 3)) (pa_cons (pe_op op_add (pv 2) (pv 3)) pa_nil))) pa_nil)))))), ?_⟩
    refine ⟨_, rfl, a, _, rfl, tupT ea, rfl, _, _, rfl, _, _, rfl, _, _, rfl, rfl, ?_⟩
    refine ⟨_, rfl, _, rfl, big2, fun p1 hp1 => ?_⟩
    refine ⟨_, rfl, _, _, rfl, rfl, _, rfl, _, _, rfl, rfl, _, rfl, _, rfl, _, _, rfl, rfl, big2, fun p2 hp2 => ?_⟩
    refine ⟨big2, fun n hn => ?_⟩
    have s1 := same_new (o := .tup [.int x, .int y]) hp1
    have s2 := same_new (o := .tup [.int (x + 1 - z), .int (y + z)]) hp2
    have s3 := same_new (o := .lst [.ref p1, .ref p2]) hn
    refine q n [(p1, [x, y]), (p2, [x + 1 - z, y + z])] _ (s1.trans (s2.trans s3)) ?_ ⟨upd_same, fun r hr1 => ?_⟩ (endsR_law hz).symm
    · cases c : H n with
      | none => rfl
      | some o =>
        have z := s2 _ _ (s1 _ _ c)
        rw [hn] at z
        cases z
    · simp only [List.mem_cons, List.not_mem_nil, or_false] at hr1
      rcases hr1 with rfl | rfl
      · exact s3 _ _ (s2 _ _ upd_same)
      · exact s3 _ _ upd_same
def spDegs (K : PySem.W.Frag) : Sp := fun vs H Q _ => ∃ (a : Addr) (L : List (Addr × List Int)), vs = [.ref a] ∧ Rws K H a L ∧ (∀ r ∈ L, EdgeR r.2) ∧ L.length ≤ 5000 ∧ ∀ d M H', Same H H' → H d = none → H' d = some (.dT (dI M)) → Tally M (endsAll (L.map (·.2))) → Once M → M.length ≤ 2 * L.length → Q (.ref d) H'
theorem ok_degs (D : Ds K) (T : Tx K mg) : FnOk P w K mg base CX0 2 (d_law_degrees.adr K) D.fd__law_degrees ["edges_here"] (spDegs K) := by
  have G : FnOk P w K mg base CX0 1 _ _ _ spLEnds := ok_lends D T
  refine D.F__law_degrees.ok sc_law_degrees (fun vs H Q E h => ?_) (fun cdv A outer s H vs Q E hr h => ?_)
  · obtain ⟨a, L, rfl, _⟩ := h
    rfl
  · obtain ⟨a, L, rfl, ss, he, hn, q⟩ := h
    have nd := sc_law_degrees.nd
    refine ⟨_, PSs.nox (pss_cons (ps_set (i := 1) nd rfl (.inl rfl) pe_dnewT)
      (pss_cons (ps_for PassesOwn.never rfl (pi_list (pv 0)) (pg_name (i := 2) nd rfl (.inl rfl))
          (pss_one (ps_for PassesOwn.never rfl (pi_list (pe_call G hr (by rfl) T.g__law_ends D.F__law_ends.kp (b__law_ends D) .nil pass0 (pa_cons (pv 2) pa_nil))) (pg_name (i := 3) nd rfl (.inl rfl))
            (pss_one (ps_dput (hu_of hr) (pv 1) (pv 3) (pe_op op_add (pe_dget2 (hu_of hr) (pv 1) (pv 3) pe_int ⟨rfl, rfl, rfl, rfl⟩) pe_int) rfl)))))
      (pss_one (ps_ret (pv 1))))), ?_⟩
    intro d hd
    have sD : ∀ {H' : Hp} {o : HO}, Same H H' → Same H (upd H' d o) := fun {H' o} s b u h => by
      rw [upd_ne (ne_of_none h hd)]
      exact s b u h
    refine ⟨_, rfl, a, rfl, ⟨_, same_sql (same_new hd) ss.1⟩, for_list (xs := L.map fun q => V.ref q.1) (fun i σ H' => ∃ (M : List (List Int × V)) (z2 z3 : Option V), Same H H' ∧ H' d = some (.dT (dI M)) ∧ Tally M (endsAll ((L.take i).map (·.2))) ∧ Once M ∧ M.length ≤ 2 * i ∧ σ = [some (.ref a), some (.ref d), z2, z3])
      ⟨[], _, _, same_new hd, upd_same, tally_nil, List.nodup_nil, Nat.le_refl _, rfl⟩ (fun i σ H' hi hp' => ?_) (fun i x σ H' hx hp' => ?_) fun σ H' hp' => ?_⟩
    · obtain ⟨M, z2, z3, sm, _⟩ := hp'
      exact same_sql sm ss.1
    · obtain ⟨M, z2, z3, sm, ed, ht, ho, hlen, rfl⟩ := hp'
      obtain ⟨r, hr', rfl, er⟩ := (ss.same sm).at hx
      have hi' : i < L.length := (List.getElem?_eq_some_iff.mp hr').1
      refine ⟨_, rfl, r.1, r.2, rfl, er, he r (List.mem_of_getElem? hr'), fun p Lp H9 s9 hp9 nr ep => ?_⟩
      have len2 : Lp.length = 2 := by
        obtain ⟨x, y, z, er2, hz⟩ := he r (List.mem_of_getElem? hr')
        rw [er2, endsR_law hz] at ep
        have z := congrArg List.length ep
        rwa [List.length_map] at z
      have tk : endsAll ((L.take (i + 1)).map (·.2)) = endsAll ((L.take i).map (·.2)) ++ Lp.map (·.2) := by
        rw [take_row hr', List.map_append]
        unfold endsAll
        rw [List.flatMap_append, ep]
        show _ ++ (endsR r.2 ++ []) = _
        rw [List.append_nil]
      have hpd : p ≠ d := fun z => by rw [z, ed] at hp9; cases hp9
      refine ⟨p, rfl, ⟨_, lstL nr.1⟩, for_list (xs := Lp.map fun q => V.ref q.1) (fun j σ H' => ∃ (M : List (List Int × V)) (z3 : Option V), Same H H' ∧ NewRws H' p Lp ∧ H' d = some (.dT (dI M)) ∧ Tally M (endsAll ((L.take i).map (·.2)) ++ (Lp.take j).map (·.2)) ∧ Once M ∧ M.length ≤ 2 * i + j ∧ σ = [some (.ref a), some (.ref d), some (.ref r.1), z3])
        ⟨M, _, sm.trans s9, nr, s9 _ _ ed, by rw [List.take_zero, List.map_nil, List.append_nil]; exact ht, ho, hlen, rfl⟩ (fun j σ H' hj hp' => ?_) (fun j x σ H' hx2 hp' => ?_) fun σ H' hp' => ?_⟩
      · obtain ⟨M, z3, sm, nr, _⟩ := hp'
        exact lstL nr.1
      · obtain ⟨M, z3, sm, nr, ed, ht, ho, hlen, rfl⟩ := hp'
        obtain ⟨u, hu', rfl, eu⟩ := (nr.rws (K := K)).at hx2
        have hj' : j < Lp.length := (List.getElem?_eq_some_iff.mp hu').1
        have eg : (valV (dI M) (kI u.2)).getD (V.int 0) = V.int (((endsAll ((L.take i).map (·.2)) ++ (Lp.take j).map (·.2)).count u.2 : Nat) : Int) := by rw [val_dI, tally_get ht]
        refine ⟨_, rfl, d, rfl, .inr ⟨_, .inl ed⟩, _, rfl, _, DGet.t ed (row_k eu), ?_⟩
        rw [eg]
        refine ⟨_, _, rfl, rfl, _, rfl, _, rfl, d, _, rfl, DPut.t ed (row_k eu) ?_, ?_⟩
        · rw [dI_len]
          exact size_lt (m := 20000) (by omega) (by decide)
        · refine ⟨putK M u.2 (.int (((endsAll ((L.take i).map (·.2)) ++ (Lp.take j).map (·.2)).count u.2 : Nat) + 1 : Int)), _, sD sm, ⟨?_, fun v hv => ?_⟩, ?_, ?_, once_put ho, Nat.le_trans (put_len ..) (by omega), rfl⟩
          · rw [upd_ne hpd]
            exact nr.1
          · show upd _ _ _ _ = _
            have z : H' v.1 = some (.tup (v.2.map V.int)) := nr.2 v hv
            rw [upd_ne (fun y => by rw [y, ed] at z; cases z)]
            exact z
          · rw [upd_same, put_dI]
          · rw [take_row hu', List.map_append, ← List.append_assoc]
            exact tally_next ht
      · obtain ⟨M, z3, sm, nr, ed, ht, ho, hlen, rfl⟩ := hp'
        rw [List.length_map] at hlen
        rw [List.length_map, List.take_length, ← tk] at ht
        exact ⟨M, _, _, sm, ed, ht, ho, by omega, rfl⟩
    · obtain ⟨M, z2, z3, sm, ed, ht, ho, hlen, rfl⟩ := hp'
      rw [List.length_map] at hlen
      rw [List.length_map, List.take_length] at ht
      exact ⟨_, rfl, q d M H' sm hd ed ht ho hlen⟩
abbrev NLo : List Str := N_law_odd ++ [("point_here" : Str)]
theorem scLo : FnScope NLo ["edges_here"] (defScope s_law_odd) := ⟨rfl, rfl, rfl, by decide +kernel, rfl, by decide +kernel, by decide +kernel⟩
def spLOdd (K : PySem.W.Frag) : Sp := fun vs H Q _ => ∃ (a : Addr) (L : List (Addr × List Int)), vs = [.ref a] ∧ Rws K H a L ∧ (∀ r ∈ L, EdgeR r.2) ∧ L.length ≤ 1228 ∧ ∀ (p : Addr) (L' : List (Addr × List Int)) (H' : Hp), Same H H' → H p = none → NewRws H' p L' → OddOf (endsAll (L.map (·.2))) (L'.map (·.2)) → Q (.ref p) H'
theorem ok_lodd (D : Ds K) (T : Tx K mg) : FnOk P w K mg base CX0 3 (d_law_odd.adr K) D.fd__law_odd ["edges_here"] (spLOdd K) := by
  have G : FnOk P w K mg base CX0 2 _ _ _ (spDegs K) := ok_degs D T
  refine D.F__law_odd.ok scLo (fun vs H Q E h => ?_) (fun cdv A outer s H vs Q E hr h => ?_)
  · obtain ⟨a, L, rfl, _⟩ := h
    rfl
  · obtain ⟨a, L0, rfl, ss0, he, hn0, q⟩ := h
    have nd := scLo.nd
    refine ⟨_, PSs.nox (pss_cons (ps_set (i := 1) nd rfl (.inr rfl) (pe_call G hr (by rfl) T.g__law_degrees D.F__law_degrees.kp (b__law_degrees D) .nil pass0 (pa_cons (pv 0) pa_nil)))
      (pss_one (ps_ret (pe_callB cr_sortR (by rfl) T.z_sorted (by decide +kernel) (pa_cons (pe_lock (pe_lc (own := [(("point_here" : Str), 2)]) (g := gName 2) (tt := tTest (tOp rEq (tOp (rI (fun _ j => 0 < j) fun i j => .int (i % j)) (tDGet (tVar 1) (tVar 2)) (tC (.int 2))) (tC (.int 1)))) (te := tVar 2) rfl nd (pi_keys (pv 1))
          (blkOk_by (own := [(("point_here" : Str), 2)]) (N := NLo) (sc := defScope s_law_odd) (by decide +kernel)) (fun _ _ _ _ _ => pg_name (i := 2) nd rfl (Or.inl rfl)) (fun _ _ _ _ _ => pts_one (pt_cmpR op_eq (pe_op op_mod (pe_dget (hu_of hr) (pv 1) (pv 2) (fun _ _ => rfl)) pe_int) pe_int (nomark _))) (fun _ _ _ _ _ => pv 2))) pa_nil))))), ?_⟩
    refine ⟨_, rfl, a, L0, rfl, ss0, he, by omega, fun d M H1 s1 hd ed ht ho hlen => ?_⟩
    have allE : ∀ e ∈ L0.map (·.2), EdgeR e := fun e he1 => by
      obtain ⟨r', hr1, rfl⟩ := List.mem_map.mp he1
      exact he r' hr1
    have vlen := endsAll_two allE
    generalize endsAll (L0.map (·.2)) = vs0 at ht q vlen
    have n1 : 1 ≤ 2 := by decide
    refine ⟨d, _, ed, trivial, fun od => ?_⟩
    have ef : upd H1 d (.frz od (.dT (dI M))) d = some (.frz od (.dT (dI M))) := upd_same
    refine ⟨_, rfl, d, od, rfl, .inr ⟨_, ef, fun D1 hD => ?_⟩⟩
    have dD : d ≠ D1 := ne_of_none ef hD
    have hD1 : H1 D1 = none := by rwa [upd_ne (Ne.symm dD)] at hD
    refine lc_it (walk_keysT (d := d) (o := od) (kvs := dI M)) (fun i H' => (∀ b o, b ≠ d → H1 b = some o → H' b = some o) ∧ H' d = some (.frz od (.dT (dI M))) ∧ ∃ L' : List (Addr × List Int), NewRws H' D1 L' ∧ L'.map (·.2) = ((M.take i).map (·.1)).filter fun k => decide (vs0.count k % 2 = 1))
      ⟨fun b o hb h => ?_, ?_, [], ⟨upd_same, fun _ z => nomatch z⟩, rfl⟩ (fun i H' hi p => p.2.1) (fun i x H2 H3 hi p y => ?_) fun H2 p => ?_
    · rw [upd_ne (ne_of_none h hD1), upd_ne hb]
      exact h
    · rw [upd_ne dD]
      exact ef
    · obtain ⟨kp, e1, L', nr, eL⟩ := p
      obtain ⟨rfl, k, v, c, hk, rfl, hc⟩ := y
      unfold dI at hk
      rw [List.getElem?_map] at hk
      obtain ⟨m, hm, e⟩ := Option.map_eq_some_iff.mp hk
      cases e
      have tk : (M.take (i + 1)).map (·.1) = (M.take i).map (·.1) ++ [m.1] := by rw [List.take_succ, hm, List.map_append]; rfl
      have hv := once_at ho hm
      have hcnt : m.2 = .int ((vs0.count m.1 : Nat) : Int) := by
        have z := ht m.1
        rw [hv] at z
        by_cases c0 : vs0.count m.1 = 0
        · rw [if_pos c0] at z
          cases z
        · rw [if_neg c0] at z
          exact Option.some.inj z
      have hc' : Row H3 c m.1 := by
        rw [kI_V] at hc
        exact hc
      have llen : L'.length ≤ i := by
        have z : (L'.map (·.2)).length ≤ i := by
          rw [eL]
          refine Nat.le_trans (List.length_filter_le _ _) ?_
          rw [List.length_map, List.length_take]
          omega
        rwa [List.length_map] at z
      have hi' : i < M.length := (List.getElem?_eq_some_iff.mp hm).1
      refine ⟨rfl, _, rfl, _, rfl, d, _, rfl, .inr ⟨_, kI m.1, c, .inr ⟨od, e1⟩, rfl, hc, by rw [val_dI, hv]⟩, ?_⟩
      rw [hcnt]
      refine ⟨_, _, rfl, rfl, (by decide : (0 : Int) < 2), rfl, _, rfl, ?_⟩
      have ed2 : decide (V.int (((vs0.count m.1 : Nat) : Int) % 2) = V.int 1) = decide (vs0.count m.1 % 2 = 1) := by
        rw [dec_i]
        exact decide_eq_decide.mpr (by omega)
      rw [ed2]
      by_cases hcc : vs0.count m.1 % 2 = 1
      · refine ite_t (decide_eq_true hcc) ⟨_, rfl, _, nr.1, ?_, fun b o hb h => ?_, ?_, L' ++ [(c, m.1)], ⟨?_, fun r hr1 => ?_⟩, ?_⟩
        · rw [List.length_map]
          exact size_lt (m := 10000) (by omega) (by decide)
        · rw [upd_ne (ne_of_none h hD1)]
          exact kp b o hb h
        · rw [upd_ne dD]
          exact e1
        · rw [upd_same, List.map_append]
          rfl
        · have nD : ∀ {r : Addr × List Int}, Row H3 r.1 r.2 → r.1 ≠ D1 := fun {r} z y => by
            have z' : H3 r.1 = some (.tup (r.2.map V.int)) := z
            rw [y, nr.1] at z'
            cases z'
          have z : Row H3 r.1 r.2 := (List.mem_append.mp hr1).elim (fun z => nr.2 r z) fun z => by
            rw [List.mem_singleton.mp z]
            exact hc'
          show upd _ _ _ _ = _
          rw [upd_ne (nD z)]
          exact z
        · rw [List.map_append, eL, tk, List.filter_append]
          congr 1
          show [m.1] = [m.1].filter _
          rw [List.filter_cons, if_pos (decide_eq_true hcc)]
          rfl
      · refine ite_f (decide_eq_false hcc) ⟨kp, e1, L', nr, ?_⟩
        rw [eL, tk, List.filter_append]
        have : [m.1].filter (fun k => decide (vs0.count k % 2 = 1)) = [] := by
          rw [List.filter_cons, if_neg (by rw [decide_eq_true_eq]; exact hcc)]
          rfl
        rw [this, List.append_nil]
    · obtain ⟨kp, e1, L', nr, eL⟩ := p
      rw [dI_len, List.take_length] at eL
      have alive : ∀ {b : Addr} {o : HO}, b ≠ d → H2 b = some o → upd H2 d (.dT (dI M)) b = some o := fun {b o} hb h => by
        rw [upd_ne hb]
        exact h
      have memL : ∀ r ∈ L', r.2 ∈ M.map (·.1) ∧ vs0.count r.2 % 2 = 1 := fun r hr1 => by
        have z : r.2 ∈ L'.map (·.2) := List.mem_map.mpr ⟨r, hr1, rfl⟩
        rw [eL, List.mem_filter, decide_eq_true_eq] at z
        exact z
      have rows : ∀ r ∈ L', upd H2 d (.dT (dI M)) r.1 = some (.tup (r.2.map V.int)) := fun r hr1 => by
        have z := nr.2 r hr1
        refine alive (fun y => ?_) z
        have z' : H2 r.1 = some (.tup (r.2.map V.int)) := z
        rw [y, e1] at z'
        cases z'
      refine ⟨e1, D1, L', 2, rfl, lstL (alive (Ne.symm dD) nr.1), n1, fun r hr1 => ⟨rows r hr1, ?_⟩, fun L2 p perm srt hp => ?_⟩
      · exact vlen _ (List.count_pos_iff.mp (by have := (memL r hr1).2; omega))
      · have sam : Same H (upd (upd H2 d (.dT (dI M))) p (.lst (L2.map fun q => V.ref q.1))) := fun b o h => by
          have h1 := s1 b o h
          have hbd : b ≠ d := ne_of_none h hd
          exact same_new hp b o (alive hbd (kp b o hbd h1))
        have hpH : H p = none := by
          cases c : H p with
          | none => rfl
          | some o =>
            have hbd : p ≠ d := ne_of_none c hd
            have z := alive hbd (kp p o hbd (s1 p o c))
            rw [hp] at z
            cases z
        refine q p L2 _ sam hpH ⟨upd_same, fun r hr1 => same_new hp _ _ (rows r (perm.mem_iff.mp hr1))⟩ ⟨asc_of srt ?_, fun k => ?_⟩
        · refine ((perm.map (·.2)).nodup_iff).mpr ?_
          rw [eL]
          exact List.Nodup.sublist (List.filter_sublist) ho
        · rw [(perm.map (·.2)).mem_iff, eL, List.mem_filter, decide_eq_true_eq]
          refine ⟨fun z => z.2, fun z => ⟨?_, z⟩⟩
          refine mem_keys.mpr ?_
          rw [ht k, if_neg (by omega)]
          rfl
end
end K29

set_option Elab.async false
set_option linter.all false
set_option maxRecDepth 100000
set_option maxHeartbeats 4000000
set_option exponentiation.threshold 600
namespace K29
open PySem PySem.Spec PyProof.Rows L2 RT TT PC
section
variable {P : Program} {w : World} {K : PySem.W.Frag} {mg : Str → Option Value} {base : Heap}
def spToggle (K : PySem.W.Frag) : Sp := fun vs H Q _ => ∃ (d a : Addr) (M : List (List Int × V)) (L : List (Addr × List Int)) (Pk : List Int → Prop), vs = [.ref d, .ref a] ∧ H d = some (.dT (dI M)) ∧ Rws K H a L ∧ Once M ∧ M.length + L.length ≤ 5000 ∧ (∀ p ∈ M, Pk p.1) ∧ (∀ r ∈ L, Pk r.2) ∧
  ∀ M' H', Keep d H H' → H' d = some (.dT (dI M')) → Once M' → (∀ p ∈ M', Pk p.1) → M'.length ≤ M.length + L.length → Q .non H'
theorem mem_put {M : List (List Int × V)} {k : List Int} {v : V} {Pk : List Int → Prop} (h : ∀ p ∈ M, Pk p.1) (hk : Pk k) : ∀ p ∈ putK M k v, Pk p.1 := fun p hp => by
  unfold putK at hp
  split at hp
  · obtain ⟨r, hr, rfl⟩ := List.mem_map.mp hp
    by_cases e : r.1 = k
    · rw [if_pos e]
      exact h r hr
    · rw [if_neg e]
      exact h r hr
  · rcases List.mem_append.mp hp with hp | hp
    · exact h p hp
    · rw [List.mem_singleton.mp hp]
      exact hk
theorem mem_drop {M : List (List Int × V)} {k : List Int} {Pk : List Int → Prop} (h : ∀ p ∈ M, Pk p.1) : ∀ p ∈ dropK M k, Pk p.1 := fun p hp => by
  unfold dropK at hp
  exact h p (List.mem_filter.mp hp).1
theorem Keep.rws {K : PySem.W.Frag} {d : Addr} {H H' : Hp} {a : Addr} {L : List (Addr × List Int)} (k : Keep d H H') (hd : ∀ xs, H d ≠ some (.tup xs) ) (ha : ∀ xs, H d ≠ some (.lst xs)) (hf : ∀ o u, H d ≠ some (.frz o u)) (h : Rws K H a L) : Rws K H' a L := by
  refine ⟨?_, fun r hr => ?_⟩
  · rcases h.1 with (h | ⟨o, h⟩) | h
    · exact .inl (.inl (k _ _ (fun z => ha _ (z ▸ h)) h))
    · exact .inl (.inr ⟨o, k _ _ (fun z => hf _ _ (z ▸ h)) h⟩)
    · exact .inr h
  · have z : H r.1 = some (.tup (r.2.map V.int)) := h.2 r hr
    exact k _ _ (fun y => hd _ (y ▸ z)) z
theorem ok_toggle (D : Ds K) (T : Tx K mg) : FnOk P w K mg base CX0 1 (d_law_toggle.adr K) D.fd__law_toggle ["found", "some"] (spToggle K) := by
  refine D.F__law_toggle.ok sc_law_toggle (fun vs H Q E h => ?_) (fun cdv A outer s H vs Q E hr h => ?_)
  · obtain ⟨d, a, M, L, Pk, rfl, _⟩ := h
    rfl
  · obtain ⟨d, a, M, L, Pk, rfl, ed, ss, ho, hn, hM, hL, q⟩ := h
    have nd := sc_law_toggle.nd
    refine ⟨_, PSs.nox (pss_one (ps_for PassesOwn.never rfl (pi_list (pv 1)) (pg_name (i := 2) nd rfl (.inl rfl))
          (pss_one (ps_if (pt_cmp (pc_din (hu_of hr) (pv 2) (pv 0))) (pss_one (ps_expr (pe_bm PySem.F.plainAttrs_dict PySem.F.slot_dict_pop PySem.F.type_dict_pop (mt_pop1 (hu_of hr)) (pv 0) (pa_cons (pv 2) pa_nil))))
            (pss_one (ps_dput (hu_of hr) (pv 0) (pv 2) pe_bl rfl)))))), ?_⟩
    have kr : ∀ {H'}, Keep d H H' → Rws K H' a L := fun {H'} k => k.rws (fun xs z => by rw [ed] at z; cases z) (fun xs z => by rw [ed] at z; cases z) (fun o u z => by rw [ed] at z; cases z) ss
    refine ⟨_, rfl, a, rfl, ⟨_, ss.1⟩, for_list (xs := L.map fun q => V.ref q.1) (fun i σ H' => ∃ (M' : List (List Int × V)) (z2 : Option V), Keep d H H' ∧ H' d = some (.dT (dI M')) ∧ Once M' ∧ (∀ p ∈ M', Pk p.1) ∧ M'.length ≤ M.length + i ∧ σ = [some (.ref d), some (.ref a), z2])
      ⟨M, _, Keep.refl _ _, ed, ho, hM, Nat.le_refl _, rfl⟩ (fun i σ H' hi hp' => ?_) (fun i x σ H' hx hp' => ?_) fun σ H' hp' => ?_⟩
    · obtain ⟨M', z2, k, _⟩ := hp'
      exact (kr k).1
    · obtain ⟨M', z2, k, ed', ho', hM', hl', rfl⟩ := hp'
      obtain ⟨r, hr', rfl, er⟩ := (kr k).at hx
      have hi' : i < L.length := (List.getElem?_eq_some_iff.mp hr').1
      refine ⟨_, rfl, _, rfl, d, _, rfl, DGet.t ed' (row_k er), _, rfl, ite2 (fun e => ?_) (fun e => ?_)⟩
      · obtain ⟨v, hv⟩ := Option.isSome_iff_exists.mp e
        refine ⟨_, rfl, .inr (.inr (.inl ⟨rfl, .inr ⟨_, ed'⟩⟩)), _, rfl, d, _, _, r.1, v, rfl, rfl, ed', row_k er, hv, dropK M' r.2, _, k.trans keep_upd, ?_, once_drop ho', mem_drop hM', ?_, rfl⟩
        · rw [upd_same, drop_dI]
        · exact Nat.le_trans (dropK_le M' r.2) (by omega)
      · refine ⟨_, rfl, _, rfl, d, _, rfl, DPut.t ed' (row_k er) ?_, putK M' r.2 (.bl true), _, k.trans keep_upd, ?_, once_put ho', mem_put hM' (hL r (List.mem_of_getElem? hr')), Nat.le_trans (put_len ..) (by omega), rfl⟩
        · rw [dI_len]
          exact size_lt (m := 5000) (by omega) (by decide)
        · rw [upd_same, put_dI]
    · obtain ⟨M', z2, k, ed', ho', hM', hl', rfl⟩ := hp'
      rw [List.length_map] at hl'
      exact q M' H' k ed' ho' hM' hl'
end
end K29

set_option Elab.async false
set_option linter.all false
set_option maxRecDepth 100000
set_option maxHeartbeats 8000000
set_option exponentiation.threshold 600
namespace K29
open PySem PySem.Spec PyProof.Rows L2 RT TT PC
/-- a if x == j else b, both the same value -/
theorem tIf_eq {σ : L2.St} {H : Hp} {Q : VK} {i : Nat} {n j : Int} {ta tb : TE} (hv : σ[i]? = some (some (.int n))) (Gd : VK → Prop) (h1 : n = j → ∀ Q, Gd Q → ta σ H Q) (h2 : n ≠ j → ∀ Q, Gd Q → tb σ H Q) (q : Gd Q) : tIf (tTest (tOp rEq (tVar i) (tC (.int j)))) ta tb σ H Q := by
  refine ⟨_, hv, rfl, _, rfl, ite2 (fun e => ?_) (fun e => ?_)⟩
  · have e2 := of_decide_eq_true e
    injection e2 with e3
    exact h1 e3 Q q
  · exact h2 (fun z => e (by rw [z]; exact decide_eq_true rfl)) Q q
/-- if x == j: .. -/
theorem sIf_eq {σ : L2.St} {H : Hp} {D : Ends} {i : Nat} {n j : Int} {tb : TS} (hv : σ[i]? = some (some (.int n))) (Post : L2.St → Hp → Prop) (h1 : n = j → ∀ D' : Ends, (∀ σ' H', Post σ' H' → D'.nx σ' H') → tb D' σ H) (h2 : n ≠ j → Post σ H) (q : ∀ σ' H', Post σ' H' → D.nx σ' H') :
    tIfS (tTest (tOp rEq (tVar i) (tC (.int j)))) tb tNext D σ H := by
  refine ⟨_, hv, rfl, _, rfl, ite2 (fun e => ?_) (fun e => ?_)⟩
  · have e2 := of_decide_eq_true e
    injection e2 with e3
    exact h1 e3 D q
  · exact q _ _ (h2 (fun z => e (by rw [z]; exact decide_eq_true rfl)))
/-- an edge not far out -/
def Ek (k : List Int) : Prop := EdgeR k ∧ ∀ n ∈ k, n.natAbs ≤ 2000
theorem ek_of {x y s : Int} (hs : s = 0 ∨ s = 1) (hx : x.natAbs ≤ 2000) (hy : y.natAbs ≤ 2000) : Ek [x, y, s] := by
  refine ⟨⟨x, y, s, rfl, hs⟩, fun n hn => ?_⟩
  simp only [List.mem_cons, List.not_mem_nil, or_false] at hn
  rcases hn with rfl | rfl | rfl
  · exact hx
  · exact hy
  · omega
theorem Keep.fresh {t f : Addr} {H H' H'' : Hp} (hf : H f = none) (a : Keep t H H') (b : Keep f H' H'') : Keep t H H'' := fun c o n h => b c o (ne_of_none h hf) (a c o n h)
theorem Keep.tk {t f : Addr} {H H' : Hp} {c : Nat} (h : Tk H t c) (n : t ≠ f) (k : Keep f H H') : Tk H' t c := by
  obtain ⟨A, B, h1, h2⟩ := h
  exact ⟨A, B, k _ _ n h1, h2⟩
theorem Keep.back {t f : Addr} {H H' : Hp} (k : Keep t H H') (ht : H' t ≠ none) (hf : H' f = none) : H f = none := by
  cases c : H f with
  | none => rfl
  | some o =>
    by_cases e : f = t
    · rw [e] at hf
      exact absurd hf ht
    · have z := k f o e c
      rw [hf] at z
      cases z
theorem Tk.some {H : Hp} {t : Addr} {c : Nat} (h : Tk H t c) : H t ≠ none := by
  obtain ⟨A, B, h1, _⟩ := h
  rw [h1]
  exact fun z => nomatch z
theorem Tk.ne {H : Hp} {t p : Addr} {c : Nat} (h : Tk H t c) (hp : H p = none) : t ≠ p := fun z => h.some (z ▸ hp)
theorem big4 : 4 ≤ sizeLine := by decide
theorem big5 : 5 ≤ sizeLine := by decide
def LcP (K : PySem.W.Frag) (a : Addr) (g : TG) (tt : TT) (te : TE) (vs : List Nat) (σ : L2.St) (H1 : Hp) (D : Addr) (Qd : Hp → Prop) : Prop := ∃ W : Nat → Nat → Hp → Prop, (∃ m, W 0 m (upd H1 D (.lst []))) ∧ ∀ i m H, W i m H → ((Itl K a).stop i H ∧ Qd H) ∨ ((Itl K a).go i H ∧ ∃ Nx : Hp → Prop, (∀ H', Nx H' → ∃ m', m' < m ∧ W (i + 1) m' H') ∧ ∀ x H', (Itl K a).yld i H x H' → g x (wipe σ vs) H' fun σ2 H2 => wipe σ2 vs = wipe σ vs ∧ tt σ2 H2 fun b H3 => if b = true then te σ2 H3 fun y H4 => ∃ acc, H4 D = some (.lst acc) ∧ acc.length < sizeLine ∧ Nx (upd H4 D (.lst (acc ++ [y]))) else Nx H3)
/-- over rows of three: new rows -/
theorem lc_rows {K : PySem.W.Frag} {a D : Addr} {L : List (Addr × List Int)} {te : TE} {vs : List Nat} {σ : L2.St} {H1 : Hp} {i j k : Nat} {Qd : Hp → Prop} (f : List Int → List Int) (hS : Rws K H1 a L) (h3 : ∀ r ∈ L, EdgeR r.2) (hn : L.length ≤ 10000) (hD : H1 D = none)
    (hw : ∀ x y z, wipe ((((wipe σ vs).set i (some x)).set j (some y)).set k (some z)) vs = wipe σ vs)
    (hte : ∀ (x y s : Int) (H : Hp) (Q : VK), (∀ p H', Same H H' → Row H' p (f [x, y, s]) → Q (.ref p) H') → te ((((wipe σ vs).set i (some (.int x))).set j (some (.int y))).set k (some (.int s))) H Q)
    (hd : ∀ L' H', Same H1 H' → NewRws H' D L' → L'.map (·.2) = (L.map (·.2)).map f → Qd H') :
    LcP K a (gTup K 3 (gCons (gName i) (gCons (gName j) (gCons (gName k) gNil)))) tYes te vs σ H1 D Qd := by
  refine walk_it (walk_list (K := K) (a := a) (xs := L.map fun q => V.ref q.1)) (fun n H' => Same H1 H' ∧ ∃ L', NewRws H' D L' ∧ L'.map (·.2) = ((L.take n).map (·.2)).map f)
    ⟨same_new hD, [], ⟨upd_same, fun _ z => nomatch z⟩, rfl⟩ (fun n H' hn p => same_sql p.1 hS.1) (fun n x H2 H3 hn1 p y => ?_) fun H2 p => ?_
  · obtain ⟨sm, L', nr, eL⟩ := p
    obtain ⟨rfl, hx⟩ := y
    obtain ⟨r, hr', rfl, er⟩ := (hS.same sm).at hx
    have hi' : n < L.length := (List.getElem?_eq_some_iff.mp hr').1
    obtain ⟨x, y, s, ek, hs⟩ := h3 r (List.mem_of_getElem? hr')
    have er3 : Row H3 r.1 [x, y, s] := by
      rw [← ek]
      exact er
    refine ⟨r.1, _, rfl, tupT er3, rfl, _, _, rfl, _, _, rfl, _, _, rfl, rfl, hw _ _ _, hte x y s H3 _ fun p H4 s4 ep => ?_⟩
    have lL : L'.length = n := by
      have z := congrArg List.length eL
      rw [List.length_map, List.length_map, List.length_map, List.length_take] at z
      omega
    have nD : ∀ {b : Addr} {xs : List V}, H4 b = some (.tup xs) → b ≠ D := fun {b xs} z y => by
      rw [y, s4 _ _ nr.1] at z
      cases z
    refine ⟨_, s4 _ _ nr.1, ?_, fun b o hb => ?_, L' ++ [(p, f r.2)], ⟨?_, fun u hu => ?_⟩, ?_⟩
    · rw [List.length_map, lL]
      exact size_lt (m := 10000) (by omega) (by decide)
    · rw [upd_ne (ne_of_none hb hD)]
      exact s4 _ _ (sm _ _ hb)
    · rw [upd_same, List.map_append]
      rfl
    · have z : Row H4 u.1 u.2 := (List.mem_append.mp hu).elim (fun z => s4 _ _ (nr.2 u z)) fun z => by
        rw [List.mem_singleton.mp z, ek]
        exact ep
      show upd _ _ _ _ = _
      rw [upd_ne (nD z)]
      exact z
    · rw [List.map_append, eL, take_row hr', List.map_append, List.map_append]
      rfl
  · obtain ⟨sm, L', nr, eL⟩ := p
    rw [List.length_map, List.take_length] at eL
    exact hd L' H2 sm nr eL
/-- a slice of rows -/
def cutR (L : List (Addr × List Int)) (lo hi : Option Int) : List (Addr × List Int) := (L.drop (HT.sIx L.length 0 lo)).take (HT.sIx L.length L.length hi - HT.sIx L.length 0 lo)
theorem cutR_map (L : List (Addr × List Int)) (lo hi : Option Int) : cutV (L.map fun q => V.ref q.1) lo hi = (cutR L lo hi).map fun q => V.ref q.1 := by
  unfold cutV cutR
  rw [List.length_map, List.map_take, List.map_drop]
theorem cutR_sub {L : List (Addr × List Int)} {lo hi : Option Int} : ∀ r ∈ cutR L lo hi, r ∈ L := fun r hr => List.mem_of_mem_drop (List.mem_of_mem_take hr)
theorem cutR_len {L : List (Addr × List Int)} {lo hi : Option Int} : (cutR L lo hi).length ≤ L.length := by
  unfold cutR
  rw [List.length_take, List.length_drop]
  omega
/-- a row, moved -/
def mvR (dx dy : Int) : List Int → List Int
  | [x, y, s] => [x + dx, y + dy, s]
  | k => k
theorem mvR_inj {dx dy : Int} {k l : List Int} (hk : EdgeR k) (hl : EdgeR l) (h : mvR dx dy k = mvR dx dy l) : k = l := by
  obtain ⟨x, y, s, rfl, _⟩ := hk
  obtain ⟨u, v, t, rfl, _⟩ := hl
  have h : [x + dx, y + dy, s] = [u + dx, v + dy, t] := h
  injection h with h1 h
  injection h with h2 h
  injection h with h3 h
  rw [show x = u by omega, show y = v by omega, h3]
theorem mvR_edge {dx dy : Int} {k : List Int} (hk : EdgeR k) : EdgeR (mvR dx dy k) := by
  obtain ⟨x, y, s, rfl, hs⟩ := hk
  exact ⟨_, _, _, rfl, hs⟩
theorem mvR_far {dx dy : Int} {k : List Int} {B C : Nat} (hk : EdgeR k) (h : ∀ n ∈ k, n.natAbs ≤ B) (hx : dx.natAbs + B < C) (hy : dy.natAbs + B < C) : ∀ n ∈ mvR dx dy k, n.natAbs < C := by
  obtain ⟨x, y, s, rfl, hs⟩ := hk
  have h1 := h x (by simp)
  have h2 := h y (by simp)
  have h3 := h s (by simp)
  intro n hn
  have hn : n ∈ [x + dx, y + dy, s] := hn
  simp only [List.mem_cons, List.not_mem_nil, or_false] at hn
  rcases hn with rfl | rfl | rfl <;> omega
section
variable {P : Program} {w : World} {K : PySem.W.Frag} {mg : Str → Option Value} {base : Heap}
def spSketch : Sp := fun vs H Q _ => ∃ (t : Addr) (c most : Nat) (wo : Int), vs = [.ref t, .int most, .int wo] ∧ Tk H t c ∧ c ≤ 50000 ∧ 1 ≤ most ∧ most ≤ 400 ∧ 1 ≤ wo ∧ wo.natAbs < 2 ^ 390 ∧
  ∀ p L c' H', Keep t H H' → Tk H' t c' → c ≤ c' → c' ≤ c + 3000 → NewRws H' p L → Edges L → L.length ≤ 800 → (∀ r ∈ L, ∀ n ∈ r.2, n.natAbs < 2 ^ 395) → Q (.ref p) H'
theorem ok_sketch (D : Ds K) (T : Tx K mg) : FnOk P w K mg base CX0 4 (d_law_sketch.adr K) D.fd__law_sketch ["ink", "most", "wide_off"] spSketch := by
  have GD : FnOk P w K mg base CX0 1 _ _ _ spDip := ok_dip D T
  have GT : FnOk P w K mg base CX0 1 _ _ _ (spToggle K) := ok_toggle D T
  have GF : FnOk P w K mg base CX0 1 _ _ _ spFrame := ok_frame D T
  refine D.F__law_sketch.ok sc_law_sketch (fun vs H Q E h => ?_) (fun cdv A outer s H vs Q E hr h => ?_)
  · obtain ⟨t, c, most, wo, rfl, _⟩ := h
    rfl
  · obtain ⟨t, c, most, wo, rfl, tk, hc, m1, m2, w1, w2, q⟩ := h
    have nd := sc_law_sketch.nd
    refine ⟨_, PSs.nox (pss_cons (ps_asg (pe_tup (pa_cons (pe_call GD (hr.mono (by decide)) (by rfl) T.g__law_dip D.F__law_dip.kp (b__law_dip D) .nil pass0 (pa_cons (pv 0) (pa_cons pe_int pa_nil))) (pa_cons (pe_op op_add pe_int (pe_call GD (hr.mono (by decide)) (by rfl) T.g__law_dip D.F__law_dip.kp (b__law_dip D) .nil pass0 (pa_cons (pv 0) (pa_cons (pe_ix ix_list (pe_lst (pa_cons pe_int (pa_cons pe_int pa_nil))) (pe_call GD (hr.mono (by decide)) (by rfl) T.g__law_dip D.F__law_dip.kp (b__law_dip D) .nil pass0 (pa_cons (pv 0) (pa_cons pe_int pa_nil))) (fun _ _ => rfl)) pa_nil)))) (pa_cons pe_dnewT (pa_cons (pe_lst (pa_cons pe_int (pa_cons pe_int pa_nil))) pa_nil))))) (pg_tup (by rfl) (pgs_cons (pg_name (i := 3) nd rfl (.inl rfl)) (pgs_cons (pg_name (i := 4) nd rfl (.inl rfl)) (pgs_cons (pg_name (i := 5) nd rfl (.inl rfl)) (pgs_cons (pg_name (i := 6) nd rfl (.inl rfl)) pgs_nil))))))
      (pss_cons (ps_set (i := 7) nd rfl (.inl rfl) (pe_ix ix_list (pe_lst (pa_cons (pe_call GD (hr.mono (by decide)) (by rfl) T.g__law_dip D.F__law_dip.kp (b__law_dip D) .nil pass0 (pa_cons (pv 0) (pa_cons (pe_op op_add (pv 1) pe_int) pa_nil))) (pa_cons (pe_call GD (hr.mono (by decide)) (by rfl) T.g__law_dip D.F__law_dip.kp (b__law_dip D) .nil pass0 (pa_cons (pv 0) (pa_cons (pe_op op_add (pe_callB (call_min2 rfl) (by rfl) T.z_min (by decide +kernel) (pa_cons (pv 1) (pa_cons pe_int pa_nil))) pe_int) pa_nil))) (pa_cons (pv 1) pa_nil)))) (pe_call GD (hr.mono (by decide)) (by rfl) T.g__law_dip D.F__law_dip.kp (b__law_dip D) .nil pass0 (pa_cons (pv 0) (pa_cons pe_int pa_nil))) (fun _ _ => rfl)))
      (pss_cons (ps_for PassesOwn.never rfl (pi_range1 (by rfl) T.z_range (pa_cons (pe_ifExp (pt_cmpR op_eq (pv 3) pe_int (nomark _)) (pe_op op_fdiv (pv 7) pe_int) (pv 7)) pa_nil)) (pg_name (i := 8) nd rfl (.inl rfl)) (pss_cons (ps_par3 (i := 9) (j := 10) (l := 11) (by rfl) nd rfl rfl rfl (by decide) (by decide) (by decide) rfl rfl rfl (pa_cons (pe_call GD (hr.mono (by decide)) (by rfl) T.g__law_dip D.F__law_dip.kp (b__law_dip D) .nil pass0 (pa_cons (pv 0) (pa_cons pe_int pa_nil))) (pa_cons (pe_call GD (hr.mono (by decide)) (by rfl) T.g__law_dip D.F__law_dip.kp (b__law_dip D) .nil pass0 (pa_cons (pv 0) (pa_cons (pv 4) pa_nil))) (pa_cons (pe_call GD (hr.mono (by decide)) (by rfl) T.g__law_dip D.F__law_dip.kp (b__law_dip D) .nil pass0 (pa_cons (pv 0) (pa_cons (pv 4) pa_nil))) pa_nil))) (by rfl))
      (pss_cons (ps_if (pt_cmpR op_eq (pv 3) pe_int (nomark _)) (pss_cons (ps_set (i := 12) nd rfl (.inl rfl) (pe_call GD (hr.mono (by decide)) (by rfl) T.g__law_dip D.F__law_dip.kp (b__law_dip D) .nil pass0 (pa_cons (pv 0) (pa_cons pe_int pa_nil))))
      (pss_cons (ps_asg (pe_op op_sub (pe_ix ix_list (pv 6) (pv 9) (fun _ _ => rfl)) (pv 12)) (pg_sub (pv 6) (pv 9) set_list))
      (pss_cons (ps_par (i := 10) (j := 11) (by rfl) nd rfl rfl (by decide) rfl rfl (pa_cons (pe_ix ix_list (pv 6) pe_int (fun _ _ => rfl)) (pa_cons (pe_ix ix_list (pv 6) pe_int (fun _ _ => rfl)) pa_nil)) (by rfl))
      (pss_one (ps_asg (pe_op op_sub (pe_op op_add (pe_ix ix_list (pv 6) (pv 9) (fun _ _ => rfl)) pe_int) (pv 12)) (pg_sub (pv 6) (pv 9) set_list)))))) pss_nil)
      (pss_cons (ps_set (i := 13) nd rfl (.inl rfl) (pe_ix ix_list (pe_lst (pa_cons (pe_tup (pa_cons (pv 10) (pa_cons (pv 11) (pa_cons (pv 9) pa_nil)))) (pa_cons (pe_tup (pa_cons (pv 10) (pa_cons (pv 11) (pa_cons (pv 9) pa_nil)))) (pa_cons (pe_tup (pa_cons pe_int (pa_cons pe_int (pa_cons pe_int pa_nil)))) (pa_cons (pe_tup (pa_cons (pv 8) (pa_cons pe_int (pa_cons pe_int pa_nil)))) (pa_cons (pe_tup (pa_cons (pe_op op_fdiv (pv 8) pe_int) (pa_cons (pe_op op_mod (pv 10) pe_int) (pa_cons (pv 9) pa_nil)))) pa_nil)))))) (pv 3) (fun _ _ => rfl)))
      (pss_one (ps_expr (pe_call GT (hr.mono (by decide)) (by rfl) T.g__law_toggle D.F__law_toggle.kp (b__law_toggle D) .nil pass0 (pa_cons (pv 5) (pa_cons (pe_ifExp (pt_cmpR op_eq (pv 3) pe_int (nomark _)) (pe_call GF (hr.mono (by decide)) (by rfl) T.g__law_frame D.F__law_frame.kp (b__law_frame D) .nil pass0 (pa_cons (pv 10) (pa_cons (pv 11) pa_nil))) (pe_lst (pa_cons (pv 13) pa_nil))) pa_nil)))))))))
      (pss_cons (ps_set (i := 14) nd rfl (.inl rfl) (pe_callB (cr_sortD rfl) (by rfl) T.z_sorted (by decide +kernel) (pa_cons (pv 5) pa_nil)))
      (pss_cons (ps_set (i := 15) nd rfl (.inl rfl) (pe_ix ix_list (pe_lst (pa_cons pe_int (pa_cons (pe_call GD (hr.mono (by decide)) (by rfl) T.g__law_dip D.F__law_dip.kp (b__law_dip D) .nil pass0 (pa_cons (pv 0) (pa_cons (pe_op op_add (pe_callB call_len_seq (by rfl) T.z_len PySem.boot_len (pa_cons (pv 14) pa_nil)) pe_int) pa_nil))) pa_nil))) (pe_call GD (hr.mono (by decide)) (by rfl) T.g__law_dip D.F__law_dip.kp (b__law_dip D) .nil pass0 (pa_cons (pv 0) (pa_cons pe_int pa_nil))) (fun _ _ => rfl)))
      (pss_cons (ps_asg (pe_tup (pa_cons (pe_op op_sub (pe_call GD (hr.mono (by decide)) (by rfl) T.g__law_dip D.F__law_dip.kp (b__law_dip D) .nil pass0 (pa_cons (pv 0) (pa_cons (pv 2) pa_nil))) (pe_op op_fdivW (pv 2) pe_int)) (pa_cons (pe_op op_sub (pe_call GD (hr.mono (by decide)) (by rfl) T.g__law_dip D.F__law_dip.kp (b__law_dip D) .nil pass0 (pa_cons (pv 0) (pa_cons (pv 2) pa_nil))) (pe_op op_fdivW (pv 2) pe_int)) pa_nil))) (pg_tup (by rfl) (pgs_cons (pg_name (i := 16) nd rfl (.inr rfl)) (pgs_cons (pg_name (i := 17) nd rfl (.inr rfl)) pgs_nil))))
      (pss_cons (ps_set (i := 14) nd rfl (.inl rfl) (pe_op op_cat (pe_lc (own := [(("x" : Str), 10), (("y" : Str), 11), (("side" : Str), 9)]) (g := gTup K 3 (gCons (gName 10) (gCons (gName 11) (gCons (gName 9) gNil)))) (tt := tYes) (te := tTup (tCons (tOp (rI0 fun i j => .int (i + j)) (tVar 10) (tC (.int 20))) (tCons (tOp (rI0 fun i j => .int (i - j)) (tVar 11) (tC (.int 17))) (tCons (tVar 9) tNil)))) rfl nd (pi_list (pe_slice sl_list (pv 14) po_none (po_some (pv 15)))) (blkOk_by (own := [(("x" : Str), 10), (("y" : Str), 11), (("side" : Str), 9)]) (N := N_law_sketch) (sc := defScope s_law_sketch) (by decide +kernel)) (fun _ _ _ _ _ => pg_tup rfl (pgs_cons (pg_name (i := 10) nd rfl (Or.inl rfl)) (pgs_cons (pg_name (i := 11) nd rfl (Or.inl rfl)) (pgs_cons (pg_name (i := 9) nd rfl (Or.inl rfl)) pgs_nil)))) (fun _ _ _ _ _ => pts_nil) (fun _ _ _ _ _ => (pe_tup (pa_cons (pe_op op_add (pv 10) pe_int) (pa_cons (pe_op op_sub (pv 11) pe_int) (pa_cons (pv 9) pa_nil)))))) (pe_slice sl_list (pv 14) (po_some (pv 15)) po_none)))
      (pss_cons (ps_setLc (i := 13) (own := [(("x" : Str), 10), (("y" : Str), 11), (("side" : Str), 9)]) (g := gTup K 3 (gCons (gName 10) (gCons (gName 11) (gCons (gName 9) gNil)))) (tt := tYes) (te := tTup (tCons (tOp (rI0 fun i j => .int (i + j)) (tVar 10) (tVar 16)) (tCons (tOp (rI0 fun i j => .int (i + j)) (tVar 11) (tVar 17)) (tCons (tVar 9) tNil)))) rfl nd rfl rfl (sw_true rfl rfl rfl (by decide +kernel)) (pi_list (pe_callB (cr_sortT rfl) (by rfl) T.z_sorted (by decide +kernel) (pa_cons (pe_callTy (cr_setT rfl hr.units) (by rfl) T.z_set (by decide +kernel) (pa_cons (pv 14) pa_nil)) pa_nil))) (blkOk_by (own := [(("x" : Str), 10), (("y" : Str), 11), (("side" : Str), 9)]) (N := N_law_sketch) (sc := defScope s_law_sketch) (by decide +kernel)) (fun _ _ _ _ _ => pg_tup rfl (pgs_cons (pg_name (i := 10) nd rfl (Or.inl rfl)) (pgs_cons (pg_name (i := 11) nd rfl (Or.inl rfl)) (pgs_cons (pg_name (i := 9) nd rfl (Or.inl rfl)) pgs_nil)))) (fun _ _ _ _ _ => pts_nil) (fun _ _ _ _ _ => (pe_tup (pa_cons (pe_op op_add (pv 10) (pv 16)) (pa_cons (pe_op op_add (pv 11) (pv 17)) (pa_cons (pv 9) pa_nil))))))
      (pss_one (ps_ret (pe_ifExp (pt_cmpR op_eq (pe_call GD (hr.mono (by decide)) (by rfl) T.g__law_dip D.F__law_dip.kp (b__law_dip D) .nil pass0 (pa_cons (pv 0) (pa_cons pe_int pa_nil))) pe_int (nomark _)) (pv 13) (pe_revL (pv 13))))))))))))), ?_⟩
    -- way, wide, found, place
    refine ⟨_, rfl, t, 5, c, rfl, tk, by omega, by decide, by decide, fun way ca Ha ka tka ca1 ca2 wy0 wy1 => ?_⟩
    refine ⟨_, rfl, big2, fun pa hpa => ?_⟩
    have tpa : t ≠ pa := tka.ne hpa
    refine ⟨_, rfl, t, 2, ca, rfl, tka.same (same_new hpa), by omega, by decide, by decide, fun v2 cb Hb kb tkb cb1 cb2 v20 v21 => ?_⟩
    have epa : Hb pa = some (.lst [.int 3, .int 14]) := kb _ _ (Ne.symm tpa) upd_same
    obtain ⟨wd, hwd, wd1, wd2⟩ : ∃ wd : Int, atI [V.int 3, V.int 14] v2 = some (.int wd) ∧ 3 ≤ wd ∧ wd ≤ 14 := by
      rcases (by omega : v2 = 0 ∨ v2 = 1) with rfl | rfl
      · exact ⟨3, atI_nat (j := 0) rfl, by decide, by decide⟩
      · exact ⟨14, atI_nat (j := 1) rfl, by decide, by decide⟩
    refine ⟨pa, _, v2, _, rfl, rfl, lstL epa, hwd, ?_⟩
    refine ⟨t, wd, cb, rfl, tkb, by omega, by omega, by omega, fun w0 cc Hc kc tkc cc1 cc2 w00 w01 => ?_⟩
    refine ⟨_, _, rfl, rfl, fun f hf => ⟨big2, fun pl hpl => ⟨big4, fun p4 hp4 => ?_⟩⟩⟩
    refine ⟨p4, _, rfl, tupT upd_same, rfl, _, _, rfl, _, _, rfl, _, _, rfl, _, _, rfl, rfl, ?_⟩
    have kHc : Keep t H Hc := ka.trans (Keep.trans (Same.keep (same_new hpa)) (kb.trans kc))
    have sf := same_new (o := .dT []) hf
    have spl := same_new (o := .lst [.int 0, .int 0]) hpl
    have sp4 := same_new (o := .tup [.int way, .int (1 + w0), .ref f, .ref pl]) hp4
    have hfH : H f = none := kHc.back tkc.some hf
    have hplH : H pl = none := (kHc.trans (Same.keep sf)).back (tkc.same sf).some hpl
    have tf : t ≠ f := tkc.ne hf
    have tpl : t ≠ pl := (tkc.same sf).ne hpl
    have fpl : f ≠ pl := ne_of_none upd_same hpl
    generalize e1 : upd (upd (upd Hc f (.dT [])) pl (.lst [.int 0, .int 0])) p4 (.tup [.int way, .int (1 + w0), .ref f, .ref pl]) = H1 at *
    have kH1 : Keep t H H1 := kHc.trans (Same.keep (sf.trans (spl.trans sp4)))
    have tk1 : Tk H1 t cc := tkc.same (sf.trans (spl.trans sp4))
    have ef1 : H1 f = some (.dT (dI [])) := (spl.trans sp4) _ _ upd_same
    have epl1 : H1 pl = some (.lst [.int 0, .int 0]) := sp4 _ _ upd_same
    clear e1 sf spl sp4 hp4 hpl hf kc kb ka kHc
    -- many
    refine ⟨_, rfl, _, rfl, _, _, rfl, rfl, t, (most : Int) + 1, cc, rfl, tk1, by omega, by omega, by omega, fun r1 cd Hd kd tkd cd1 cd2 r10 r11 => ?_⟩
    refine ⟨_, rfl, _, rfl, _, _, rfl, _, _, rfl, rfl, t, (if (9 : Int) < (most : Int) then 9 else (most : Int)) + 1, cd, rfl, tkd, by omega, by split <;> omega, by split <;> omega, fun r2 ce He ke tke ce1 ce2 r20 r21 => ?_⟩
    have r2m : r2 ≤ most := by
      split at r21 <;> omega
    refine ⟨_, rfl, big3, fun pm hpm => ?_⟩
    refine ⟨_, rfl, t, 3, ce, rfl, tke.same (same_new hpm), by omega, by decide, by decide, fun v3 cg Hg kg tkg cg1 cg2 v30 v31 => ?_⟩
    have epm : Hg pm = some (.lst [.int r1, .int r2, .int most]) := kg _ _ (tke.ne hpm).symm upd_same
    obtain ⟨many, hmany, mm1⟩ : ∃ many : Nat, atI [V.int r1, V.int r2, V.int most] v3 = some (.int many) ∧ many ≤ most := by
      rcases (by omega : v3 = 0 ∨ v3 = 1 ∨ v3 = 2) with rfl | rfl | rfl
      · exact ⟨r1.toNat, by rw [show ((r1.toNat : Nat) : Int) = r1 by omega]; exact atI_nat (j := 0) rfl, by omega⟩
      · exact ⟨r2.toNat, by rw [show ((r2.toNat : Nat) : Int) = r2 by omega]; exact atI_nat (j := 1) rfl, by omega⟩
      · exact ⟨most, atI_nat (j := 2) rfl, Nat.le_refl _⟩
    refine ⟨pm, _, v3, _, rfl, rfl, lstL epm, hmany, ?_⟩
    have kHg : Keep t H1 Hg := kd.trans (ke.trans (Keep.trans (Same.keep (same_new hpm)) kg))
    have kH2 : Keep t H Hg := kH1.trans kHg
    have ef2 : Hg f = some (.dT (dI [])) := kHg _ _ (Ne.symm tf) ef1
    have epl2 : Hg pl = some (.lst [.int 0, .int 0]) := kHg _ _ (Ne.symm tpl) epl1
    clear kHg kd ke kg hpm epm hmany ef1 epl1 tk1 tkd tke kH1
    -- the loop
    obtain ⟨n, hn1, hn2⟩ : ∃ n : Nat, (way = 2 → (n : Int) = (many : Int) / 4) ∧ (way ≠ 2 → n = many) := by
      by_cases e : way = 2
      · exact ⟨many / 4, fun _ => by omega, fun z => absurd e z⟩
      · exact ⟨many, fun z => absurd z e, fun _ => rfl⟩
    refine tIf_eq (i := 3) (n := way) rfl (fun Q => Q (.int n) Hg) (fun e Q q => ?_) (fun e Q q => ?_) ?_
    · refine ⟨_, rfl, _, _, rfl, rfl, ⟨by decide, by decide⟩, ?_⟩
      show Q (.int ((many : Int) / 4)) Hg
      rw [← hn1 e]
      exact q
    · refine ⟨_, rfl, ?_⟩
      rw [← hn2 e]
      exact q
    have nm : n ≤ 400 := by
      by_cases e : way = 2
      · have := hn1 e
        omega
      · have := hn2 e
        omega
    refine ⟨(n : Int), rfl, by omega, by omega, ?_⟩
    refine for_range (lo := 0) (n := (n : Int).toNat) (fun i σ H' => ∃ (M : List (List Int × V)) (c' : Nat) (a b : Int) (z8 z9 z10 z11 z12 z13 : Option V), Keep t H H' ∧ Tk H' t c' ∧ cc ≤ c' ∧ c' ≤ cg + 4 * i ∧ H' f = some (.dT (dI M)) ∧ Once M ∧ (∀ p ∈ M, Ek p.1) ∧ M.length ≤ (if way = 2 then 4 else 1) * i ∧
        H' pl = some (.lst [.int a, .int b]) ∧ a.natAbs ≤ 2 * i ∧ b.natAbs ≤ 2 * i ∧ σ = [some (.ref t), some (.int most), some (.int wo), some (.int way), some (.int (1 + w0)), some (.ref f), some (.ref pl), some (.int many), z8, z9, z10, z11, z12, z13, none, none, none, none])
      ⟨[], cg, 0, 0, none, none, none, none, none, none, kH2, tkg, by omega, by omega, ef2, List.nodup_nil, fun _ z => (nomatch z), Nat.zero_le _, epl2, by decide, by decide, rfl⟩ (fun i σ' H3 hi hp => ?_) fun σ' H3 hp => ?_
    · obtain ⟨M, c', a, b, z8, z9, z10, z11, z12, z13, kp, tkp, cp1, cp2, efp, ho, hM, hMl, eplp, ba, bb, rfl⟩ := hp
      have hi2 : i < n := by omega
      refine ⟨_, rfl, t, 2, c', rfl, tkp, by omega, by decide, by decide, fun sd c1 Ha ka tka ca1 ca2 sd0 sd1 => ⟨_, rfl, _, rfl, t, 1 + w0, c1, rfl, tka, by omega, by omega, by omega, fun xx c2 Hb kb tkb cb1 cb2 x0 x1 => ⟨_, rfl, _, rfl, t, 1 + w0, c2, rfl, tkb, by omega, by omega, by omega, fun yy c3 Hc kc tkc cc1 cc2 y0 y1 => ⟨_, _, _, rfl, ?_⟩⟩⟩⟩
      have kc3 : Keep t H3 Hc := ka.trans (kb.trans kc)
      have efc : Hc f = some (.dT (dI M)) := kc3 _ _ (Ne.symm tf) efp
      have eplc : Hc pl = some (.lst [.int a, .int b]) := kc3 _ _ (Ne.symm tpl) eplp
      refine sIf_eq (i := 3) (n := way) rfl (fun σ' H' => ∃ (x y a' b' : Int) (c4 : Nat) (y12 : Option V), σ' = [some (.ref t), some (.int most), some (.int wo), some (.int way), some (.int (1 + w0)), some (.ref f), some (.ref pl), some (.int many), some (.int (0 + (i : Int))), some (.int sd), some (.int x), some (.int y), y12, z13, none, none, none, none] ∧ Keep t H H' ∧ Tk H' t c4 ∧ c' ≤ c4 ∧ c4 ≤ c' + 4 ∧
        H' f = some (.dT (dI M)) ∧ H' pl = some (.lst [.int a', .int b']) ∧ a'.natAbs ≤ 2 * (i + 1) ∧ b'.natAbs ≤ 2 * (i + 1) ∧ x.natAbs ≤ 1500 ∧ y.natAbs ≤ 1500) (fun e D' fin => ?_) (fun e => ?_) (fun σ' H4 hp => ?_)
      · refine ⟨_, rfl, t, 2, c3, rfl, tkc, by omega, by decide, by decide, fun bk c4 Hd kd tkd cd1 cd2 b0 b1 => ?_⟩
        have epld : Hd pl = some (.lst [.int a, .int b]) := kd _ _ (Ne.symm tpl) eplc
        have efd : Hd f = some (.dT (dI M)) := kd _ _ (Ne.symm tf) efc
        have kfin : ∀ o1 o2, Keep t H (upd (upd Hd pl o1) pl o2) := fun o1 o2 => Keep.fresh hplH (Keep.fresh hplH (kp.trans (kc3.trans kd)) keep_upd) keep_upd
        rcases (by omega : sd = 0 ∨ sd = 1) with rfl | rfl
        · refine ⟨_, rfl, _, rfl, pl, _, 0, _, rfl, rfl, lstL epld, atI_nat (j := 0) rfl, _, rfl, _, _, rfl, rfl, _, rfl, _, rfl, pl, _, 0, 0, rfl, rfl, epld, rfl, ?_⟩
          have g1 : upd Hd pl (.lst ([V.int a, V.int b].set 0 (.int (a - bk)))) pl = some (.lst [.int (a - bk), .int b]) := upd_same
          refine ⟨_, rfl, pl, _, 0, _, rfl, rfl, lstL g1, atI_nat (j := 0) rfl, _, rfl, pl, _, 1, _, rfl, rfl, lstL g1, atI_nat (j := 1) rfl, _, _, rfl, ?_⟩
          refine ⟨_, rfl, _, rfl, pl, _, 0, _, rfl, rfl, lstL g1, atI_nat (j := 0) rfl, _, _, rfl, rfl, _, rfl, _, _, rfl, rfl, _, rfl, _, rfl, pl, _, 0, 0, rfl, rfl, g1, rfl, ?_⟩
          refine fin _ _ ⟨a - bk, b, a - bk + 1 - bk, b, c4, some (.int bk), rfl, kfin _ _, Keep.tk (Keep.tk tkd tpl keep_upd) tpl keep_upd, by omega, by omega, ?_, upd_same, by omega, by omega, by omega, by omega⟩
          rw [upd_ne fpl, upd_ne fpl]
          exact efd
        · refine ⟨_, rfl, _, rfl, pl, _, 1, _, rfl, rfl, lstL epld, atI_nat (j := 1) rfl, _, rfl, _, _, rfl, rfl, _, rfl, _, rfl, pl, _, 1, 1, rfl, rfl, epld, rfl, ?_⟩
          have g1 : upd Hd pl (.lst ([V.int a, V.int b].set 1 (.int (b - bk)))) pl = some (.lst [.int a, .int (b - bk)]) := upd_same
          refine ⟨_, rfl, pl, _, 0, _, rfl, rfl, lstL g1, atI_nat (j := 0) rfl, _, rfl, pl, _, 1, _, rfl, rfl, lstL g1, atI_nat (j := 1) rfl, _, _, rfl, ?_⟩
          refine ⟨_, rfl, _, rfl, pl, _, 1, _, rfl, rfl, lstL g1, atI_nat (j := 1) rfl, _, _, rfl, rfl, _, rfl, _, _, rfl, rfl, _, rfl, _, rfl, pl, _, 1, 1, rfl, rfl, g1, rfl, ?_⟩
          refine fin _ _ ⟨a, b - bk, a, b - bk + 1 - bk, c4, some (.int bk), rfl, kfin _ _, Keep.tk (Keep.tk tkd tpl keep_upd) tpl keep_upd, by omega, by omega, ?_, upd_same, by omega, by omega, by omega, by omega⟩
          rw [upd_ne fpl, upd_ne fpl]
          exact efd
      · exact ⟨xx, yy, a, b, c3, z12, rfl, kp.trans kc3, tkc, by omega, by omega, efc, eplc, by omega, by omega, by omega, by omega⟩
      · obtain ⟨x, y, a', b', c4, y12, rfl, k4, tk4, c41, c42, ef4, epl4, ba', bb', bx, bY⟩ := hp
        have hsd : sd = 0 ∨ sd = 1 := by omega
        refine ⟨_, rfl, _, rfl, _, rfl, big3, fun p1 hp1 => ⟨_, rfl, _, rfl, _, rfl, big3, fun p2 hp2 => ⟨big3, fun p3 hp3 => ⟨_, rfl, big3, fun p4 hp4 => ?_⟩⟩⟩⟩
        refine ⟨_, rfl, _, _, rfl, rfl, ⟨by decide, by decide⟩, _, rfl, _, _, rfl, rfl, (by show (0 : Int) < 2; decide), _, rfl, big3, fun p5 hp5 => ⟨big5, fun pn hpn => ?_⟩⟩
        have s1 := same_new (o := .tup [.int x, .int y, .int sd]) hp1
        have s2 := same_new (o := .tup [.int x, .int y, .int sd]) hp2
        have s3 := same_new (o := .tup [.int 0, .int 0, .int 0]) hp3
        have s4 := same_new (o := .tup [.int (0 + (i : Int)), .int 0, .int 0]) hp4
        have s5 := same_new (o := .tup [.int ((0 + (i : Int)) / 2), .int (x % 2), .int sd]) hp5
        have s6 := same_new (o := .lst [.ref p1, .ref p2, .ref p3, .ref p4, .ref p5]) hpn
        generalize e9 : upd (upd (upd (upd (upd (upd H4 p1 (.tup [.int x, .int y, .int sd])) p2 (.tup [.int x, .int y, .int sd])) p3 (.tup [.int 0, .int 0, .int 0])) p4 (.tup [.int (0 + (i : Int)), .int 0, .int 0])) p5 (.tup [.int ((0 + (i : Int)) / 2), .int (x % 2), .int sd])) pn (.lst [.ref p1, .ref p2, .ref p3, .ref p4, .ref p5]) = H9 at *
        have s49 : Same H4 H9 := s1.trans (s2.trans (s3.trans (s4.trans (s5.trans s6))))
        have en : H9 pn = some (.lst [.ref p1, .ref p2, .ref p3, .ref p4, .ref p5]) := by
          rw [← e9]
          exact upd_same
        obtain ⟨pj, kj, hat, ej, ekj⟩ : ∃ (pj : Addr) (kj : List Int), atI [V.ref p1, V.ref p2, V.ref p3, V.ref p4, V.ref p5] way = some (.ref pj) ∧ Row H9 pj kj ∧ Ek kj := by
          rcases (by omega : way = 0 ∨ way = 1 ∨ way = 2 ∨ way = 3 ∨ way = 4) with rfl | rfl | rfl | rfl | rfl
          · exact ⟨p1, [x, y, sd], atI_nat (j := 0) rfl, s6 _ _ (s5 _ _ (s4 _ _ (s3 _ _ (s2 _ _ upd_same)))), ek_of hsd (by omega) (by omega)⟩
          · exact ⟨p2, [x, y, sd], atI_nat (j := 1) rfl, s6 _ _ (s5 _ _ (s4 _ _ (s3 _ _ upd_same))), ek_of hsd (by omega) (by omega)⟩
          · exact ⟨p3, [0, 0, 0], atI_nat (j := 2) rfl, s6 _ _ (s5 _ _ (s4 _ _ upd_same)), ek_of (.inl rfl) (by decide) (by decide)⟩
          · exact ⟨p4, [0 + (i : Int), 0, 0], atI_nat (j := 3) rfl, s6 _ _ (s5 _ _ upd_same), ek_of (.inl rfl) (by omega) (by decide)⟩
          · exact ⟨p5, [(0 + (i : Int)) / 2, x % 2, sd], atI_nat (j := 4) rfl, s6 _ _ upd_same, ek_of hsd (by omega) (by omega)⟩
        refine ⟨_, rfl, pn, _, way, _, rfl, rfl, lstL en, hat, ?_⟩
        refine ⟨_, rfl, ?_⟩
        refine tIf_eq (i := 3) (n := way) rfl (fun Q => ∀ (pa : Addr) (L : List (Addr × List Int)) (H' : Hp), Same H9 H' → NewRws H' pa L → (∀ r ∈ L, Ek r.2) → L.length ≤ (if way = 2 then 4 else 1) → Q (.ref pa) H') (fun e Q q => ?_) (fun e Q q => ?_) (fun pq L H10 s10 nr ekL lL => ?_)
        · refine ⟨_, rfl, _, rfl, x, y, rfl, fun p L H' s nr eL => q p L H' s nr (fun r hr1 => ?_) ?_⟩
          · have z : r.2 ∈ L.map (·.2) := List.mem_map.mpr ⟨r, hr1, rfl⟩
            rw [eL] at z
            simp only [List.mem_cons, List.not_mem_nil, or_false] at z
            rcases z with z | z | z | z <;> rw [z]
            · exact ek_of (.inl rfl) (by omega) (by omega)
            · exact ek_of (.inl rfl) (by omega) (by omega)
            · exact ek_of (.inr rfl) (by omega) (by omega)
            · exact ek_of (.inr rfl) (by omega) (by omega)
          · have z := congrArg List.length eL
            rw [List.length_map] at z
            rw [if_pos e, z]
            exact Nat.le_refl 4
        · refine ⟨_, rfl, by show 1 ≤ sizeLine; decide, fun p hp => q p [(pj, kj)] _ (same_new hp) ⟨upd_same, fun r hr1 => ?_⟩ (fun r hr1 => ?_) ?_⟩
          · rw [List.mem_singleton.mp hr1]
            exact same_new hp _ _ ej
          · rw [List.mem_singleton.mp hr1]
            exact ekj
          · rw [if_neg e]
            exact Nat.le_refl 1
        · have s410 : Same H4 H10 := s49.trans s10
          have lM : M.length ≤ 1600 := by
            split at hMl <;> omega
          have lL4 : L.length ≤ 4 := by
            split at lL <;> omega
          refine ⟨f, pq, M, L, Ek, rfl, s410 _ _ ef4, nr.rws, ho, by omega, hM, ekL, fun M' H11 kf ef11 ho' hM' hl' => ?_⟩
          have lM' : M'.length ≤ (if way = 2 then 4 else 1) * (i + 1) := by
            split at hMl <;> rename_i e7
            · rw [if_pos e7] at lL ⊢
              omega
            · rw [if_neg e7] at lL ⊢
              omega
          exact ⟨M', c4, a', b', _, _, _, _, _, _, Keep.fresh hfH (k4.trans (Same.keep s410)) kf, Keep.tk (tk4.same s410) tf kf, by omega, by omega, ef11, ho', hM', lM', kf _ _ (Ne.symm fpl) (s410 _ _ epl4), ba', bb', rfl⟩
    · obtain ⟨M, c1, a, b, z8, z9, z10, z11, z12, z13, kp, tkp, cp1, cp2, efp, ho, hM, hMl, eplp, ba, bb, rfl⟩ := hp
      have lM : M.length ≤ 400 := by
        split at hMl <;> rename_i e
        · have := hn1 e
          omega
        · have := hn2 e
          omega
      have hcc : c1 ≤ c + 2000 := by omega
      have hcl : c ≤ c1 := by omega
      clear hMl eplp ba bb cp1 cp2 kH2 tkg ef2 epl2
      refine ⟨_, rfl, f, M, 3, rfl, efp, by decide, fun p hp => (hM p hp).1.len, fun L1 p1 len1 asc1 mem1 rows1 hp1 => ?_⟩
      have s1 := same_new (o := .lst (L1.map fun q => V.ref q.1)) hp1
      generalize e1 : upd H3 p1 (.lst (L1.map fun q => V.ref q.1)) = H4 at *
      have nr1 : NewRws H4 p1 L1 := ⟨by rw [← e1]; exact upd_same, fun r hr1 => s1 _ _ (rows1 r hr1)⟩
      have ek1 : ∀ r ∈ L1, Ek r.2 := fun r hr1 => by
        have z := (mem1 r.2).mp (List.mem_map.mpr ⟨r, hr1, rfl⟩)
        obtain ⟨p, hp, e⟩ := List.mem_map.mp z
        rw [← e]
        exact hM p hp
      have k4 : Keep t H H4 := kp.trans (Same.keep s1)
      have tk4 : Tk H4 t c1 := tkp.same s1
      clear rows1 mem1 asc1 e1 efp hM ho s1 hp1 kp tkp
      -- cut
      refine ⟨_, rfl, _, rfl, p1, _, rfl, .inl (lstL nr1.1), _, _, rfl, rfl, t, _, c1, rfl, tk4, by omega, ?_, ?_, fun v1 c2 Ha ka tka ca1 ca2 v10 v11 => ?_⟩
      · rw [List.length_map]
        omega
      · rw [List.length_map]
        omega
      refine ⟨big2, fun pc hpc => ⟨_, rfl, t, 2, c2, rfl, tka.same (same_new hpc), by omega, by decide, by decide, fun v2 c3 Hb kb tkb cb1 cb2 v20 v21 => ?_⟩⟩
      have epc : Hb pc = some (.lst [.int 0, .int v1]) := kb _ _ (tka.ne hpc).symm upd_same
      obtain ⟨cut, hcut⟩ : ∃ cut : Int, atI [V.int 0, V.int v1] v2 = some (.int cut) := by
        rcases (by omega : v2 = 0 ∨ v2 = 1) with rfl | rfl
        · exact ⟨0, atI_nat (j := 0) rfl⟩
        · exact ⟨v1, atI_nat (j := 1) rfl⟩
      refine ⟨pc, _, v2, _, rfl, rfl, lstL epc, hcut, ?_⟩
      -- dx, dy
      have hw2 : (2 : Int) = 2 := rfl
      refine ⟨_, rfl, _, rfl, t, wo, c3, rfl, tkb, by omega, by omega, by omega, fun u1 c4 Hc kc tkc cc1 cc2 u10 u11 => ?_⟩
      refine ⟨_, rfl, _, _, rfl, rfl, wide_div (b := 400) (by decide) (by decide) (by decide) (by decide), _, _, rfl, rfl, ?_⟩
      refine ⟨_, rfl, _, rfl, t, wo, c4, rfl, tkc, by omega, by omega, by omega, fun u2 c5 Hd kd tkd cd1 cd2 u20 u21 => ?_⟩
      refine ⟨_, rfl, _, _, rfl, rfl, wide_div (b := 400) (by decide) (by decide) (by decide) (by decide), _, _, rfl, rfl, big2, fun p2 hp2 => ?_⟩
      refine ⟨p2, _, rfl, tupT upd_same, rfl, _, _, rfl, _, _, rfl, rfl, ?_⟩
      have hdx : (u1 - wo / 2).natAbs < 2 ^ 391 := by omega
      have hdy : (u2 - wo / 2).natAbs < 2 ^ 391 := by omega
      have s2 := same_new (o := .tup [.int (u1 - wo / 2), .int (u2 - wo / 2)]) hp2
      have k4d : Keep t H4 Hd := ka.trans (Keep.trans (Same.keep (same_new hpc)) (kb.trans (kc.trans kd)))
      have nt : t ≠ p1 := fun z => by
        obtain ⟨A, B, h1, _⟩ := tk4
        rw [z, nr1.1] at h1
        have z1 := congrArg (fun o : Option HO => match o with | some (.lst (V.int _ :: _)) => true | _ => false) h1
        cases L1 with
        | nil => cases z1
        | cons q L1 => cases z1
      have ntr : ∀ {b : Addr} {xs : List V}, H4 b = some (.tup xs) → b ≠ t := fun {b xs} z y => by
        obtain ⟨A, B, h1, _⟩ := tk4
        rw [y, h1] at z
        cases z
      have nrd : NewRws Hd p1 L1 := ⟨k4d _ _ (Ne.symm nt) nr1.1, fun r hr1 => k4d _ _ (ntr (show H4 r.1 = some (.tup (r.2.map V.int)) from nr1.2 r hr1)) (nr1.2 r hr1)⟩
      generalize e5 : upd Hd p2 (.tup [.int (u1 - wo / 2), .int (u2 - wo / 2)]) = H5 at *
      have nr5 : NewRws H5 p1 L1 := ⟨s2 _ _ nrd.1, fun r hr1 => s2 _ _ (nrd.2 r hr1)⟩
      have k5 : Keep t H H5 := k4.trans (k4d.trans (Same.keep s2))
      have tk5 : Tk H5 t c5 := tkd.same s2
      clear nrd ntr nt k4d kd kc kb ka epc hcut tka tkb tkc tkd tk4 nr1 k4 s2 e5 hp2 hpc
      -- lots
      refine ⟨_, rfl, _, rfl, cut, rfl, p1, _, rfl, lstL nr5.1, fun ps hps => ?_⟩
      rw [cutR_map] at *
      have s6 := same_new (o := .lst ((cutR L1 none (some cut)).map fun q => V.ref q.1)) hps
      have nr6 : NewRws (upd H5 ps (.lst ((cutR L1 none (some cut)).map fun q => V.ref q.1))) ps (cutR L1 none (some cut)) := ⟨upd_same, fun r hr1 => s6 _ _ (nr5.2 r (cutR_sub r hr1))⟩
      refine ⟨ps, rfl, ⟨_, lstL nr6.1⟩, fun D1 hD1 => ?_⟩
      have l6 : (cutR L1 none (some cut)).length ≤ 400 := Nat.le_trans cutR_len (by omega)
      refine lc_rows (K := K) (i := 10) (j := 11) (k := 9) (mvR 20 (-17)) nr6.rws (fun r hr1 => (ek1 r (cutR_sub r hr1)).1) (by omega) hD1 (fun x y z => rfl) (fun x y s H' Q q => ?_) fun L7 H7 s7 nr7 e7 => ?_
      · exact ⟨_, rfl, _, _, rfl, rfl, _, rfl, _, _, rfl, rfl, _, rfl, big3, fun p hp => q p _ (same_new hp) upd_same⟩
      have s57 : Same H5 H7 := s6.trans s7
      refine ⟨_, rfl, _, rfl, cut, rfl, p1, _, rfl, lstL (s57 _ _ nr5.1), fun pr hpr => ?_⟩
      rw [cutR_map]
      have s8 := same_new (o := .lst ((cutR L1 (some cut) none).map fun q => V.ref q.1)) hpr
      have l7 : L7.length ≤ 400 := by
        have z := congrArg List.length e7
        rw [List.length_map, List.length_map, List.length_map] at z
        omega
      have l8 : (cutR L1 (some cut) none).length ≤ 400 := Nat.le_trans cutR_len (by omega)
      refine ⟨D1, pr, _, _, rfl, rfl, s8 _ _ nr7.1, upd_same, ?_, fun p9 hp9 => ?_⟩
      · rw [List.length_map, List.length_map]
        exact Nat.le_of_lt (size_lt (m := 1000) (by omega) (by decide))
      rw [← List.map_append]
      have s9 := same_new (o := .lst ((L7 ++ cutR L1 (some cut) none).map fun q => V.ref q.1)) hp9
      have nr9 : NewRws (upd (upd H7 pr (.lst ((cutR L1 (some cut) none).map fun q => V.ref q.1))) p9 (.lst ((L7 ++ cutR L1 (some cut) none).map fun q => V.ref q.1))) p9 (L7 ++ cutR L1 (some cut) none) := ⟨upd_same, fun r hr1 => s9 _ _ (s8 _ _ ((List.mem_append.mp hr1).elim (fun z => nr7.2 r z) fun z => s57 _ _ (nr5.2 r (cutR_sub r z))))⟩
      have near9 : ∀ r ∈ L7 ++ cutR L1 (some cut) none, EdgeR r.2 ∧ ∀ n ∈ r.2, n.natAbs ≤ 3000 := fun r hr1 => by
        rcases List.mem_append.mp hr1 with z | z
        · have z2 : r.2 ∈ L7.map (·.2) := List.mem_map.mpr ⟨r, z, rfl⟩
          rw [e7] at z2
          obtain ⟨k, hk, e⟩ := List.mem_map.mp z2
          obtain ⟨u, hu, rfl⟩ := List.mem_map.mp hk
          have ee := ek1 u (cutR_sub u hu)
          rw [← e]
          exact ⟨mvR_edge ee.1, fun n hn => Nat.le_of_lt_succ (mvR_far ee.1 ee.2 (C := 3001) (by decide) (by decide) n hn)⟩
        · have ee := ek1 r (cutR_sub r z)
          exact ⟨ee.1, fun n hn => Nat.le_trans (ee.2 n hn) (by decide)⟩
      have l9 : (L7 ++ cutR L1 (some cut) none).length ≤ 800 := by
        rw [List.length_append]
        omega
      have s59 := s57.trans (s8.trans s9)
      generalize e9 : upd (upd H7 pr (.lst ((cutR L1 (some cut) none).map fun q => V.ref q.1))) p9 (.lst ((L7 ++ cutR L1 (some cut) none).map fun q => V.ref q.1)) = H9 at *
      generalize L7 ++ cutR L1 (some cut) none = L9 at *
      have k9 : Keep t H H9 := k5.trans (Same.keep s59)
      have tk9 : Tk H9 t c5 := tk5.same s59
      clear s59 e9 s9 s8 s57 s7 s6 nr5 nr6 nr7 e7 l6 l7 l8 hp9 hpr hD1 hps ek1 k5 tk5
      -- some
      refine ⟨_, rfl, p9, L9, rfl, nr9.rws.1, fun r hr1 => tupT (nr9.2 r hr1), by omega, fun sa S hsa in1 in2 ndS => ?_⟩
      have sS := same_new (o := SetW P w sa S) hsa
      refine ⟨sa, S, 3, rfl, upd_same, by decide, fun r hr1 => ⟨sS _ _ (nr9.2 r (in1 r hr1)), (near9 r (in1 r hr1)).1.len⟩, fun L10 p10 in10 len10 asc10 mem10 hp10 => ?_⟩
      have s10 := same_new (o := .lst (L10.map fun q => V.ref q.1)) hp10
      have near10 : ∀ r ∈ L10, EdgeR r.2 ∧ ∀ n ∈ r.2, n.natAbs ≤ 3000 := fun r hr1 => near9 r (in1 r (in10 r hr1))
      have nr10 : NewRws (upd (upd H9 sa (SetW P w sa S)) p10 (.lst (L10.map fun q => V.ref q.1))) p10 L10 := ⟨upd_same, fun r hr1 => s10 _ _ (sS _ _ (nr9.2 r (in1 r (in10 r hr1))))⟩
      have s910 := sS.trans s10
      have l10 : L10.length ≤ 800 := by
        have lS : S.length ≤ L9.length := by
          have z : (S.map (·.2)).length ≤ (L9.map (·.2)).length := List.Nodup.length_le_of_subset ndS fun k hk => by
            obtain ⟨r, hr1, rfl⟩ := List.mem_map.mp hk
            exact List.mem_map.mpr ⟨r, in1 r hr1, rfl⟩
          rwa [List.length_map, List.length_map] at z
        omega
      refine ⟨p10, rfl, ⟨_, lstL nr10.1⟩, fun D2 hD2 => ?_⟩
      refine lc_rows (K := K) (i := 10) (j := 11) (k := 9) (mvR (u1 - wo / 2) (u2 - wo / 2)) nr10.rws (fun r hr1 => (near10 r hr1).1) (by omega) hD2 (fun x y z => rfl) (fun x y s H' Q q => ?_) fun L11 H11 s11 nr11 e11 => ?_
      · exact ⟨_, rfl, _, rfl, _, _, rfl, rfl, _, rfl, _, rfl, _, _, rfl, rfl, _, rfl, big3, fun p hp => q p _ (same_new hp) upd_same⟩
      have s911 : Same H9 H11 := s910.trans s11
      have edges11 : Edges L11 := by
        refine ⟨fun r hr1 => ?_, ?_, ?_⟩
        · have z : r.2 ∈ L11.map (·.2) := List.mem_map.mpr ⟨r, hr1, rfl⟩
          rw [e11] at z
          obtain ⟨k, hk, e⟩ := List.mem_map.mp z
          obtain ⟨u, hu, rfl⟩ := List.mem_map.mp hk
          rw [← e]
          exact mvR_edge (near10 u hu).1
        · rw [e11]
          unfold List.Nodup
          rw [List.pairwise_map]
          refine List.Pairwise.imp_of_mem (fun {k l} hk hl h e => ?_) asc10
          obtain ⟨u, hu, rfl⟩ := List.mem_map.mp hk
          obtain ⟨v, hv, rfl⟩ := List.mem_map.mp hl
          have z := mvR_inj (near10 u hu).1 (near10 v hv).1 e
          rw [z, ltL_irr] at h
          cases h
        · have z := congrArg List.length e11
          rw [List.length_map, List.length_map, List.length_map] at z
          omega
      have l11 : L11.length ≤ 800 := by
        have z := congrArg List.length e11
        rw [List.length_map, List.length_map, List.length_map] at z
        omega
      have far11 : ∀ r ∈ L11, ∀ n ∈ r.2, n.natAbs < 2 ^ 395 := fun r hr1 => by
        have z : r.2 ∈ L11.map (·.2) := List.mem_map.mpr ⟨r, hr1, rfl⟩
        rw [e11] at z
        obtain ⟨k, hk, e⟩ := List.mem_map.mp z
        obtain ⟨u, hu, rfl⟩ := List.mem_map.mp hk
        rw [← e]
        exact mvR_far (near10 u hu).1 (near10 u hu).2 (by omega) (by omega)
      have k11 : Keep t H H11 := k9.trans (Same.keep s911)
      have tk11 : Tk H11 t c5 := tk9.same s911
      have ntD : t ≠ D2 := fun z => tk9.some (by
        cases c : H9 t with
        | none => rfl
        | some o =>
          have y := s910 _ _ c
          rw [z, hD2] at y
          cases y)
      refine ⟨_, rfl, t, 2, c5, rfl, tk11, by omega, by decide, by decide, fun v3 c6 H12 k12 tk12 cg1 cg2 v30 v31 => ?_⟩
      have nrt : ∀ r ∈ L11, r.1 ≠ t := fun r hr1 y => by
        obtain ⟨A, B, h1, _⟩ := tk11
        have z : H11 r.1 = some (.tup (r.2.map V.int)) := nr11.2 r hr1
        rw [y, h1] at z
        cases z
      have nr12 : NewRws H12 D2 L11 := ⟨k12 _ _ (Ne.symm ntD) nr11.1, fun r hr1 => k12 _ _ (nrt r hr1) (nr11.2 r hr1)⟩
      have k12' : Keep t H H12 := k11.trans k12
      refine ⟨rfl, _, rfl, ite2 (fun e => ?_) (fun e => ?_)⟩
      · exact ⟨_, rfl, q D2 L11 c6 H12 k12' tk12 (by omega) (by omega) nr12 edges11 l11 far11⟩
      · refine ⟨_, rfl, D2, _, rfl, lstL nr12.1, fun p13 hp13 => ?_⟩
        rw [← List.map_reverse]
        have s13 := same_new (o := .lst (L11.reverse.map fun q => V.ref q.1)) hp13
        have pm := List.reverse_perm L11
        exact q p13 L11.reverse c6 _ (k12'.trans (Same.keep s13)) (tk12.same s13) (by omega) (by omega) ⟨upd_same, fun r hr1 => s13 _ _ (nr12.2 r (pm.mem_iff.mp hr1))⟩
          ⟨fun r hr1 => edges11.1 r (pm.mem_iff.mp hr1), (pm.map (·.2)).nodup_iff.mpr edges11.2.1, by rw [pm.length_eq]; exact edges11.2.2⟩ (by rw [pm.length_eq]; exact l11) fun r hr1 => far11 r (pm.mem_iff.mp hr1)
end
end K29

set_option Elab.async false
set_option linter.all false
set_option maxRecDepth 100000
set_option maxHeartbeats 8000000
set_option exponentiation.threshold 600
namespace K29
open PySem PySem.Spec PyProof.Rows L2 RT TT PC
/-! rows as data: their text, their equality -/
section
variable {X : Cx}
/-- repr(b) -/
theorem call_reprB : CallR X (.builtin "repr") (fun xs H Q => ∃ b, xs = [.bl b] ∧ Q (.str (if b = true then "True" else "False")) H) := by
  intro pins s σ H xs us Q I r h
  obtain ⟨b, rfl, q⟩ := h
  obtain ⟨u, rfl, e⟩ := RT.vals1' r
  obtain rfl : u = Value.bool b := e
  exact PySem.P.repr_of_bool ⟨.str _, H, I.tok _, ⟨_, rfl⟩, q⟩
end
theorem log_of {i : Int} (h : i.natAbs < 2 ^ 600) : i.natAbs.log2 < 1920 := by
  by_cases z : i.natAbs = 0
  · rw [z]; decide
  · have := (Nat.log2_lt z).mpr h
    omega
theorem it_len {i : Int} (h : i.natAbs.log2 < 1920) : (PySem.Str.ofString (toString i)).length ≤ 1921 := int_text_len_1921 h
abbrev rowD (k : List Int) : PyData := .tuple (k.map PyData.int)
abbrev rowsD (rs : List (List Int)) : PyData := .list (rs.map rowD)
abbrev tupsD (rs : List (List Int)) : PyData := .tuple (rs.map rowD)
/-- a point that can be shown -/
def Show (k : List Int) : Prop := ∃ x y : Int, k = [x, y] ∧ x.natAbs.log2 < 1920 ∧ y.natAbs.log2 < 1920
theorem rowD_len {k : List Int} (h : Show k) : (rowD k).shown.length ≤ 4000 := by
  obtain ⟨x, y, rfl, hx, hy⟩ := h
  have h1 := it_len hx
  have h2 := it_len hy
  have e : (PyData.tuple [.int x, .int y]).shown = tupleText [Str.ofString (toString x), Str.ofString (toString y)] := by
    simp only [PyData.shown, PyData.shownAll]
  show (PyData.tuple [.int x, .int y]).shown.length ≤ 4000
  rw [e]
  unfold tupleText
  rw [strLen_append, strLen_append]
  show _ + (Str.ofString (toString x) ++ (", " : Str) ++ Str.ofString (toString y)).length + _ ≤ _
  rw [strLen_append, strLen_append]
  have l1 : (("(" : String) : Str).length = 1 := rfl
  have l2 : ((", " : String) : Str).length = 2 := rfl
  have l3 : ((if ([Str.ofString (toString x), Str.ofString (toString y)] : List Str).length == 1 then ",)" else ")" : String) : Str).length = 1 := rfl
  omega
theorem textFrom_le (c : Nat) : ∀ (ts : List Str) (k : Nat) (acc : Str), (∀ t ∈ ts, t.length ≤ c) → (textFrom k acc ts).length ≤ acc.length + ts.length * (c + 2)
  | [], _, _, _ => by show _ ≤ _ + 0 * _; rw [Nat.zero_mul]; exact Nat.le_refl _
  | t :: r, k, acc, h => by
    have ih := textFrom_le c r (k + 1) (acc ++ (if k > 0 then ", " else "" : String) ++ t) fun u hu => h u (List.mem_cons_of_mem _ hu)
    have e : (acc ++ (if k > 0 then ", " else "" : String) ++ t).length = acc.length + (if k > 0 then 2 else 0) + t.length := by
      rw [strLen_append, strLen_append]
      split <;> rfl
    rw [e] at ih
    have ht := h t (List.mem_cons_self ..)
    show (textFrom (k + 1) _ r).length ≤ acc.length + (r.length + 1) * (c + 2)
    rw [Nat.add_mul, Nat.one_mul]
    have d : (if k > 0 then 2 else 0 : Nat) ≤ 2 := by split <;> omega
    omega
theorem listText_le (c : Nat) (ts : List Str) (h : ∀ t ∈ ts, t.length ≤ c) : (listText ts).length ≤ 2 + ts.length * (c + 2) := by
  have h1 := textFrom_le c ts 0 "[" h
  have l1 : (("[" : String) : Str).length = 1 := rfl
  have l3 : (("]" : String) : Str).length = 1 := rfl
  show (textFrom 0 "[" ts ++ "]").length ≤ _
  rw [strLen_append]
  omega
theorem shownAll_map : ∀ ds : List PyData, PyData.shownAll ds = ds.map PyData.shown
  | [] => by rw [PyData.shownAll]; rfl
  | d :: ds => by rw [PyData.shownAll, shownAll_map ds]; rfl
theorem shown_list (ds : List PyData) : (PyData.list ds).shown = listText (ds.map PyData.shown) := by
  rw [PyData.shown, shownAll_map]
theorem rowsD_len {L : List (List Int)} (h : ∀ p ∈ L, Show p) (hn : L.length ≤ 4000) : (rowsD L).shown.length ≤ sizeLine := by
  rw [shown_list]
  have h1 := listText_le 4000 ((L.map rowD).map PyData.shown) fun t ht => by
    obtain ⟨d, hd, rfl⟩ := List.mem_map.mp ht
    obtain ⟨p, hp, rfl⟩ := List.mem_map.mp hd
    exact rowD_len (h p hp)
  rw [List.length_map, List.length_map] at h1
  have : L.length * (4000 + 2) ≤ 4000 * 4002 := Nat.mul_le_mul_right _ hn
  rw [sizeLine_eq]
  omega
theorem rowsD_showable : ∀ {L : List (List Int)}, (∀ p ∈ L, Show p) → PyData.showableAll (L.map rowD) = true
  | [], _ => by simp [PyData.showableAll]
  | p :: L, h => by
    have ih := rowsD_showable fun q hq => h q (List.mem_cons_of_mem _ hq)
    obtain ⟨x, y, rfl, hx, hy⟩ := h p (List.mem_cons_self ..)
    rw [List.map_cons, PyData.showableAll, ih, Bool.and_true]
    simp only [rowD, List.map_cons, List.map_nil, PyData.showable, PyData.showableAll, decide_eq_true hx, decide_eq_true hy, Bool.and_self]
theorem ints_noDict : ∀ ns : List Int, PyData.hasDictAll (ns.map PyData.int) = false
  | [] => by simp [PyData.hasDictAll]
  | n :: ns => by
    rw [List.map_cons, PyData.hasDictAll, ints_noDict ns]
    simp only [PyData.hasDict, Bool.or_self]
theorem rowsD_noDict : ∀ L : List (List Int), PyData.hasDictAll (L.map rowD) = false
  | [] => by simp [PyData.hasDictAll]
  | p :: L => by
    rw [List.map_cons, PyData.hasDictAll, rowsD_noDict L]
    simp only [PyData.hasDict, ints_noDict, Bool.or_self]
theorem rowsD_depth : ∀ L : List (List Int), PyData.depthAll (L.map rowD) ≤ 2
  | [] => by simp [PyData.depthAll]
  | p :: L => by
    have := rowsD_depth L
    have h2 := RT.depth_ints p
    simp only [List.map_cons, PyData.depthAll, PyData.depth]
    omega
theorem ints_canLay : ∀ ns : List Int, PyData.canLayAll0 (ns.map PyData.int) = true
  | [] => by simp [PyData.canLayAll0]
  | n :: ns => by
    have := ints_canLay ns
    simp only [List.map_cons, PyData.canLayAll0, PyData.canLay0, this, Bool.and_self]
theorem rowsD_canLay : ∀ L : List (List Int), PyData.canLayAll0 (L.map rowD) = true
  | [] => by simp [PyData.canLayAll0]
  | p :: L => by
    have := rowsD_canLay L
    simp only [List.map_cons, PyData.canLayAll0, PyData.canLay0, this, ints_canLay, Bool.and_self]
theorem rowsD_ok {L : List (List Int)} (h : ∀ p ∈ L, Show p) (hn : L.length ≤ 4000) : (rowsD L).showable = true ∧ (rowsD L).hasDict = false ∧ (rowsD L).depth ≤ 40 ∧ (rowsD L).shown.length ≤ sizeLine := by
  refine ⟨?_, ?_, ?_, rowsD_len h hn⟩
  · rw [PyData.showable]
    exact rowsD_showable h
  · rw [PyData.hasDict]
    exact rowsD_noDict L
  · have := rowsD_depth L
    simp only [PyData.depth]
    omega
theorem shaped_rows (L : List (List Int)) : SeqAt.shaped (rowsD L) = true := by
  have h1 := rowsD_depth L
  have h2 : PyData.depth (rowsD L) ≤ 64 := by simp only [PyData.depth]; omega
  show (PyData.canLay0 (rowsD L) && decide (PyData.depth (rowsD L) ≤ 64)) = true
  rw [Bool.and_eq_true]
  exact ⟨by simp only [PyData.canLay0]; exact rowsD_canLay L, decide_eq_true h2⟩
theorem shaped_tups (L : List (List Int)) : SeqAt.shaped (tupsD L) = true := by
  have h1 := rowsD_depth L
  have h2 : PyData.depth (tupsD L) ≤ 64 := by simp only [PyData.depth]; omega
  show (PyData.canLay0 (tupsD L) && decide (PyData.depth (tupsD L) ≤ 64)) = true
  rw [Bool.and_eq_true]
  exact ⟨by simp only [PyData.canLay0]; exact rowsD_canLay L, decide_eq_true h2⟩
theorem eqv_empty (L : List (List Int)) : PyData.eqv (rowsD L) (.list []) = L.isEmpty := by
  rw [PyData.eqv]
  cases L with
  | nil => rfl
  | cons p L => rfl
theorem eqv_ints : ∀ ns : List Int, PyData.eqvAll (ns.map PyData.int) (ns.map PyData.int) = true
  | [] => by simp [PyData.eqvAll]
  | n :: ns => by
    have := eqv_ints ns
    simp only [List.map_cons, PyData.eqvAll, PyData.eqv, this, Bool.and_true]
    simp
theorem eqv_rowsA : ∀ L : List (List Int), PyData.eqvAll (L.map rowD) (L.map rowD) = true
  | [] => by simp [PyData.eqvAll]
  | p :: L => by
    have := eqv_rowsA L
    simp only [List.map_cons, PyData.eqvAll, PyData.eqv, eqv_ints, this, Bool.and_self]
theorem eqv_tups (L : List (List Int)) : PyData.eqv (tupsD L) (tupsD L) = true := by
  rw [PyData.eqv]
  exact eqv_rowsA L
theorem eqv_rows (L : List (List Int)) : PyData.eqv (rowsD L) (rowsD L) = true := by
  rw [PyData.eqv]
  exact eqv_rowsA L
theorem dp_ints {K : PySem.W.Frag} {H : Hp} : ∀ ns : List Int, DpAll K H (ns.map V.int) (ns.map PyData.int)
  | [] => .nil
  | n :: ns => .cons (.int n) (dp_ints ns)
theorem dp_rowsA {K : PySem.W.Frag} {H : Hp} : ∀ {L : List (Addr × List Int)}, (∀ q ∈ L, Row H q.1 q.2) → DpAll K H (L.map fun q => V.ref q.1) ((L.map (·.2)).map rowD)
  | [], _ => .nil
  | q :: L, h => .cons (.tup (tupT (h q (List.mem_cons_self ..))) (dp_ints q.2)) (dp_rowsA fun r hr => h r (List.mem_cons_of_mem _ hr))
theorem dp_rows {K : PySem.W.Frag} {H : Hp} {a : Addr} {L : List (Addr × List Int)} (h : Rws K H a L) : Dp K H (.ref a) (rowsD (L.map (·.2))) := .lst h.1 (dp_rowsA h.2)
theorem dp_tups {K : PySem.W.Frag} {H : Hp} {a : Addr} {L : List (Addr × List Int)} (h : H a = some (.tup (L.map fun q => V.ref q.1))) (hr : ∀ q ∈ L, Row H q.1 q.2) : Dp K H (.ref a) (tupsD (L.map (·.2))) := .tup (tupT h) (dp_rowsA hr)
end K29

set_option Elab.async false
set_option linter.all false
set_option maxRecDepth 100000
set_option maxHeartbeats 8000000
set_option exponentiation.threshold 600
namespace K29
open PySem PySem.Spec PyProof.Rows L2 RT TT PC
abbrev NR : List Str := N_law_right ++ [("turn" : Str)]
theorem scR : FnScope NR ["ink", "edges_here"] (defScope s_law_right) := ⟨rfl, rfl, rfl, by decide +kernel, rfl, by decide +kernel, by decide +kernel⟩
theorem str_ne (a : Str) : (!decide (V.str a = V.str a)) = false := by rw [decide_eq_true rfl]; rfl
theorem odd_uniq {vs ws R S : List (List Int)} (h : OddOf vs R) (g : OddOf ws S) (p : vs.Perm ws) : R = S := asc_uniq h.1 g.1 fun k => by rw [h.2 k, g.2 k, p.count_eq]
/-- what is no cell's state stays -/
theorem Keep.obj {t : Addr} {H H' : Hp} {c : Nat} {b : Addr} {o : HO} (k : Keep t H H') (tk : Tk H t c) (h : H b = some o) (ho : ∀ x y z : Int, o ≠ .lst [.int x, .int y, .int z]) : H' b = some o := by
  refine k b o (fun e => ?_) h
  obtain ⟨A, B, h1, _⟩ := tk
  rw [e, h1] at h
  exact ho _ _ _ (Option.some.inj h).symm
theorem Keep.row {t : Addr} {H H' : Hp} {c : Nat} {b : Addr} {x : List Int} (k : Keep t H H') (tk : Tk H t c) (h : Row H b x) : Row H' b x := k.obj tk h fun _ _ _ z => nomatch z
theorem refs_not {L : List (Addr × List Int)} {x y z : Int} : (L.map fun q => V.ref q.1) ≠ [.int x, .int y, .int z] := fun e => by
  cases L with
  | nil => cases e
  | cons q L => cases e
theorem Keep.new {t : Addr} {H H' : Hp} {c : Nat} {b : Addr} {L : List (Addr × List Int)} (k : Keep t H H') (tk : Tk H t c) (h : NewRws H b L) : NewRws H' b L :=
  ⟨k.obj tk h.1 fun x y z e => by injection e with e; exact refs_not e, fun r hr => k.row tk (h.2 r hr)⟩
theorem Keep.pic {K : PySem.W.Frag} {t : Addr} {H H' : Hp} {c : Nat} {b : Addr} {L : List (Addr × List Int)} (k : Keep t H H') (tk : Tk H t c) (h : IsPic K H b L) : IsPic K H' b L := by
  obtain ⟨d, u, v, M, h1, h2, h3, h4, h5, h6, h7⟩ := h
  exact ⟨d, u, v, M, k.obj tk h1 (fun _ _ _ z => nomatch z), k.obj tk h2 (fun _ _ _ z => nomatch z), fun q hq => k.row tk (h3 q hq), h4, h5, k.obj tk h6 (fun _ _ _ z => nomatch z), h7⟩
theorem cut_take {L : List (Addr × List Int)} {lo hi : Option Int} : ∀ r ∈ cutR L lo hi, r ∈ L := cutR_sub
/-- a point whose numbers are not too far out -/
def Pt (k : List Int) : Prop := ∃ x y : Int, k = [x, y] ∧ x.natAbs < 2 ^ 396 ∧ y.natAbs < 2 ^ 396
theorem Pt.show {k : List Int} (h : Pt k) : Show k := by
  obtain ⟨x, y, e, hx, hy⟩ := h
  exact ⟨x, y, e, log_of (by omega), log_of (by omega)⟩
theorem ends_pt {E : List (List Int)} (h : ∀ e ∈ E, EdgeR e) (far : ∀ e ∈ E, ∀ n ∈ e, n.natAbs < 2 ^ 395) : ∀ p ∈ endsAll E, Pt p := by
  intro p hp
  obtain ⟨e, he, hp⟩ := List.mem_flatMap.mp hp
  obtain ⟨x, y, s, rfl, hs⟩ := h e he
  have hx := far _ he x (by simp)
  have hy := far _ he y (by simp)
  rw [endsR_law hs] at hp
  simp only [List.mem_cons, List.not_mem_nil, or_false] at hp
  rcases hp with rfl | rfl
  · exact ⟨x, y, rfl, by omega, by omega⟩
  · exact ⟨_, _, rfl, by omega, by omega⟩
theorem odd_mem {vs R : List (List Int)} (h : OddOf vs R) : ∀ k ∈ R, k ∈ vs := fun k hk => List.count_pos_iff.mp (by have := (h.2 k).mp hk; omega)
theorem odd_len {vs R : List (List Int)} (h : OddOf vs R) : R.length ≤ vs.length := List.Nodup.length_le_of_subset (List.Pairwise.imp (fun {a b} z e => by rw [e, ltL_irr] at z; cases z) h.1) fun k hk => odd_mem h k hk
theorem make_q {K : PySem.W.Frag} {H : Hp} {e x d : Addr} {L : List (Addr × List Int)} {Qv : VK} {E : XK} (hL : Rws K H e L) (fine : Edges L) (hx : H x = none) (hd : H d = none) (q : ∀ H' L', Same H H' → IsPic K H' x L' → (L'.map (·.2)).Perm (L.map (·.2)) → Qv .non H') :
    spInit K (.ref x :: ([.ref e] ++ [])) (upd (upd H d (.own x)) x (.ins (He.ga K "Picture") d [])) Qv E := by
  have up : Same H (upd (upd H d (.own x)) x (.ins (He.ga K "Picture") d [])) := fun b o e => by
    rw [upd_ne (ne_of_none e hx), upd_ne (ne_of_none e hd)]
    exact e
  exact ⟨x, d, e, L, rfl, upd_same, hL.same up, fine, fun H' L' k m pm => q H' L' (fun b o e => k b o (ne_of_none e hx) (up _ _ e)) m pm⟩
theorem big0 : 0 ≤ sizeLine := by decide
section
variable {P : Program} {w : World} {K : PySem.W.Frag} {mg : Str → Option Value} {base : Heap}
def spRight : Sp := fun vs H Q _ => ∃ (t a : Addr) (c : Nat) (L : List (Addr × List Int)), vs = [.ref t, .ref a] ∧ Tk H t c ∧ c ≤ 60000 ∧ NewRws H a L ∧ Edges L ∧ L.length ≤ 800 ∧ (∀ r ∈ L, ∀ n ∈ r.2, n.natAbs < 2 ^ 395) ∧
  ∀ c' H', Keep t H H' → Tk H' t c' → c ≤ c' → c' ≤ c + 20 → Q (.bl true) H'
theorem ok_right (D : Ds K) (T : Tx K mg) : FnG P w K mg base CX0 13 (d_law_right.adr K) D.fd__law_right ["ink", "edges_here"] spRight := by
  have GD : FnOk P w K mg base CX0 1 _ _ _ spDip := ok_dip D T
  have GI : FnOk P w K mg base CX0 5 _ _ _ (spInit K) := ok_init D T
  have GE : FnOk P w K mg base CX0 1 _ _ _ (spEdges K) := ok_edges D T
  have GG : FnOk P w K mg base CX0 2 _ _ _ (spDegs K) := ok_degs D T
  have GO : FnOk P w K mg base CX0 3 _ _ _ (spLOdd K) := ok_lodd D T
  have GP : FnOk P w K mg base CX0 3 _ _ _ (spOddP K) := ok_oddp D T
  have GV : FnOk P w K mg base CX0 4 _ _ _ (spEven K) := ok_even D T
  have GDg : FnOk P w K mg base CX0 5 _ _ _ (spDeg K) := ok_degree D T
  refine okG D.F__law_right scR (fun vs H Q E h => ?_) (fun cdv A outer s H vs Q E hg hr h => ?_)
  · obtain ⟨t, a, c, L, rfl, _⟩ := h
    rfl
  · obtain ⟨t, a, c, L, rfl, tk, hc, nrL, edg, lL, far, q⟩ := h
    have nd := scR.nd
    refine ⟨_, PSs.nox (pss_cons (ps_par3 (i := 2) (j := 3) (l := 4) (by rfl) nd rfl rfl rfl (by decide) (by decide) (by decide) rfl rfl rfl (pa_cons (pe_make T.k_Picture GI (hr.mono (by decide)) (by rfl) T.g_Picture (b_Picture_init D) .nil pass0 (pa_cons (pv 1) pa_nil)) (pa_cons (pe_call GG (hr.mono (by decide)) (by rfl) T.g__law_degrees D.F__law_degrees.kp (b__law_degrees D) .nil pass0 (pa_cons (pv 1) pa_nil)) (pa_cons (pe_call GO (hr.mono (by decide)) (by rfl) T.g__law_odd D.F__law_odd.kp (b__law_odd D) .nil pass0 (pa_cons (pv 1) pa_nil)) pa_nil))) (by rfl))
      (pss_cons (ps_set (i := 5) nd rfl (.inl rfl) (pe_prop (pv 2) T.c_Picture T.p_Picture_edges GE (hr.mono (by decide)) (b_Picture_edges D) .nil pass0 rfl))
      (pss_cons (ps_for PassesOwn.never rfl (pi_range1 (by rfl) T.z_range (pa_cons pe_int pa_nil)) (pg_name (i := 6) nd rfl (.inl rfl)) (pss_cons (ps_set (i := 7) nd rfl (.inl rfl) (pe_call GP (hr.mono (by decide)) (by rfl) T.g_odd_points D.F_odd_points.kp (b_odd_points D) .nil pass0 (pa_cons (pv 2) pa_nil)))
      (pss_cons (ps_if (PW.pt (pw_or (pt_cmpR op_ne (pe_callB (call_reprD hg hr.units) (by rfl) T.z_repr (by decide +kernel) (pa_cons (pv 7) pa_nil)) (pe_callB (call_reprD hg hr.units) (by rfl) T.z_repr (by decide +kernel) (pa_cons (pv 4) pa_nil)) (nomark _)) (pw_or1 (pt_cmpR op_ne (pe_callB call_reprB (by rfl) T.z_repr (by decide +kernel) (pa_cons (pe_call GV (hr.mono (by decide)) (by rfl) T.g_is_even D.F_is_even.kp (b_is_even D) .nil pass0 (pa_cons (pv 2) pa_nil)) pa_nil)) (pe_callB call_reprB (by rfl) T.z_repr (by decide +kernel) (pa_cons (pe_cmpR (op_eqD hr.units) (pv 4) (pe_lst pa_nil) (nomark _)) pa_nil)) (nomark _))))) (pss_one (ps_ret pe_bl)) pss_nil)
      (pss_one (ps_expr (pe_bm PySem.F.plainAttrs_list PySem.F.slot_list_append PySem.F.type_list_append mt_append (pv 7) (pa_cons pe_str pa_nil)))))))
      (pss_cons (ps_set (i := 8) nd rfl (.inr rfl) (pe_callB (cr_sortD rfl) (by rfl) T.z_sorted (by decide +kernel) (pa_cons (pv 3) pa_nil)))
      (pss_cons (ps_set (i := 9) nd rfl (.inl rfl) (pe_op op_cat (pe_lc (own := [(("turn" : Str), 13)]) (g := gName 13) (tt := tYes) (te := tOp (rIxL K) (tVar 8) (tCall spDip [] E0 (tCons (tVar 0) (tCons (tCB (fun xs H Q => ∃ p ys, xs = [V.ref p] ∧ (SqL K H p ys ∨ SqT K H p ys) ∧ Q (V.int (ys.length : Nat)) H) (tCons (tVar 8) tNil)) tNil)))) rfl nd (pi_range1 (by rfl) T.z_range (pa_cons (pe_op op_mul pe_int (pe_callTy call_int1 (by rfl) T.z_int (by decide +kernel) (pa_cons (pe_cmpR (op_neD hr.units) (pv 8) (pe_lst pa_nil) (nomark _)) pa_nil))) pa_nil)) (blkOk_by (own := [(("turn" : Str), 13)]) (N := NR) (sc := defScope s_law_right) (by decide +kernel)) (fun _ _ _ _ _ => pg_name (i := 13) nd rfl (Or.inl rfl)) (fun _ _ _ _ _ => pts_nil) (fun _ _ _ _ _ => (pe_ix ix_list (pv 8) (pe_call GD (hr.mono (by decide)) (by rfl) T.g__law_dip D.F__law_dip.kp (b__law_dip D) .nil pass0 (pa_cons (pv 0) (pa_cons (pe_callB call_len_seq (by rfl) T.z_len PySem.boot_len (pa_cons (pv 8) pa_nil)) pa_nil))) (fun _ _ => rfl)))) (pe_slice sl_list (pv 8) po_none (po_some pe_int))))
      (pss_cons (ps_for PassesOwn.never rfl (pi_list (pe_op op_cat (pv 9) (pe_lst (pa_cons (pe_tup (pa_cons pe_int (pa_cons pe_int pa_nil))) (pa_cons (pe_tup (pa_cons (pe_op op_pow pe_int pe_int) (pa_cons (pe_op op_pow pe_int pe_int) pa_nil))) pa_nil))))) (pg_tup (by rfl) (pgs_cons (pg_name (i := 10) nd rfl (.inl rfl)) (pgs_cons (pg_name (i := 11) nd rfl (.inl rfl)) pgs_nil))) (pss_one (ps_for PassesOwn.never rfl (pi_list (pe_lst (pa_cons (pe_tup (pa_cons (pv 10) (pa_cons (pv 11) pa_nil))) (pa_cons (pe_tup (pa_cons (pe_op op_add (pv 10) pe_int) (pa_cons (pv 11) pa_nil))) (pa_cons (pe_tup (pa_cons (pv 10) (pa_cons (pe_op op_sub (pv 11) pe_int) pa_nil))) (pa_cons (pe_tup (pa_cons (pv 11) (pa_cons (pv 10) pa_nil))) pa_nil)))))) (pg_name (i := 12) nd rfl (.inl rfl)) (pss_one (ps_if (pt_cmpR op_ne (pe_callB call_repr0 (by rfl) T.z_repr (by decide +kernel) (pa_cons (pe_call GDg (hr.mono (by decide)) (by rfl) T.g_degree_at D.F_degree_at.kp (b_degree_at D) .nil pass0 (pa_cons (pv 2) (pa_cons (pv 12) pa_nil))) pa_nil)) (pe_callB call_repr0 (by rfl) T.z_repr (by decide +kernel) (pa_cons (pe_dget2 (hu_of hr) (pv 3) (pv 12) pe_int ⟨rfl, rfl, rfl, rfl⟩) pa_nil)) (nomark _)) (pss_one (ps_ret pe_bl)) pss_nil)))))
      (pss_one (ps_ret (pe_cmpR (op_eqD hr.units) (pe_prop (pv 2) T.c_Picture T.p_Picture_edges GE (hr.mono (by decide)) (b_Picture_edges D) .nil pass0 rfl) (pv 5) (nomark _)))))))))), ?_⟩
    have allE : ∀ e ∈ L.map (·.2), EdgeR e := fun e he => by
      obtain ⟨r, hr1, rfl⟩ := List.mem_map.mp he
      exact edg.1 r hr1
    have allF : ∀ e ∈ L.map (·.2), ∀ n ∈ e, n.natAbs < 2 ^ 395 := fun e he => by
      obtain ⟨r, hr1, rfl⟩ := List.mem_map.mp he
      exact far r hr1
    have ptE := ends_pt allE allF
    have lenE := endsAll_len allE
    rw [List.length_map] at lenE
    -- one, counts, due
    refine ⟨_, rfl, fun one d0 fa d1 _ => make_q (K := K) nrL.rws edg fa d1 fun Ha L' sa pic perm => ⟨rfl, ?_⟩⟩
    clear d1
    refine ⟨_, rfl, a, L, rfl, (nrL.rws (K := K)).same sa, edg.1, by omega, fun cn M Hb sb hcn ecn tal once lenM => ?_⟩
    refine ⟨_, rfl, a, L, rfl, (nrL.rws (K := K)).same (sa.trans sb), edg.1, by omega, fun du Ld Hc sc hdu nrd oddd => ⟨_, _, _, rfl, ?_⟩⟩
    have kH : Same H Hc := sa.trans (sb.trans sc)
    have picc : IsPic K Hc one L' := pic.same (sb.trans sc)
    have ecnc := sc _ _ ecn
    have tkc := tk.same kH
    clear ecn pic sc sb sa hcn hdu fa nrL tk
    -- kept
    obtain ⟨pd, pt, ph, pM, pea, _⟩ := id picc
    refine ⟨_, rfl, one, pd, _, rfl, pea, one, L', rfl, picc, fun tp etp => ?_⟩
    have permE : (endsAll (L'.map (·.2))).Perm (endsAll (L.map (·.2))) := endsAll_perm perm
    have ptd : ∀ k ∈ Ld.map (·.2), Show k := fun k hk => (ptE k (odd_mem oddd k hk)).show
    have lend : (Ld.map (·.2)).length ≤ 4000 := by
      have := odd_len oddd
      omega
    obtain ⟨d1, d2, d3, d4⟩ := rowsD_ok ptd lend
    -- twice
    refine ⟨2, rfl, by decide, by decide, ?_⟩
    refine for_range (lo := 0) (n := 2) (fun i σ H' => ∃ z6 z7, Same Hc H' ∧ σ = [some (.ref t), some (.ref a), some (.ref one), some (.ref cn), some (.ref du), some (.ref tp), z6, z7, none, none, none, none, none, none])
      ⟨none, none, fun _ _ h => h, rfl⟩ (fun i σ' H1 hi hp => ?_) fun σ' H1 hp => ?_
    · obtain ⟨z6, z7, s1, rfl⟩ := hp
      refine ⟨_, rfl, one, L', rfl, picc.same s1, fun to Lt H2 s2 hto nrt oddt => ?_⟩
      have eT : Lt.map (·.2) = Ld.map (·.2) := odd_uniq oddt oddd permE
      have dpt := dp_rows (nrt.rws (K := K))
      rw [eT] at dpt
      have dpd := dp_rows ((nrd.rws (K := K)).same (s1.trans s2))
      refine ⟨_, rfl, to, _, rfl, dpt, d1, d2, d3, d4, _, rfl, du, _, rfl, dpd, d1, d2, d3, d4, rfl, false, by rw [str_ne], iteF ?_⟩
      refine ⟨_, rfl, one, L', rfl, (picc.same s1).same s2, fun R H3 s3 oddR => ⟨_, rfl, _, rfl, big0, fun p hp => ?_⟩⟩
      have eR : R = Ld.map (·.2) := odd_uniq oddR oddd permE
      have s4 := same_new (o := .lst []) hp
      have dpd3 := dp_rows ((nrd.rws (K := K)).same (s1.trans (s2.trans (s3.trans s4))))
      refine ⟨_, .list [], dpd3, .lst (lstL upd_same) .nil, shaped_rows _, rfl, ?_⟩
      rw [eqv_empty, eR]
      refine ⟨_, rfl, rfl, false, by rw [str_ne], iteF ?_⟩
      have eto := s4 _ _ (s3 _ _ nrt.1)
      refine ⟨_, rfl, .inl ⟨rfl, _, lstL eto⟩, to, _, _, rfl, rfl, eto, ?_, _, _, fun b o hb => ?_, rfl⟩
      · rw [List.length_map]
        have z := congrArg List.length eT
        rw [List.length_map] at z
        exact size_lt (m := 4000) (by omega) (by decide)
      · rw [upd_ne (ne_of_none (s1 _ _ hb) hto)]
        exact s4 _ _ (s3 _ _ (s2 _ _ (s1 _ _ hb)))
    obtain ⟨z6, z7, s1, rfl⟩ := hp
    have pic1 := picc.same s1
    have ecn1 := s1 _ _ ecnc
    have tk1 := tkc.same s1
    have etp1 := s1 _ _ etp
    have k1 : Keep t H H1 := Same.keep (kH.trans s1)
    clear kH s1 picc ecnc tkc etp d1 d2 d3 d4 ptd lend nrd oddd pea
    -- known
    have lenp : ∀ p ∈ M, p.1.length = 2 := tally_len tal (endsAll_two allE)
    refine ⟨_, rfl, cn, M, 2, rfl, ecn1, by decide, lenp, fun Lk kn lenk asck memk rowsk hkn => ?_⟩
    have s2 := same_new (o := .lst (Lk.map fun q => V.ref q.1)) hkn
    have nrk : NewRws (upd H1 kn (.lst (Lk.map fun q => V.ref q.1))) kn Lk := ⟨upd_same, fun r hr1 => s2 _ _ (rowsk r hr1)⟩
    have ptk : ∀ r ∈ Lk, Pt r.2 := fun r hr1 => by
      have z := (memk r.2).mp (List.mem_map.mpr ⟨r, hr1, rfl⟩)
      have z2 := mem_keys.mp z
      rw [tal r.2] at z2
      by_cases c0 : (endsAll (L.map (·.2))).count r.2 = 0
      · rw [if_pos c0] at z2
        cases z2
      · exact ptE _ (List.count_pos_iff.mp (by omega))
    have lk2 : Lk.length ≤ 1600 := by omega
    generalize upd H1 kn (.lst (Lk.map fun q => V.ref q.1)) = H2 at *
    have pic2 := pic1.same s2
    have ecn2 := s2 _ _ ecn1
    have tk2 := tk1.same s2
    have etp2 := s2 _ _ etp1
    have k2 : Keep t H H2 := k1.trans (Same.keep s2)
    clear pic1 ecn1 tk1 etp1 k1 s2 rowsk asck memk hkn lenk
    -- some
    refine ⟨_, rfl, big0, fun p3 hp3 => ?_⟩
    have s3 := same_new (o := .lst []) hp3
    have dpk := dp_rows ((nrk.rws (K := K)).same s3)
    refine ⟨_, .list [], dpk, .lst (lstL upd_same) .nil, shaped_rows _, rfl, ?_⟩
    rw [eqv_empty]
    generalize upd H2 p3 (.lst []) = H3 at *
    refine .inr ⟨_, rfl, _, _, rfl, rfl, ?_⟩
    obtain ⟨z, ez, hz⟩ : ∃ z : Int, (if (!(Lk.map (·.2)).isEmpty) = true then (1 : Int) else 0) = z ∧ (z = 0 ∨ (z = 1 ∧ 1 ≤ Lk.length)) := by
      cases Lk with
      | nil => exact ⟨0, rfl, .inl rfl⟩
      | cons q Lk => exact ⟨1, rfl, .inr ⟨rfl, by show 1 ≤ Lk.length + 1; omega⟩⟩
    rw [ez]
    refine ⟨.inl ⟨by decide, by rcases hz with rfl | ⟨rfl, _⟩ <;> decide⟩, ?_⟩
    have n20 : (20 * z).toNat ≤ 20 := by omega
    refine ⟨_, rfl, by omega, by omega, fun D1 hD1 => ?_⟩
    have k3 : Keep t H H3 := k2.trans (Same.keep s3)
    have tk3 := tk2.same s3
    have nrk3 : NewRws H3 kn Lk := ⟨s3 _ _ nrk.1, fun r hr1 => s3 _ _ (nrk.2 r hr1)⟩
    have pic3 := pic2.same s3
    have ecn3 := s3 _ _ ecn2
    have etp3 := s3 _ _ etp2
    clear s3 pic2 ecn2 etp2 tk2 k2 nrk dpk hp3 ez
    have D1t : t ≠ D1 := tk3.ne hD1
    refine lc_it (walk_range (lo := 0) (n := (20 * z).toNat)) (fun i H' => ∃ c' Ls, Keep t H3 H' ∧ Tk H' t c' ∧ c ≤ c' ∧ c' ≤ c + i ∧ NewRws H' D1 Ls ∧ Ls.length ≤ i ∧ ∀ r ∈ Ls, Pt r.2)
      ⟨c, [], Same.keep (same_new hD1), tk3.same (same_new hD1), Nat.le_refl _, Nat.le_refl _, ⟨upd_same, fun _ z => nomatch z⟩, Nat.zero_le _, fun _ z => nomatch z⟩ (fun _ _ _ _ => trivial) (fun i x H4 H5 hi p y => ?_) fun H4 p => ?_
    · obtain ⟨c', Ls, k4, tk4, c1, c2, nrs, ls, ptS⟩ := p
      obtain ⟨rfl, rfl⟩ := y
      have hl : 1 ≤ Lk.length := by omega
      have nrk4 := k4.new tk3 nrk3
      refine ⟨rfl, _, rfl, _, rfl, _, rfl, kn, _, rfl, .inl (lstL nrk4.1), t, _, c', rfl, tk4, by omega, by rw [List.length_map]; omega, by rw [List.length_map]; omega, fun v c3 H6 k6 tk6 d1 d2 v0 v1 => ?_⟩
      rw [List.length_map] at v1
      have nrk6 := k6.new tk4 nrk4
      have hv : v.toNat < Lk.length := by omega
      have g : (Lk.map fun q => V.ref q.1)[v.toNat]? = some (.ref Lk[v.toNat].1) := by
        rw [List.getElem?_map, List.getElem?_eq_getElem hv]
        rfl
      have nr6 := k6.new tk4 nrs
      have mr : Lk[v.toNat] ∈ Lk := List.getElem_mem hv
      refine ⟨kn, _, v, _, rfl, rfl, lstL nrk6.1, by rw [show v = ((v.toNat : Nat) : Int) by omega]; exact atI_nat g, _, nr6.1, ?_, c3, Ls ++ [Lk[v.toNat]], ?_, Keep.tk tk6 D1t keep_upd, by omega, by omega, ⟨?_, fun r hr1 => ?_⟩, ?_, fun r hr1 => ?_⟩
      · rw [List.length_map]
        exact size_lt (m := 20) (by omega) (by decide)
      · exact Keep.fresh hD1 (k4.trans k6) keep_upd
      · rw [upd_same, List.map_append]
        rfl
      · have z : Row H6 r.1 r.2 := (List.mem_append.mp hr1).elim (fun z => nr6.2 r z) fun z => by
          rw [List.mem_singleton.mp z]
          exact nrk6.2 _ mr
        show upd _ _ _ _ = _
        rw [upd_ne (fun y => ?_)]
        · exact z
        · have z' : H6 r.1 = some (.tup (r.2.map V.int)) := z
          rw [y, nr6.1] at z'
          cases z'
      · rw [List.length_append]
        show Ls.length + 1 ≤ i + 1
        omega
      · rcases List.mem_append.mp hr1 with z | z
        · exact ptS r z
        · rw [List.mem_singleton.mp z]
          exact ptk _ mr
    obtain ⟨c', Ls, k4, tk4, c1, c2, nrs, ls, ptS⟩ := p
    have nrk4 := k4.new tk3 nrk3
    have pic4 := k4.pic tk3 pic3
    have ecn4 := k4.obj tk3 ecn3 fun _ _ _ z => nomatch z
    have etp4 := k4.obj tk3 etp3 fun _ _ _ z => nomatch z
    have kH4 := k3.trans k4
    clear k3 tk3 nrk3 pic3 ecn3 etp3 k4 hD1
    -- the points asked
    refine ⟨_, rfl, 9, rfl, kn, _, rfl, lstL nrk4.1, fun pr hpr => ?_⟩
    rw [cutR_map]
    have s5 := same_new (o := .lst ((cutR Lk none (some 9)).map fun q => V.ref q.1)) hpr
    have lcut : (cutR Lk none (some 9)).length ≤ 1600 := Nat.le_trans cutR_len lk2
    refine ⟨D1, pr, _, _, rfl, rfl, s5 _ _ nrs.1, upd_same, ?_, fun ps hps => ?_⟩
    · rw [List.length_map, List.length_map]
      exact Nat.le_of_lt (size_lt (m := 2000) (by omega) (by decide))
    rw [← List.map_append]
    have s6 := same_new (o := .lst ((Ls ++ cutR Lk none (some 9)).map fun q => V.ref q.1)) hps
    refine ⟨_, rfl, big2, fun q1 hq1 => ?_⟩
    have s7 := same_new (o := .tup [.int 0, .int 0]) hq1
    refine ⟨_, _, rfl, rfl, pw_ok (by decide) (by decide), _, _, rfl, rfl, pw_ok (by decide) (by decide), big2, fun q2 hq2 => ?_⟩
    have s8 := same_new (o := .tup [.int (10 ^ (60 : Int).toNat), .int (10 ^ (60 : Int).toNat)]) hq2
    refine ⟨big2, fun q3 hq3 => ?_⟩
    have s9 := same_new (o := .lst [.ref q1, .ref q2]) hq3
    refine ⟨ps, q3, _, _, rfl, rfl, s9 _ _ (s8 _ _ (s7 _ _ upd_same)), upd_same, ?_, fun q4 hq4 => ?_⟩
    · rw [List.length_map, List.length_append]
      show Ls.length + (cutR Lk none (some 9)).length + 2 ≤ _
      exact Nat.le_of_lt (size_lt (m := 2000) (by omega) (by decide))
    obtain ⟨Lf, hLf⟩ : ∃ Lf, (Ls ++ cutR Lk none (some 9)) ++ [(q1, [0, 0]), (q2, [10 ^ (60 : Int).toNat, 10 ^ (60 : Int).toNat])] = Lf := ⟨_, rfl⟩
    have eLf : (Ls ++ cutR Lk none (some 9)).map (fun q => V.ref q.1) ++ [.ref q1, .ref q2] = Lf.map fun q => V.ref q.1 := by
      rw [← hLf]
      simp only [List.map_append, List.map_cons, List.map_nil]
    rw [eLf]
    have s10 := same_new (o := .lst (Lf.map fun q => V.ref q.1)) hq4
    have sX := s5.trans (s6.trans (s7.trans (s8.trans (s9.trans s10))))
    have memLf : ∀ r ∈ Lf, Row (upd (upd (upd (upd (upd (upd H4 pr (.lst ((cutR Lk none (some 9)).map fun q => V.ref q.1))) ps (.lst ((Ls ++ cutR Lk none (some 9)).map fun q => V.ref q.1))) q1 (.tup [.int 0, .int 0])) q2 (.tup [.int (10 ^ (60 : Int).toNat), .int (10 ^ (60 : Int).toNat)])) q3 (.lst [.ref q1, .ref q2])) q4 (.lst (Lf.map fun q => V.ref q.1))) r.1 r.2 ∧ ∃ x y, r.2 = [x, y] := fun r hr1 => by
      rw [← hLf] at hr1
      rcases List.mem_append.mp hr1 with z | z
      · rcases List.mem_append.mp z with z | z
        · obtain ⟨x, y, e, _⟩ := ptS r z
          exact ⟨sX _ _ (nrs.2 r z), x, y, e⟩
        · obtain ⟨x, y, e, _⟩ := ptk r (cutR_sub r z)
          exact ⟨sX _ _ (nrk4.2 r (cutR_sub r z)), x, y, e⟩
      · simp only [List.mem_cons, List.not_mem_nil, or_false] at z
        rcases z with rfl | rfl
        · exact ⟨s10 _ _ (s9 _ _ (s8 _ _ upd_same)), _, _, rfl⟩
        · exact ⟨s10 _ _ (s9 _ _ upd_same), _, _, rfl⟩
    have eLl : (upd (upd (upd (upd (upd (upd H4 pr (.lst ((cutR Lk none (some 9)).map fun q => V.ref q.1))) ps (.lst ((Ls ++ cutR Lk none (some 9)).map fun q => V.ref q.1))) q1 (.tup [.int 0, .int 0])) q2 (.tup [.int (10 ^ (60 : Int).toNat), .int (10 ^ (60 : Int).toNat)])) q3 (.lst [.ref q1, .ref q2])) q4 (.lst (Lf.map fun q => V.ref q.1))) q4 = some (.lst (Lf.map fun q => V.ref q.1)) := upd_same
    generalize upd (upd (upd (upd (upd (upd H4 pr (.lst ((cutR Lk none (some 9)).map fun q => V.ref q.1))) ps (.lst ((Ls ++ cutR Lk none (some 9)).map fun q => V.ref q.1))) q1 (.tup [.int 0, .int 0])) q2 (.tup [.int (10 ^ (60 : Int).toNat), .int (10 ^ (60 : Int).toNat)])) q3 (.lst [.ref q1, .ref q2])) q4 (.lst (Lf.map fun q => V.ref q.1)) = H6 at sX memLf eLl ⊢
    have pic6 := pic4.same sX
    have ecn6 := sX _ _ ecn4
    have etp6 := sX _ _ etp4
    have tk6 := tk4.same sX
    have k6 := kH4.trans (Same.keep sX)
    have nrf : Rws K H6 q4 Lf := ⟨lstL eLl, fun r hr1 => (memLf r hr1).1⟩
    have two : ∀ r ∈ Lf, ∃ x y, r.2 = [x, y] := fun r hr1 => (memLf r hr1).2
    clear memLf eLl hLf eLf s5 s6 s7 s8 s9 s10 hq4 hq3 hq2 hq1 hps hpr pic4 ecn4 etp4 kH4 nrk4 nrs lcut tk4 sX
    refine ⟨q4, rfl, ⟨_, nrf.1⟩, for_list (xs := Lf.map fun q => V.ref q.1) (fun i σ H' => ∃ z10 z11 z12, Same H6 H' ∧ σ = [some (.ref t), some (.ref a), some (.ref one), some (.ref cn), some (.ref du), some (.ref tp), z6, z7, some (.ref kn), some (.ref ps), z10, z11, z12, none])
      ⟨none, none, none, fun _ _ h => h, rfl⟩ (fun i σ H' hi hp' => ?_) (fun i x σ H7 hx hp' => ?_) fun σ H7 hp' => ?_⟩
    · obtain ⟨_, _, _, sm, _⟩ := hp'
      exact same_sql sm nrf.1
    · obtain ⟨z10, z11, z12, s7, rfl⟩ := hp'
      obtain ⟨r, hr', rfl, er⟩ := (nrf.same s7).at hx
      obtain ⟨x, y, exy⟩ := two r (List.mem_of_getElem? hr')
      rw [exy] at er
      refine ⟨r.1, _, rfl, tupT er, rfl, _, _, rfl, _, _, rfl, rfl, ?_⟩
      refine ⟨_, rfl, _, rfl, big2, fun u1 hu1 => ?_⟩
      refine ⟨_, rfl, _, _, rfl, rfl, _, rfl, big2, fun u2 hu2 => ?_⟩
      refine ⟨_, rfl, _, rfl, _, _, rfl, rfl, big2, fun u3 hu3 => ?_⟩
      refine ⟨_, rfl, _, rfl, big2, fun u4 hu4 => ⟨big4, fun u5 hu5 => ?_⟩⟩
      have t1 := same_new (o := .tup [.int x, .int y]) hu1
      have t2 := same_new (o := .tup [.int (x + 1), .int y]) hu2
      have t3 := same_new (o := .tup [.int x, .int (y - 1)]) hu3
      have t4 := same_new (o := .tup [.int y, .int x]) hu4
      have t5 := same_new (o := .lst [.ref u1, .ref u2, .ref u3, .ref u4]) hu5
      have t15 := t1.trans (t2.trans (t3.trans (t4.trans t5)))
      have nr4 : Rws K (upd (upd (upd (upd (upd H7 u1 (.tup [.int x, .int y])) u2 (.tup [.int (x + 1), .int y])) u3 (.tup [.int x, .int (y - 1)])) u4 (.tup [.int y, .int x])) u5 (.lst [.ref u1, .ref u2, .ref u3, .ref u4])) u5 [(u1, [x, y]), (u2, [x + 1, y]), (u3, [x, y - 1]), (u4, [y, x])] := by
        refine ⟨lstL upd_same, fun r hr1 => ?_⟩
        simp only [List.mem_cons, List.not_mem_nil, or_false] at hr1
        rcases hr1 with rfl | rfl | rfl | rfl
        · exact t5 _ _ (t4 _ _ (t3 _ _ (t2 _ _ upd_same)))
        · exact t5 _ _ (t4 _ _ (t3 _ _ upd_same))
        · exact t5 _ _ (t4 _ _ upd_same)
        · exact t5 _ _ upd_same
      have two4 : ∀ r ∈ [(u1, [x, y]), (u2, [x + 1, y]), (u3, [x, y - 1]), (u4, [y, x])], ∃ x y : Int, r.2 = [x, y] := fun r hr1 => by
        simp only [List.mem_cons, List.not_mem_nil, or_false] at hr1
        rcases hr1 with rfl | rfl | rfl | rfl <;> exact ⟨_, _, rfl⟩
      show ∃ a, _
      generalize upd (upd (upd (upd (upd H7 u1 (.tup [.int x, .int y])) u2 (.tup [.int (x + 1), .int y])) u3 (.tup [.int x, .int (y - 1)])) u4 (.tup [.int y, .int x])) u5 (.lst [.ref u1, .ref u2, .ref u3, .ref u4]) = H8 at *
      generalize [(u1, [x, y]), (u2, [x + 1, y]), (u3, [x, y - 1]), (u4, [y, x])] = L4 at nr4 two4
      have s68 := s7.trans t15
      refine ⟨u5, rfl, ⟨_, nr4.1⟩, for_list (xs := L4.map fun q => V.ref q.1) (fun j σ H' => ∃ z12, Same H8 H' ∧ σ = [some (.ref t), some (.ref a), some (.ref one), some (.ref cn), some (.ref du), some (.ref tp), z6, z7, some (.ref kn), some (.ref ps), some (.int x), some (.int y), z12, none])
        ⟨_, fun _ _ h => h, rfl⟩ (fun j σ H' hj hp' => ?_) (fun j v σ H9 hx2 hp' => ?_) fun σ H9 hp' => ?_⟩
      · obtain ⟨_, sm, _⟩ := hp'
        exact same_sql sm nr4.1
      · obtain ⟨z12, s9, rfl⟩ := hp'
        obtain ⟨u, hu', rfl, eu⟩ := (nr4.same s9).at hx2
        obtain ⟨x', y', exy'⟩ := two4 u (List.mem_of_getElem? hu')
        rw [exy'] at eu
        have s69 := s68.trans s9
        refine ⟨_, rfl, _, rfl, one, u.1, L', x', y', rfl, pic6.same s69, eu, fun H10 s10 => ?_⟩
        have cl : (endsAll (L'.map (·.2))).count [x', y'] ≤ 1600 := by
          have z := List.count_le_length (a := [x', y']) (l := endsAll (L'.map (·.2)))
          rw [permE.length_eq, lenE] at z
          omega
        have lg : (((endsAll (L'.map (·.2))).count [x', y'] : Nat) : Int).natAbs.log2 < 1920 := log_of (by
          have z : (1601 : Nat) < 2 ^ 600 := by decide
          omega)
        refine .inl ⟨_, rfl, lg, ?_⟩
        have ecn10 := s10 _ _ (s69 _ _ ecn6)
        refine ⟨_, rfl, cn, rfl, .inr ⟨_, .inl ecn10⟩, _, rfl, _, DGet.t ecn10 (row_k (k := [x', y']) (s10 _ _ eu)), ?_⟩
        rw [val_dI, tally_get tal, ← permE.count_eq]
        exact .inl ⟨_, rfl, lg, rfl, false, by rw [str_ne], iteF ⟨_, s9.trans s10, rfl⟩⟩
      · obtain ⟨z12, s9, rfl⟩ := hp'
        exact ⟨_, _, _, s68.trans s9, rfl⟩
    · obtain ⟨z10, z11, z12, s7, rfl⟩ := hp'
      have pic7 := pic6.same s7
      obtain ⟨pd, pt, ph, pM, pea, pe2, prw, _⟩ := id pic7
      refine ⟨_, rfl, one, pd, _, rfl, pea, one, L', rfl, pic7, fun tp2 etp2 => ⟨_, rfl, _, _, dp_tups etp2 prw, dp_tups (s7 _ _ etp6) prw, shaped_tups _, shaped_tups _, ?_⟩⟩
      rw [eqv_tups]
      exact q c' H7 (k6.trans (Same.keep s7)) (tk6.same s7) c1 (by omega)
end
end K29

set_option Elab.async false
set_option linter.all false
set_option maxRecDepth 100000
set_option maxHeartbeats 8000000
set_option exponentiation.threshold 600
namespace K29
open PySem PySem.Spec PyProof.Rows L2 RT TT PC
theorem two_at {a b v : Int} (h0 : 0 ≤ v) (h : v < 2) : ∃ x, atI [V.int a, V.int b] v = some (.int x) ∧ (x = a ∨ x = b) := by
  rcases (by omega : v = 0 ∨ v = 1) with rfl | rfl
  · exact ⟨a, atI_nat (j := 0) rfl, .inl rfl⟩
  · exact ⟨b, atI_nat (j := 1) rfl, .inr rfl⟩
theorem p60 : (10 : Int) ^ ((60 : Int).toNat) = 1000000000000000000000000000000000000000000000000000000000000 := by decide
theorem p39 : (10 : Int) ^ ((39 : Int).toNat) = 1000000000000000000000000000000000000000 := by decide
/-- the three edges of the small case -/
abbrev E3 : List (List Int) := [[0, 0, 0], [1, 0, 1], [1, 1, 1]]
theorem ends3 : endsAll E3 = [[0, 0], [1, 0], [1, 0], [1, 1], [1, 1], [1, 2]] := by decide
theorem odd3 : OddOf (endsAll E3) [[0, 0], [1, 2]] := by
  refine ⟨by decide, fun k => ?_⟩
  rw [ends3]
  by_cases h : k ∈ ([[0, 0], [1, 0], [1, 0], [1, 1], [1, 1], [1, 2]] : List (List Int))
  · simp only [List.mem_cons, List.not_mem_nil, or_false] at h
    rcases h with rfl | rfl | rfl | rfl | rfl | rfl <;> decide
  · rw [List.count_eq_zero.mpr h]
    refine ⟨fun z => absurd ?_ h, fun z => absurd z (by decide)⟩
    simp only [List.mem_cons, List.not_mem_nil, or_false] at z ⊢
    rcases z with rfl | rfl
    · exact .inl rfl
    · exact .inr (.inr (.inr (.inr (.inr rfl))))
theorem odd0 {R : List (List Int)} (h : OddOf (endsAll []) R) : R = [] := by
  cases R with
  | nil => rfl
  | cons k R =>
    have := (h.2 k).mp (List.mem_cons_self ..)
    rw [show (endsAll ([] : List (List Int))).count k = 0 from rfl] at this
    exact absurd this (by decide)
section
variable {P : Program} {w : World} {K : PySem.W.Frag} {mg : Str → Option Value} {base : Heap}
def spLaw (K : PySem.W.Frag) : Sp := fun vs H Q _ => ∃ (a : Addr) (ns : List Int), vs = [.ref a] ∧ SqL K H a (ns.map V.int) ∧ ∀ H', Q (.bl true) H'
theorem ok_law (D : Ds K) (T : Tx K mg) : FnG P w K mg base CX0 14 (dlaw.adr K) D.fd_law ["script"] (spLaw K) := by
  have GW : FnOk P w K mg base CX0 1 _ _ _ (spWell K) := ok_well D T
  have GD : FnOk P w K mg base CX0 1 _ _ _ spDip := ok_dip D T
  have GS : FnOk P w K mg base CX0 4 _ _ _ spSketch := ok_sketch D T
  have GR : FnG P w K mg base CX0 13 _ _ _ spRight := ok_right D T
  have GI : FnOk P w K mg base CX0 5 _ _ _ (spInit K) := ok_init D T
  have GP : FnOk P w K mg base CX0 3 _ _ _ (spOddP K) := ok_oddp D T
  have GV : FnOk P w K mg base CX0 4 _ _ _ (spEven K) := ok_even D T
  have GDg : FnOk P w K mg base CX0 5 _ _ _ (spDeg K) := ok_degree D T
  refine okG D.F_law sclaw (fun vs H Q E h => ?_) (fun cdv A outer s H vs Q E hg hr h => ?_)
  · obtain ⟨a, ns, rfl, _⟩ := h
    rfl
  · obtain ⟨a, ns, rfl, hS, q⟩ := h
    have nd := sclaw.nd
    refine ⟨_, PSs.nox (pss_cons (ps_for PassesOwn.never rfl (pi_range1 (by rfl) T.z_range (pa_cons (pe_callB (call_max2 rfl) (by rfl) T.z_max (by decide +kernel) (pa_cons pe_int (pa_cons (pe_callB (call_min2 rfl) (by rfl) T.z_min (by decide +kernel) (pa_cons pe_int (pa_cons (pe_callB call_len_seq (by rfl) T.z_len PySem.boot_len (pa_cons (pv 0) pa_nil)) pa_nil))) pa_nil))) pa_nil)) (pg_name (i := 1) nd rfl (.inl rfl)) (pss_cons (ps_set (i := 2) nd rfl (.inl rfl) (pe_call GW (hr.mono (by decide)) (by rfl) T.g__law_well D.F__law_well.kp (b__law_well D) .nil pass0 (pa_cons (pv 0) (pa_cons (pv 1) pa_nil))))
      (pss_one (ps_for PassesOwn.never rfl (pi_list (pe_lst (pa_cons pe_int (pa_cons (pe_ix ix_list (pe_lst (pa_cons pe_int (pa_cons pe_int pa_nil))) (pe_callTy call_int1 (by rfl) T.z_int (by decide +kernel) (pa_cons (pe_cmpR op_eq (pv 1) pe_int (nomark _)) pa_nil)) (fun _ _ => rfl)) pa_nil)))) (pg_name (i := 3) nd rfl (.inl rfl)) (pss_one (ps_if (pt_not (pt_val (pe_callG GR hg hr (by rfl) T.g__law_right D.F__law_right.kp (b__law_right D) .nil pass0 (pa_cons (pv 2) (pa_cons (pe_call GS (hr.mono (by decide)) (by rfl) T.g__law_sketch D.F__law_sketch.kp (b__law_sketch D) .nil pass0 (pa_cons (pv 2) (pa_cons (pv 3) (pa_cons (pe_ix ix_list (pe_lst (pa_cons pe_int (pa_cons pe_int (pa_cons (pe_op op_pow pe_int pe_int) (pa_cons (pe_op op_mulW (pe_op op_pow pe_int pe_int) (pe_op op_pow pe_int pe_int)) pa_nil))))) (pe_call GD (hr.mono (by decide)) (by rfl) T.g__law_dip D.F__law_dip.kp (b__law_dip D) .nil pass0 (pa_cons (pv 2) (pa_cons pe_int pa_nil))) (fun _ _ => rfl)) pa_nil)))) pa_nil))))) (pss_one (ps_ret pe_bl)) pss_nil))))))
      (pss_cons (ps_set (i := 4) nd rfl (.inl rfl) (pe_make T.k_Picture GI (hr.mono (by decide)) (by rfl) T.g_Picture (b_Picture_init D) .nil pass0 (pa_cons (pe_lst (pa_cons (pe_tup (pa_cons pe_int (pa_cons pe_int (pa_cons pe_int pa_nil)))) (pa_cons (pe_tup (pa_cons pe_int (pa_cons pe_int (pa_cons pe_int pa_nil)))) (pa_cons (pe_tup (pa_cons pe_int (pa_cons pe_int (pa_cons pe_int pa_nil)))) pa_nil)))) pa_nil)))
      (pss_one (ps_ret (pe_and (pe_cmpR (op_eqD hr.units) (pe_call GP (hr.mono (by decide)) (by rfl) T.g_odd_points D.F_odd_points.kp (b_odd_points D) .nil pass0 (pa_cons (pv 4) pa_nil)) (pe_lst (pa_cons (pe_tup (pa_cons pe_int (pa_cons pe_int pa_nil))) (pa_cons (pe_tup (pa_cons pe_int (pa_cons pe_int pa_nil))) pa_nil))) (nomark _)) (pe_and (pe_cmpR op_eq (pe_call GDg (hr.mono (by decide)) (by rfl) T.g_degree_at D.F_degree_at.kp (b_degree_at D) .nil pass0 (pa_cons (pv 4) (pa_cons (pe_tup (pa_cons pe_int (pa_cons pe_int pa_nil))) pa_nil))) pe_int (nomark _)) (pe_one (pe_cmpR op_isBl (pe_call GV (hr.mono (by decide)) (by rfl) T.g_is_even D.F_is_even.kp (b_is_even D) .nil pass0 (pa_cons (pe_make T.k_Picture GI (hr.mono (by decide)) (by rfl) T.g_Picture (b_Picture_init D) .nil pass0 (pa_cons (pe_lst pa_nil) pa_nil)) pa_nil)) pe_bl (nomark _))))))))), ?_⟩
    refine ⟨_, rfl, a, _, rfl, .inl hS, _, _, rfl, _, _, rfl, _, rfl, ?b1, ?b2, ?_⟩
    case b1 => split <;> omega
    case b2 => split <;> split <;> omega
    refine for_range (lo := 0) (fun i σ H' => ∃ z1 z2 z3 z4, SqL K H' a (ns.map V.int) ∧ σ = [some (.ref a), z1, z2, z3, z4]) ⟨none, none, none, none, hS, rfl⟩ (fun k σ' H0 hk hp => ?_) fun σ' H' hp => ?_
    · obtain ⟨z1, z2, z3, z4, hS0, rfl⟩ := hp
      have hk8 : k < 9 := by
        have h2 := hk
        split at h2 <;> split at h2 <;> omega
      refine ⟨_, rfl, _, rfl, a, ns, k, by rw [Int.zero_add]; rfl, hS0, by omega, fun t Ht st h0 tk0 => ?_⟩
      refine ⟨by show 2 ≤ sizeLine; decide, fun l1 hl1 => ⟨_, rfl, rfl, .inr ⟨_, rfl, ?_⟩⟩⟩
      have sl1 := same_new (o := .lst [.int 60, .int 400]) hl1
      obtain ⟨b, eb, hb0, hb2⟩ : ∃ b : Int, (if decide (V.int (0 + (k : Int)) = V.int 0) = true then (1 : Int) else 0) = b ∧ 0 ≤ b ∧ b < 2 := by
        split
        · exact ⟨1, rfl, by decide, by decide⟩
        · exact ⟨0, rfl, by decide, by decide⟩
      rw [eb]
      obtain ⟨x, hx, ex⟩ := two_at (a := 60) (b := 400) hb0 hb2
      refine ⟨l1, _, b, _, rfl, rfl, lstL upd_same, hx, by show 2 ≤ sizeLine; decide, fun lm hlm => ?_⟩
      have slm := same_new (o := .lst [.int 12, .int x]) hlm
      have s0L := st.trans (sl1.trans slm)
      have tkL := (tk0.same sl1).same slm
      have tlm : t ≠ lm := (tk0.same sl1).ne hlm
      have elm : upd (upd Ht l1 (.lst [.int 60, .int 400])) lm (.lst [.int 12, .int x]) lm = some (.lst [.int 12, .int x]) := upd_same
      generalize upd (upd Ht l1 (.lst [.int 60, .int 400])) lm (.lst [.int 12, .int x]) = HL at s0L tkL elm ⊢
      clear slm sl1 hlm hl1 st tk0
      refine ⟨lm, rfl, ⟨_, lstL elm⟩, for_list (xs := [.int 12, .int x]) (fun i σ H' => ∃ (c : Nat) (z3 : Option V), Keep t HL H' ∧ Tk H' t c ∧ c ≤ 6000 * i ∧ σ = [some (.ref a), some (.int (0 + k)), some (.ref t), z3, z4])
        ⟨0, _, Keep.refl _ _, tkL, Nat.zero_le _, rfl⟩ (fun i σ H' hi hp => ?_) (fun i v σ H' hv hp => ?_) fun σ H' hp => ?_⟩
      · obtain ⟨c, z3, kk, _⟩ := hp
        exact lstL (kk _ _ (Ne.symm tlm) elm)
      · obtain ⟨c, z3, kk, tk, hc, rfl⟩ := hp
        have hi2 : i < 2 := (List.getElem?_eq_some_iff.mp hv).1
        obtain ⟨m, rfl, hm1, hm2⟩ : ∃ m : Nat, v = .int (m : Int) ∧ 1 ≤ m ∧ m ≤ 400 := by
          rcases (by omega : i = 0 ∨ i = 1) with rfl | rfl
          · exact ⟨12, (Option.some.inj hv).symm, by decide, by decide⟩
          · rcases ex with rfl | rfl
            · exact ⟨60, (Option.some.inj hv).symm, by decide, by decide⟩
            · exact ⟨400, (Option.some.inj hv).symm, by decide, by decide⟩
        refine ⟨_, rfl, _, rfl, _, rfl, ?_⟩
        refine ⟨_, _, rfl, rfl, pw_ok (by decide) (by decide), _, _, rfl, rfl, pw_ok (by decide) (by decide), _, _, rfl, rfl, pw_ok (by decide) (by decide), _, _, rfl, rfl, wide_mul (a := 300) (b := 300) (by rw [p60]; decide) (by rw [p39]; decide) (by decide) (by decide) (by decide), big4, fun ln hln => ?_⟩
        have sn := same_new (o := .lst [.int 1, .int 9, .int (10 ^ (60 : Int).toNat), .int (10 ^ (60 : Int).toNat * 10 ^ (39 : Int).toNat)]) hln
        refine ⟨_, rfl, t, 4, c, rfl, tk.same sn, by omega, by decide, by decide, fun v c1 H1 k1 tk1 c11 c12 v0 v1 => ?_⟩
        have eln : H1 ln = some (.lst [.int 1, .int 9, .int (10 ^ (60 : Int).toNat), .int (10 ^ (60 : Int).toNat * 10 ^ (39 : Int).toNat)]) := k1 _ _ (tk.ne hln).symm upd_same
        obtain ⟨wo, hwo, w1, w2⟩ : ∃ wo : Int, atI [V.int 1, V.int 9, V.int (10 ^ (60 : Int).toNat), V.int (10 ^ (60 : Int).toNat * 10 ^ (39 : Int).toNat)] v = some (.int wo) ∧ 1 ≤ wo ∧ wo.natAbs < 2 ^ 390 := by
          rcases (by omega : v = 0 ∨ v = 1 ∨ v = 2 ∨ v = 3) with rfl | rfl | rfl | rfl
          · exact ⟨1, atI_nat (j := 0) rfl, by decide, by decide⟩
          · exact ⟨9, atI_nat (j := 1) rfl, by decide, by decide⟩
          · exact ⟨_, atI_nat (j := 2) rfl, by rw [p60]; decide, by rw [p60]; decide⟩
          · exact ⟨_, atI_nat (j := 3) rfl, by rw [p60, p39]; decide, by rw [p60, p39]; decide⟩
        refine ⟨ln, _, v, _, rfl, rfl, lstL eln, hwo, ?_⟩
        refine ⟨t, c1, m, wo, rfl, tk1, by omega, hm1, hm2, w1, w2, fun r L c2 H2 k2 tk2 c21 c22 nr edg len far => ?_⟩
        refine ⟨t, r, c2, L, rfl, tk2, by omega, nr, edg, len, far, fun c3 H3 k3 tk3 c31 c32 => ⟨true, rfl, iteF ?_⟩⟩
        exact ⟨c3, _, kk.trans (Keep.trans (Same.keep sn) (k1.trans (k2.trans k3))), tk3, by omega, rfl⟩
      · obtain ⟨c, z3, kk, tk, hc, rfl⟩ := hp
        refine ⟨_, _, _, _, ?_, rfl⟩
        rcases hS0 with (h | ⟨o, h⟩) | h
        · exact .inl (.inl (kk _ _ (ne_of_none h h0) (s0L _ _ h)))
        · exact .inl (.inr ⟨o, kk _ _ (ne_of_none h h0) (s0L _ _ h)⟩)
        · exact .inr h
    · obtain ⟨z1, z2, z3, z4, hS0, rfl⟩ := hp
      refine ⟨big3, fun p1 hp1 => ⟨big3, fun p2 hp2 => ⟨big3, fun p3 hp3 => ⟨big3, fun l hl => ?_⟩⟩⟩⟩
      have s1 := same_new (o := .tup [.int 0, .int 0, .int 0]) hp1
      have s2 := same_new (o := .tup [.int 1, .int 0, .int 1]) hp2
      have s3 := same_new (o := .tup [.int 1, .int 1, .int 1]) hp3
      have s4 := same_new (o := .lst [.ref p1, .ref p2, .ref p3]) hl
      have nrl : Rws K (upd (upd (upd (upd H' p1 (.tup [.int 0, .int 0, .int 0])) p2 (.tup [.int 1, .int 0, .int 1])) p3 (.tup [.int 1, .int 1, .int 1])) l (.lst [.ref p1, .ref p2, .ref p3])) l [(p1, [0, 0, 0]), (p2, [1, 0, 1]), (p3, [1, 1, 1])] := by
        refine ⟨lstL upd_same, fun r hr1 => ?_⟩
        simp only [List.mem_cons, List.not_mem_nil, or_false] at hr1
        rcases hr1 with rfl | rfl | rfl
        · exact s4 _ _ (s3 _ _ (s2 _ _ upd_same))
        · exact s4 _ _ (s3 _ _ upd_same)
        · exact s4 _ _ upd_same
      have edg : Edges [(p1, [0, 0, 0]), (p2, [1, 0, 1]), (p3, [1, 1, 1])] := by
        refine ⟨fun r hr1 => ?_, by show ([[0, 0, 0], [1, 0, 1], [1, 1, 1]] : List (List Int)).Nodup; decide, by show 3 ≤ 1228; decide⟩
        simp only [List.mem_cons, List.not_mem_nil, or_false] at hr1
        rcases hr1 with rfl | rfl | rfl
        · exact ⟨0, 0, 0, rfl, .inl rfl⟩
        · exact ⟨1, 0, 1, rfl, .inr rfl⟩
        · exact ⟨1, 1, 1, rfl, .inr rfl⟩
      refine fun one d0 fa d1 _ => make_q (K := K) nrl edg fa d1 fun Ha L' sa pic perm => ⟨rfl, ?_⟩
      have perm : (L'.map (·.2)).Perm E3 := perm
      have permE := endsAll_perm perm
      refine ⟨_, rfl, one, L', rfl, pic, fun to Lt H2 t2 hto nrt oddt => ?_⟩
      have eT : Lt.map (·.2) = [[0, 0], [1, 2]] := odd_uniq oddt odd3 permE
      refine ⟨big2, fun u1 hu1 => ⟨big2, fun u2 hu2 => ⟨big2, fun u3 hu3 => ?_⟩⟩⟩
      have r1 := same_new (o := .tup [.int 0, .int 0]) hu1
      have r2 := same_new (o := .tup [.int 1, .int 2]) hu2
      have r3 := same_new (o := .lst [.ref u1, .ref u2]) hu3
      have r13 := r1.trans (r2.trans r3)
      have dpt := dp_rows ((nrt.rws (K := K)).same r13)
      have nru : Rws K (upd (upd (upd H2 u1 (.tup [.int 0, .int 0])) u2 (.tup [.int 1, .int 2])) u3 (.lst [.ref u1, .ref u2])) u3 [(u1, [0, 0]), (u2, [1, 2])] := by
        refine ⟨lstL upd_same, fun r hr1 => ?_⟩
        simp only [List.mem_cons, List.not_mem_nil, or_false] at hr1
        rcases hr1 with rfl | rfl
        · exact r3 _ _ (r2 _ _ upd_same)
        · exact r3 _ _ upd_same
      refine ⟨_, _, dpt, dp_rows nru, shaped_rows _, shaped_rows _, ?_⟩
      rw [eT, show PyData.eqv (rowsD [[0, 0], [1, 2]]) (rowsD ([(u1, [0, 0]), (u2, [1, 2])].map (·.2))) = true from eqv_rows _]
      refine ⟨true, rfl, iteT ?_⟩
      have pic3 := (pic.same t2).same r13
      refine ⟨_, rfl, big2, fun u4 hu4 => ?_⟩
      have r4 := same_new (o := .tup [.int 1, .int 0]) hu4
      refine ⟨one, u4, L', 1, 0, rfl, pic3.same r4, upd_same, fun H5 t5 => ?_⟩
      rw [permE.count_eq]
      refine ⟨rfl, ?_⟩
      rw [show decide (V.int (((endsAll E3).count [1, 0] : Nat) : Int) = V.int 2) = true from by rw [ends3]; decide]
      refine ⟨true, rfl, iteT ?_⟩
      refine ⟨big0, fun u6 hu6 => ?_⟩
      have nr6 : Rws K (upd H5 u6 (.lst [])) u6 [] := ⟨lstL upd_same, fun _ z => nomatch z⟩
      refine fun two e0 fa2 e1 _ => make_q (K := K) nr6 ⟨fun _ z => (nomatch z), List.nodup_nil, Nat.zero_le _⟩ fa2 e1 fun H7 L7 t7 pic7 perm7 => ⟨rfl, ?_⟩
      have e7 : L7.map (·.2) = [] := perm7.eq_nil
      refine ⟨two, L7, rfl, pic7, fun R H8 t8 oddR => ?_⟩
      rw [e7] at oddR
      rw [odd0 oddR]
      exact ⟨true, true, rfl, rfl, q H8⟩
end
end K29

set_option Elab.async false
set_option linter.all false
set_option maxRecDepth 100000
set_option maxHeartbeats 0
namespace K29
open PySem PySem.Spec PyProof.Rows L2
theorem run0 (w : World) : HandSHeadRun.RunEq Rw (PySem.W.view Rw.prog [34]) hk ob 12000 names (w.withFollow "special-get-raises" false) := by
  intro os
  kernel_rfl
theorem run1 (w : World) : HandSHeadRun.RunEq Rw (PySem.W.view Rw.prog [34]) hk ob 12000 names (w.withFollow "special-get-raises" true) := by
  intro os
  kernel_rfl
theorem run (w : World) : HandSHeadRun.RunEq Rw (PySem.W.view Rw.prog [34]) hk ob 12000 names w := PySem.W.byRow2 "special-get-raises" (P := fun w => HandSHeadRun.RunEq Rw (PySem.W.view Rw.prog [34]) hk ob 12000 names w) run0 run1 w
end K29

set_option Elab.async false
set_option linter.all false
set_option maxRecDepth 100000
set_option maxHeartbeats 0
open PySem PySem.W PySem.Calls PyProof.Rows
theorem PySem.Challenge.cw_plotpens_k29_degrees_and_odd_points_holds : PySem.Challenge.rw_plotpens_k29_degrees_and_odd_points.Holds := by
  w_on; o_law
  refine HandSHeadRun.head_any (r := OpenLaw.row PySem.Challenge.rw_plotpens_k29_degrees_and_odd_points) (q := view (OpenLaw.row PySem.Challenge.rw_plotpens_k29_degrees_and_odd_points).prog [34]) (H := K29.hk) (ob := K29.ob) (M := 12000) (loose := K29.names) (d := HandSHeadRun.topDef (OpenLaw.row PySem.Challenge.rw_plotpens_k29_degrees_and_odd_points).prog 34) (kwd := []) K29.ob_eq
    (by kernel_rfl) (fun s => by kernel_rfl) K29.run (by kernel_rfl) (by kernel_rfl) (by kernel_rfl) (by rfl) (by first | assumption | decide +kernel) (by decide +kernel) ⟨rfl, rfl, rfl, rfl, rfl, by decide +kernel⟩ ?hw ?hc
  case hw => w_witness2
  case hc =>
    refine RT.walk_ofG (l := PySem.Challenge.rw_plotpens_k29_degrees_and_odd_points) (n := 63) (k := 14) (x := "script") (CX := fun _ => L2.CX0) rfl (by decide) (by kernel_rfl) ⟨rfl, by decide, by decide⟩ ?F (fun _ _ _ _ _ z => z)
    intro w mg fa h Y G hmg0
    obtain ⟨K, KX, c⟩ := Y
    have hmg : mg ("law" : PySem.Str) = some (.ref fa) := by
      have e : (HandSHeadRun.topDef (OpenLaw.row PySem.Challenge.rw_plotpens_k29_degrees_and_odd_points).prog 34).name = ("law" : PySem.Str) := by kernel_rfl
      rw [← e]
      exact hmg0
    have T := K29.tx_of KX G c
    obtain ⟨D⟩ := K29.ds_of c
    have e := hmg.symm.trans T.g_law
    cases e
    have b := L2.FunD.bindsA (ps := ["script"]) D.F_law fun _ _ _ _ _ _ us hl => match us, hl with | [_], _ => rfl
    exact ⟨K, D.fd_law, K29.spLaw K, KX, fun s v => b s [v] rfl, fun H a ns hl _ hS => ⟨a, ns, rfl, hS, fun _ => rfl⟩, fun base _ _ => K29.ok_law D T⟩
