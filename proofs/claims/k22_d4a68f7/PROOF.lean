import PyProof.Rows.All
import Wide.All
import OpenK.AllK
import Wide.FinOn
import HandS.ForMost
import HandS.Exc
import HandS.ExcCtx
import HandS.TryOnly
import HandS.ExcInit
import HandS.IsInst
import HandS.ExcIs
import HandS.ExcField
import HandS.SortKw
import HandS.FStr
import HandS.Wide
import KE.DataMinMax
import PyProof.StrBlock2
import PyProof.Rows.RuleB_pow
import HandS.SlotsOwn
import HandS.Property
import HandS.OwnEq
import KE.KOpsOwn
import OpenK.KOps
import HandS.WordsExc
import HandS.Defaults
import HandS.EndBits
import KE.KStateDown
import Lean
import HandS.Head0
import HandS.Head1
import HandS.Head2
import HandS.HeadEnd
import HandS.HeadHook1
import HandS.HeadHook2
import HandS.SetFor
import KE.KCallOwn
import PyProof.InstEq
import HandS.Style
import HandS.SortInts
import HandS.Zip
import HandS.Strs
import HandS.TupSets
import HandS.Walk
import HandS.SortRule
import KE.KDictZip
import HandS.ForExc
import HandS.Conv
import HandS.ListItems
import HandS.Deep
import HandS.List
import PySem.Challenge.RW_plotpens_k22_interval_errors
set_option Elab.async false
set_option linter.all false
set_option maxRecDepth 100000
set_option maxHeartbeats 4000000
/-! a try whose clause keeps the exception: behind it the exception stands tracked -/
namespace RT
open PySem PySem.Spec PyProof.Rows L2 L2N
/-- an exception that was caught, at a: its class, its own dict -/
def ExT (a : Addr) (cls : Value) (d : Option Addr) : HO := .ext fun h => ∃ (oe : Obj) (vs : Array Value), h.get? a = some oe ∧ oe.cls = cls ∧ oe.dict = d ∧ oe.data = .fields vs
theorem exT_ok {P : Program} {w : World} {H : Hp} {h : Heap} {a : Addr} {cls : Value} {d : Option Addr} {oe : Obj} {vs : Array Value} (e : h.get? a = some oe) (z : oe.cls = cls) (z2 : oe.dict = d) (dd : oe.data = .fields vs) : ObjOk P w H h a (ExT a cls d) :=
  ⟨⟨oe, vs, e, z, z2, dd⟩, ⟨oe, e⟩, fun _ _ ⟨o, v, q, r⟩ k => ⟨o, v, k o q, r⟩⟩
section
variable {X : Cx} {pins : List (Addr × Obj)} {σ : L2.St} {H : Hp} {s : Shared}
theorem Inv.trackX {a : Addr} {o : HO} {oe : Obj} (I : Inv X pins σ H s) (he : s.heap.get? a = some oe) (hn : H a = none) (n0 : X.s_0.heap.get? a = none) (nL : a ≠ X.env.locals)
    (nC : ∀ x c, X.env.cells.lookup x = some c → c ≠ a) (nP : ∀ p ∈ X.pn ++ pins, p.1 ≠ a) (new : ObjOk X.prog X.w (upd H a o) s.heap a o) : Inv X pins σ (upd H a o) s := by
  have ne0 : ∀ b u, X.s_0.heap.get? b = some u → b ≠ a := fun b u e z => by
    rw [z, n0] at e
    cases e
  have neH : ∀ b u, H b = some u → b ≠ a := fun b u e z => by
    rw [z, hn] at e
    cases e
  refine ⟨I.ok, I.os, I.bare, ⟨I.base.keep, I.base.slot, fun b u e n hx => ?_, I.base.there, fun b xs e => ?_, fun b u xs e => ?_, fun b ps e => ?_⟩, I.loc, I.cell, ?_, fun x c e => ?_, fun p hp => ?_, fun b u e => ?_, I.len⟩
  · rw [upd_ne (ne0 b u e)]
    exact I.base.free b u e n hx
  · have q := I.base.tups b xs e
    rw [upd_ne (neH b _ q)]
    exact q
  · have q := I.base.frzs b u xs e
    rw [upd_ne (neH b _ q)]
    exact q
  · obtain ⟨m, q⟩ := I.base.tbls b ps e
    refine ⟨m, ?_⟩
    rw [upd_ne (neH b _ q)]
    exact q
  · rw [upd_ne (Ne.symm nL)]
    exact I.free
  · rw [upd_ne (nC x c e)]
    exact I.freeC x c e
  · obtain ⟨q1, q2, q3, q4, q5⟩ := I.pin p hp
    refine ⟨q1, ?_, q3, q4, q5⟩
    rw [upd_ne (nP p hp)]
    exact q2
  · by_cases hb : b = a
    · subst hb
      rw [upd_same] at e
      cases e
      exact new
    · rw [upd_ne hb] at e
      refine (I.hok b u e).stay (fun c v _ q => q) (fun c q => ?_) fun c xs q => ?_
      · rw [upd_ne (neH c _ q)]
        exact q
      · rw [upd_ne (neH c _ q)]
        exact q
end
/-- as wAs, but behind the suite the exception is tracked -/
def wAsT (K : PySem.W.Frag) (c : Value) (i : Nat) (ts : Addr → Value → Option Addr → TS) (Wout : WX) (D : Ends) : WX := fun cls d σ H =>
  ∃ b, PySem.W.exmOne K cls c = some b ∧ (b = true → ∀ a, H a = none → ts a cls d { nx := fun σ' H' => D.nx (σ'.set i none) (upd H' a (ExT a cls d)), rt := D.rt, bk := fun σ' H' => D.bk (σ'.set i none) H', ct := fun σ' H' => D.ct (σ'.set i none) H' } (σ.set i (some (.ref a))) H) ∧
    (b = false → Wout cls d σ H)
section
variable {X : Cx} {body : List Stmt} {pos pos' np : Pos} {tb : WX → TS} {Wout : WX} {i : Nat} {n x : Str} {c : Value} {b₀ : Stmt} {suite : List Stmt} {ts : Addr → Value → Option Addr → TS}
theorem ps_try_asT (hs : X.stack = X.env :: X.outer) (hf : X.env.frame = some X.env.locals) (hex : X.ex = []) (hN : X.N.Nodup) (hi : X.N[i]? = some n) (hln : X.env.kindOf n = some .local) (hc : Names X x c) (tk : L2N.Takes X Wout)
    (hb : ∀ (W : WX) (pn : List (Addr × Obj)) (xe : Value → Shared → Prop), L2N.Takes (X.tr pn xe) W → PassesOwn (model X.prog X.w) X.A X.env xe → PSs (X.tr pn xe) body (tb W))
    (hsu : ∀ (a : Addr) (oe : Obj) (cls : Value) (d : Option Addr) (pn : List (Addr × Obj)), Zn cls d oe → (∃ vs, oe.data = .fields vs) → PSs (X.suite a ((a, oe) :: pn)) (b₀ :: suite) (ts a cls d)) :
    PS X (.Try body [.ExceptHandler (some (.Name x np)) (some n) (b₀ :: suite) pos'] [] [] pos) (fun D σ H => tb (wAsT X.K c i ts Wout D) D σ H) := by
  refine ⟨fun pins s σ H D I h => ?_⟩
  have okX := I.ok
  have frEq : X.A.frames = some (X.env :: X.outer) := by rw [okX.frames, hs]
  have locN : Loc X.env.scope n := .inl hln
  refine wpAny_Try_except ?_
  refine wpAny_mono ((hb (wAsT X.K c i ts Wout D) (X.pn ++ pins) (fun e s₁ => wpAny (model X.prog X.w) X.A (noteFrame e X.env) (fun _ s₂ => wpAny (model X.prog X.w) X.A (setFlight e none) (fun _ s₃ =>
    wpAny (model X.prog X.w) X.A (handleBy e X.env [.ExceptHandler (some (.Name x np)) (some n) (b₀ :: suite) pos']) (SP X pins D) X.xe s₃) X.xe s₂) X.xe s₁) (fun u s' wish => ?_) PassesOwn.looking).run [] s σ H D (I.toTry _) h) (fun f s1 spq => ?_) (fun e s1 he => he)
  · -- the catch
    obtain ⟨a, B, sI, pins', σ', H', cls, d, rfl, J0, botB, up, airA, frA, osE, agE, b, exB, yesB, noB⟩ := wish
    have J : Inv X pins σ' H' sI := J0.ofTry okX
    have airB : Sky B (X.env :: X.outer) a (Zn cls d) X.env.locals s'.heap := by rw [← hs]; exact airA
    show wpAny (model X.prog X.w) X.A (noteFrame (.ref a) X.env) _ _ _
    refine Sky.land Zn.steady frEq hf airB fun hpA flyA growA => ?_
    have JA : Inv X pins σ' H' { s' with heap := hpA } := J.landed botB flyA.1 (up.trans growA) osE agE
    obtain ⟨oA, fvA, atA, znA, flA⟩ := flyA.there
    have noFrame : ∀ {h : Heap} {o : Obj} {vs : Array Value}, h.FunFrames B (X.env :: X.outer) → h.get? a = some o → o.data = .fields vs → a ∉ frs (X.env :: X.outer) := fun {h o vs} ff e dd hmm => by
      obtain ⟨_, o', e', hnf⟩ := ff.mem hmm
      rw [e] at e'; cases e'
      exact hnf _ dd
    have offFr := noFrame flyA.2.2.1 atA flA
    have nL : a ≠ X.env.locals := fun z => offFr (List.mem_filterMap.mpr ⟨X.env, List.mem_cons_self, by rw [hf, z]⟩)
    have nF : a ∉ X.fs := fun hmm => by
      obtain ⟨e, he, q⟩ := List.mem_filterMap.mp hmm
      exact offFr (List.mem_filterMap.mpr ⟨e, List.mem_cons_of_mem _ he, q⟩)
    have nI : ∀ o, sI.heap.get? a = some o → False := fun o e => by
      have q := botB a o e (by rw [hs]; exact offFr)
      rw [flyA.2.1] at q
      cases q
    have n0 : X.s_0.heap.get? a = none := by
      cases e : X.s_0.heap.get? a with
      | none => rfl
      | some o =>
        obtain ⟨o', e'⟩ := J.base.there a o e (by rw [hex]; exact fun z => nomatch z)
        exact (nI o' e').elim
    have nC : ∀ x c, X.env.cells.lookup x = some c → c ≠ a := fun x c e z => by
      obtain ⟨v, o, ho, _⟩ := J.cell x c e
      rw [z] at ho
      exact nI o ho
    have nP : ∀ p ∈ X.pn ++ pins, p.1 ≠ a := fun p hp z => by
      have q := (J.pin p hp).1
      rw [z] at q
      exact nI _ q
    have SA := JA.suite atA flA frA nL nF
    refine wpAny_handleBy_cons (codeAny_handlers_test ?_) (by intro q; cases q)
    have lookT : PySem.W.Looks (model X.prog X.w) hpA (typeOf (.ref a)) cls := fun A Q E s k q => wpAny_typeOf_ref (k _ _ atA) (by rw [znA.1]; exact q)
    have lookM := PySem.W.exm_one (M := model X.prog X.w) (JA.kIn) lookT exB
    have asks : ∀ {Q : Value → Shared → Prop} {E : Value → Shared → Prop}, Q c { s' with heap := hpA } → wpAny (model X.prog X.w) (X.A.mark (some (.ref a))) (eval (.Name x np) X.env) Q E { s' with heap := hpA } := fun {Q E} q => by
      obtain ⟨hg, hdbg, hmm | ⟨hmm, hv, hnn⟩⟩ := hc
      · exact ld_glob (X := X.suite a ((a, oA) :: (X.pn ++ pins))) SA hg hmm q hdbg
      · exact ld_blt (X := X.suite a ((a, oA) :: (X.pn ++ pins))) SA hg hmm hv q hnn hdbg
    refine asks (lookM.here ?_)
    cases b with
    | true =>
      refine codeAny_handlers_suite_as ?_
      refine HandSPX.lands_againZ flyA fun hpB flyB growB => ?_
      have JB : Inv X pins σ' H' { s' with heap := hpB } := J.landed botB flyB.1 ((up.trans growA).trans growB) osE agE
      obtain ⟨oB, fvB, atB, znB, flB⟩ := flyB.there
      have SB4 := JB.suite atB flB frA nL nF
      refine store_ok (X := X.suite a ((a, oB) :: (X.pn ++ pins))) (v := .ref a) SB4 hN hi locN rfl (fun sS SS => ?_) (.inr hln)
      refine wpAny_mono ((hsu a oB cls d (X.pn ++ pins) znB ⟨_, flB⟩).run [] sS _ H' _ SS (yesB rfl a frA)) (fun f sT spq => ?_) (fun _ _ z => False.elim z)
      have endO : ∀ {σT : L2.St} {HT : Hp} {Q : Shared → Prop}, Inv (X.suite a ((a, oB) :: (X.pn ++ pins))) [] σT HT sT → (∀ sU, Inv X pins (σT.set i none) HT sU → Q sU) →
          wpAny (model X.prog X.w) X.A (do bindName X.env n .none; unbindBehindTheSuite X.env n pos') (fun _ sU => Q sU) X.xe sT := fun {σT HT Q} ST hq => gone_ok (ST.unsuite okX) hN hi hln hq
      have endT : ∀ {σT : L2.St} {HT : Hp} {Q : Shared → Prop}, Inv (X.suite a ((a, oB) :: (X.pn ++ pins))) [] σT HT sT → (∀ sU, Inv X pins (σT.set i none) (upd HT a (ExT a cls d)) sU → Q sU) →
          wpAny (model X.prog X.w) X.A (do bindName X.env n .none; unbindBehindTheSuite X.env n pos') (fun _ sU => Q sU) X.xe sT := fun {σT HT Q} ST hq => by
        obtain ⟨p1, p2, _⟩ := ST.pin (a, oB) (List.mem_append_left _ List.mem_cons_self)
        refine gone_ok (Inv.trackX (ST.unsuite okX) p1 p2 n0 nL nC nP (exT_ok p1 znB.1 znB.2.1 flB)) hN hi hln hq
      cases f with
      | next =>
        obtain ⟨σT, HT, ST, qT⟩ := spq
        exact endT ST fun sU JU => ⟨_, _, JU, qT⟩
      | brk =>
        obtain ⟨σT, HT, ST, qT⟩ := spq
        exact endO ST fun sU JU => ⟨_, _, JU, qT⟩
      | cont =>
        obtain ⟨σT, HT, ST, qT⟩ := spq
        exact endO ST fun sU JU => ⟨_, _, JU, qT⟩
      | ret u =>
        obtain ⟨vT, σT, HT, ST, rT, qT⟩ := spq
        exact endO ST fun sU JU => ⟨_, _, _, JU, rT, qT⟩
    | false =>
      show wpAny _ X.A (handleBy (.ref a) X.env []) _ _ _
      refine wpAny_handleBy_nil ?_
      obtain ⟨k1, k2, k3, oe, vs, T, oT, ts', he, hz, hd, h1, hr⟩ := id flyA
      unfold PySem.passOn
      refine wpAny_bind (wpAny_field he hd h1 ?_)
      rw [if_neg (show ¬ ((Value.ref T == Value.none) = true) from by simp)]
      have outW : wpAny (model X.prog X.w) X.A (setFlight (.ref a) X.env.frame) (fun _ s4 => wpAny (model X.prog X.w) X.A (throw (.ref a) : Sem Flow) (SP X pins D) X.xe s4) X.xe { s' with heap := hpA } := by
        rw [hf]
        refine HandSPX.setFlight_upZ flyA fun hpB heldB growB => wpAny_throw (tk _ _ ?_)
        exact ⟨a, B, sI, pins, σ', H', cls, d, rfl, J, botB, (up.trans growA).trans growB, .inr (.inr (by rw [hs]; exact heldB)), frA, osE, agE, noB rfl⟩
      first
        | exact wpAny_bind (wpAny_pure (wpAny_bind outW))
        | exact wpAny_bind outW
  · cases f with
    | next =>
      obtain ⟨σ', H', J0, q⟩ := spq
      exact wpAny_execs_nil ⟨σ', H', J0.ofTry okX, q⟩
    | brk =>
      obtain ⟨σ', H', J0, q⟩ := spq
      exact ⟨σ', H', J0.ofTry okX, q⟩
    | cont =>
      obtain ⟨σ', H', J0, q⟩ := spq
      exact ⟨σ', H', J0.ofTry okX, q⟩
    | ret u =>
      obtain ⟨v, σ', H', J0, r, q⟩ := spq
      exact ⟨v, σ', H', J0.ofTry okX, r, q⟩
end
end RT

set_option Elab.async false
set_option linter.all false
set_option maxRecDepth 100000
set_option maxHeartbeats 4000000
/-! isinstance, fields of an exception that was caught and kept -/
namespace PySem.W
open PyProof.Rows
section
variable {prog : Program} {w : World} {A : Around} {E : Value → Shared → Prop} {s : Shared} {K : Frag} {x D : Addr} {ox : Obj} {od : Option Obj}
theorem kin_classX {Q : Option Value → Shared → Prop} (dGet : findIn K (.ref D) "__getattribute__" = some (some (.builtin "BaseException.__getattribute__"))) (dAlt : findIn K (.ref D) "__getattr__" = some none) (dSub : subIn K (.ref D) (.type "BaseException") = some true)
    (dDic : hasDictIn K D = true) (dCls : findIn K (.ref D) "__class__" = some (some (.builtin "object.__class__")))
    (dDes : specialIn K (.builtin "object.__class__") "__get__" = some (some (.builtin "getset_descriptor.__get__"))) (dTak : takesIn K (.builtin "object.__class__") = some true) (dMro : mroIn K D (.type "object") = some true)
    (X : K.In s.heap) (I : InstAt s.heap x ox D od) (h : Q (some (.ref D)) { s with toks := s.toks + 1 }) : wpAny (model prog w) A (getAttr? (.ref x) "__class__") Q E s := by
  have isC : (clsIn K D).isSome = true := by obtain ⟨cd, hc, _⟩ := any_some dDic; rw [hc]; rfl
  have found : findObj K D od "__class__" = some (.bind (.builtin "getset_descriptor.__get__") (.builtin "object.__class__")) := by
    cases od with
    | none => exact findObj_dataN isC dCls dDes dTak
    | some o => exact findObj_data isC dCls dDes dTak
  obtain ⟨hq0, g, d, t, os⟩ := s
  have k0 := I.type (M := model prog w)
  have k1 := looks_findIn (M := model prog w) X dGet
  have k2 := looks_findIn (M := model prog w) X dAlt
  have k3 := looks_find (M := model prog w) X I found
  have below : Looks (model prog w) hq0 (isInstance (.ref x) (.type "BaseException")) true := k0.andThen (looks_subIn X dSub)
  have z0 : (false && onTheHeap (Value.builtin "BaseException.__getattribute__")) = false := rfl
  have z2 : (Value.builtin "BaseException.__getattribute__" == Value.builtin "object.__getattribute__") = false := by decide +kernel
  have z1 : (onTheHeap (Value.ref D) && Value.builtin "BaseException.__getattribute__" == Value.builtin "object.__getattribute__") = false := by rw [z2]; rfl
  unfold getAttr? getAttrBy? getAttrBy
  refine wpAny_bind (wpAny_mkText (wpAny_bind (wpAny_attempt (wpAny_holding (wpAny_bind (k0.at (wpAny_bind (k1.at ?_))))))))
  show wpAny _ _ (if (onTheHeap (Value.ref D) && Value.builtin "BaseException.__getattribute__" == Value.builtin "object.__getattribute__") = true then _ else _) _ _ _
  rw [z1, if_neg Bool.false_ne_true]
  unfold getAttrByItsOwn hookBefore
  refine wpAny_bind ?_
  rw [if_pos (show onTheHeap (Value.ref D) = true from rfl)]
  refine k2.at ?_
  refine wpAny_bind (wpAny_attempt (wpAny_holding ?_))
  unfold callGetattribute
  rw [z0, if_neg Bool.false_ne_true]
  unfold boundAndCalled
  rw [PySem.F.excAttr_ValueError.ga.bind (.ref x)]
  refine wpAny_bind (wpAny_pure ?_)
  show wpAny _ _ (call (.builtin "BaseException.__getattribute__") [.ref x, .str "__class__" t]) _ _ _
  refine wpAny_call (codeAny_call_builtin PySem.F.excAttr_ValueError.ga.plain PySem.F.entry_bexc_ga ?_)
  refine @check_slot (model prog w) _ _ ⟨hq0, g, d, t + 1, os⟩ "BaseException.__getattribute__" "BaseException" "__getattribute__" (.ref x) [.str "__class__" t] [] _ (by decide +kernel) (by decide +kernel) below (PySem.F.args_bexc_ga (.ref x) (.str "__class__" t)) ?_
  unfold Builtin.«object.__getattribute__»
  refine wpAny_bind (wpAny_of_eq (a := ((Value.ref x : Value), [Value.str "__class__" t])) (by first | rfl | (simp only [slotArgs]; rfl)) ?_)
  refine wpAny_bind (wpAny_pure (wpAny_bind (k0.at (wpAny_bind (k3.at ?_)))))
  show wpAny _ _ (holding [Value.builtin "object.__class__"] (call (.builtin "getset_descriptor.__get__") [.builtin "object.__class__", .ref x, .ref D]) >>= ret) _ _ _
  refine wpAny_bind (wpAny_holding (wpAny_call (class_get (s := ⟨hq0, g, d, t + 1, os⟩) (ox := ox) (od := od) X I dMro ?_)))
  refine wpAny_pure ?_
  show wpAny _ _ (handedOut (.ref D)) _ _ _
  rw [handedOut_of (v := .ref D) rfl]
  first
    | exact wpAny_pure (wpAny_pure h)
    | exact wpAny_pure h
    | exact wpAny_pure (wpAny_bind (wpAny_pure (wpAny_pure h)))
theorem kitx_excX (dGet : findIn K (.ref D) "__getattribute__" = some (some (.builtin "BaseException.__getattribute__"))) (dAlt : findIn K (.ref D) "__getattr__" = some none) (dSub : subIn K (.ref D) (.type "BaseException") = some true) (dDic : hasDictIn K D = true) (dCls : findIn K (.ref D) "__class__" = some (some (.builtin "object.__class__")))
    (dDes : specialIn K (.builtin "object.__class__") "__get__" = some (some (.builtin "getset_descriptor.__get__"))) (dTak : takesIn K (.builtin "object.__class__") = some true) (dMro : mroIn K D (.type "object") = some true) :
    KitX K (.ref x) (.ref D) (fun h => InstAt h x ox D od) where
  ty := fun _ _ _ I => I.type
  it := fun _ _ X _ => by
    obtain ⟨cdx, hcx, _⟩ := any_some dDic
    unfold clsIn at hcx
    split at hcx
    · rename_i c1 d1 cd1 sl1 hob
      intro A1 Q1 E1 s1 k q
      unfold isType loadHead
      exact wpAny_bind (wpAny_loadPart (k _ _ (X _ _ hob)) (wpAny_pure q))
    · cases hcx
  ne := fun h tp dd its n sl X htup => by
    obtain ⟨cdx, hcx, _⟩ := any_some dDic
    refine Bool.eq_false_iff.mpr fun q => ?_
    have e : D = tp := Value.ref.inj (beq_iff_eq.mp q)
    subst e
    unfold clsIn at hcx
    split at hcx
    · rename_i c1 d1 cd1 sl1 hob
      have z := (X _ _ hob).symm.trans htup
      cases z
    · cases hcx
  ca := fun X I k => kin_classX dGet dAlt dSub dDic dCls dDes dTak dMro X I k
end
end PySem.W
namespace RT
open PySem PySem.Spec PyProof.Rows L2
/-- a value's type, exceptions that were kept too -/
inductive TyY (K : PySem.W.Frag) (H : Hp) : V → Value → Prop where
  | base {x : V} {t : Value} (h : TyX K H x t) : TyY K H x t
  | exc0 {a D : Addr} (e : H a = some (ExT a (.ref D) none)) (c : ExcC K D) : TyY K H (.ref a) (.ref D)
  | exc1 {a D dd : Addr} {fs : List (Str × V)} (e : H a = some (ExT a (.ref D) (some dd))) (e2 : H dd = some (.xd fs)) (c : ExcC K D) : TyY K H (.ref a) (.ref D)
theorem exT_get {P : Program} {w : World} {H : Hp} {h : Heap} {a : Addr} {cls : Value} {d : Option Addr} (I : HOk P w H h) (e : H a = some (ExT a cls d)) : ∃ (oe : Obj) (vs : Array Value), h.get? a = some oe ∧ oe.cls = cls ∧ oe.dict = d ∧ oe.data = .fields vs := (I a _ e).1
section
variable {X : Cx} {pins : List (Addr × Obj)} {σ : L2.St} {H : Hp} {s : Shared}
theorem inst_of {a D : Addr} {d : Option Addr} {od : Option Obj} (I : Inv X pins σ H s) (e : H a = some (ExT a (.ref D) d)) (h : match d, od with | none, none => True | some dd, some o => s.heap.get? dd = some o | _, _ => False) : ∃ oe vs, PySem.W.InstAt s.heap a oe D od ∧ oe.data = .fields vs := by
  obtain ⟨oe, vs, he, h1, h2, h3⟩ := exT_get I.hok e
  refine ⟨oe, vs, ⟨he, h1, by unfold PySem.W.notCls; rw [h3] <;> rfl, ?_⟩, h3⟩
  rw [h2]
  cases d with
  | none =>
    cases od with
    | none => trivial
    | some o => exact h
  | some dd =>
    cases od with
    | none => exact h
    | some o => exact h
theorem kit_ofY {x : V} {u t : Value} (I : Inv X pins σ H s) (rx : RelV x u) (ty : TyY X.K H x t) : ∃ P : Heap → Prop, PySem.W.KitX X.K u t P ∧ P s.heap ∧ u ≠ .builtin "__main__.__loader__#opaque" := by
  cases ty with
  | base h => exact kit_of I rx h
  | @exc0 a D e c =>
    cases (show u = Value.ref a from rx)
    obtain ⟨oe, vs, J, _⟩ := inst_of (od := none) I e trivial
    exact ⟨_, PySem.W.kitx_excX c.hg c.hk c.hs c.hd c.ha c.hn c.ht c.hm, J, fun z => nomatch z⟩
  | @exc1 a D dd fs e e2 c =>
    cases (show u = Value.ref a from rx)
    obtain ⟨mA, hns, hr⟩ := (show ObjOk X.prog X.w H s.heap dd (.xd fs) from I.hok dd _ e2)
    obtain ⟨od, ho, _⟩ := lookIn_ns hns
    obtain ⟨oe, vs, J, _⟩ := inst_of (od := some od) I e ho
    exact ⟨_, PySem.W.kitx_excX c.hg c.hk c.hs c.hd c.ha c.hn c.ht c.hm, J, fun z => nomatch z⟩
/-- isinstance(x, c); isinstance(x, (c1, c2, ..)) -/
def rIsiY (K : PySem.W.Frag) : List V → Hp → VK → Prop := fun xs H Q => ∃ (x c : V) (t u : Value) (b : Bool), xs = [x, c] ∧ ClsV c u ∧ TyY K H x t ∧ PySem.W.kitOne K t u = some b ∧ Q (.bl b) H
def rIsiTY (K : PySem.W.Frag) : List V → Hp → VK → Prop := fun xs H Q => ∃ (x : V) (tp : Addr) (cs : List V) (t : Value) (us : List Value) (b : Bool), xs = [x, .ref tp] ∧ H tp = some (.tup cs) ∧ Paired ClsV cs us ∧ TyY K H x t ∧ PySem.W.kitAny K t us = some b ∧ Q (.bl b) H
theorem vals2' {x y : V} {us : List Value} (r : Vals [x, y] us) : ∃ u v, us = [u, v] ∧ RelV x u ∧ RelV y v := Vals.two r
theorem call_isiY : CallR X (.builtin "isinstance") (rIsiY X.K) := by
  intro pins s σ H xs us Q I r h
  obtain ⟨x, c, t, u, b, rfl, k, ty, e, q⟩ := h
  obtain ⟨u1, u2, rfl, r1, r2⟩ := vals2' r
  have e2 := k.eq r2
  subst e2
  obtain ⟨P, Z, p, hx⟩ := kit_ofY I r1 ty
  exact PySem.W.kia_one Z I.kIn p e hx fun tk => ⟨.bl b, H, I.tok tk, rfl, q⟩
theorem call_isiTY : CallR X (.builtin "isinstance") (rIsiTY X.K) := by
  intro pins s σ H xs us Q I r h
  obtain ⟨x, tp, cs, t, ws, b, rfl, hT, k, ty, e, q⟩ := h
  obtain ⟨u1, u2, rfl, r1, r2⟩ := vals2' r
  cases (show u2 = Value.ref tp from r2)
  obtain ⟨P, Z, p, hx⟩ := kit_ofY I r1 ty
  obtain ⟨_, its, rv, o, h1, h2, n, h3⟩ := (show ObjOk X.prog X.w H s.heap tp (.tup cs) from I.hok tp _ hT)
  have e3 := ClsV.all k rv
  subst e3
  obtain ⟨oc, od, dt, sl⟩ := o
  simp only at h2 h3
  subst h2 h3
  exact PySem.W.kia_tup Z I.kIn p h1 e hx fun tk => ⟨.bl b, H, I.tok tk, rfl, q⟩
/-- e.f of a kept exception -/
def tXfT (K : PySem.W.Frag) (f : Str) (te : TE) : TE := fun σ H Q => te σ H fun x H1 => ∃ (a C dd : Addr) (fs : List (Str × V)) (v : V), x = .ref a ∧ XfC K C ∧ PySem.W.findIn K (.ref C) f = some none ∧ H1 a = some (ExT a (.ref C) (some dd)) ∧ H1 dd = some (.xd fs) ∧ fs.lookup f = some v ∧ Q v H1
theorem pe_xfT {e : Expr} {te : TE} {pos : Pos} {n : Str} (he : PE X e te) (hb : attributeBase e n X.env (eval e X.env) = eval e X.env := by rfl) : PE X (.Attribute e n pos) (tXfT X.K n te) := by
  refine ⟨fun pins s σ H Q I h => ?_⟩
  refine attr_of hb (thn (he.run pins s σ H _ I h) fun u s1 hh => ?_)
  obtain ⟨x, H1, I1, rx, a, C, dd, fs, v, ex, T, hno, ea, ed, l, q⟩ := hh
  subst ex
  obtain rfl : u = Value.ref a := rx
  obtain ⟨mA, hns, hr⟩ := (show ObjOk X.prog X.w H1 s1.heap dd (.xd fs) from I1.hok dd _ ed)
  obtain ⟨od, ho, hl⟩ := lookIn_ns hns
  obtain ⟨u, hu, ru⟩ := RelO.some_of (v := v) (o := mA n) (by rw [← l]; exact hr n)
  obtain ⟨oe, vs, J, _⟩ := inst_of (od := some od) I1 ea ho
  exact HandSPX.exc_get I1.kIn J T.ga T.gg T.exC (PySem.W.findObj_own T.hdC hno rfl (by rw [hl, hu])) (handed_of ru) ⟨v, H1, I1.tok _, ru, q⟩
end
end RT

set_option Elab.async false
set_option linter.all false
set_option maxRecDepth 100000
set_option maxHeartbeats 4000000
namespace RT
open PySem PySem.Spec PyProof.Rows L2
section
variable {X : Cx} {e : Expr} {es : List Expr} {ta : TA} {p1 p2 pos : Pos}
/-- Base.__init__(self, ..), Base an own class over ValueError without an __init__ -/
theorem pe_ceinit {pl : Sem Bool} {x : Str} {C0 : Addr} {mc : Value} (hg : Gl X x) (hm : X.mg x = some (.ref C0)) (ga : PySem.W.specialIn X.K (.ref C0) "__getattribute__" = some (some (.builtin "type.__getattribute__")))
    (ty : PySem.W.typeIn X.K (.ref C0) = some mc) (hr : PySem.W.readsIn X.K C0 mc = true) (vV : PySem.W.findCls X.K (.ref C0) mc "__init__" = some (.val (.builtin "ValueError.__init__"))) (ha : PA X (e :: es) ta)
    (hc : eval (.Call (.Attribute (.Name x p1) "__init__" p2) (e :: es) [] pos) X.env = (do
      let ov ← eval (.Name x p1) X.env
      standAt p2.atName
      let (f, first) ← holding [ov] (getMethod ov "__init__" pl)
      callWith pos f first (backTo pos (starEach (e :: es) X.env)) (backToKw pos (keywordEach [] X.env))) := by rfl)
    (he : starEach (e :: es) X.env = (false, eval e X.env) :: starEach es X.env := by rfl) (hpl : (backTo pos (starEach es X.env)).any (·.1) = false := by rfl) (hdb : (x == ("__debug__" : Str)) = false := by decide) :
    PE X (.Call (.Attribute (.Name x p1) "__init__" p2) (e :: es) [] pos) (tVeI X.K ta) := by
  refine ⟨fun pins s σ H Q I h => ?_⟩
  refine PySem.W.methodCall_KW (ld_glob I hg hm ?_ hdb) hc
  obtain ⟨m, fr⟩ := I.fr
  refine PySem.W.method_of_cls fr I.ok.mod.kin ga (PySem.W.cls_val fr I.ok.mod.kin ty hr vV (by decide +kernel) ?_)
  show wpAny _ _ (callWith pos (Value.builtin "ValueError.__init__") [] (backTo pos (starEach (e :: es) X.env)) []) _ _ _
  refine PyProof.Rows.callWith_method1 (thn (ha.run pos pins _ σ H _ (I.tok _) h) fun us s1 ⟨vs, H1, I1, r1, a, C, ws, ev, hl, T, ea, q⟩ => ?_) he hpl
  subst ev
  cases r1 with
  | @cons _ u0 _ ur ra rw' =>
    obtain rfl : u0 = Value.ref a := ra
    have hlen : ur.length ≤ sizeLine := by
      rw [← Paired.length rw', sizeLine_eq]
      omega
    exact oinit_ok T I1 ea hlen fun s' J => ⟨.non, H1, J, rfl, q⟩
end
end RT

set_option Elab.async false
set_option linter.all false
set_option maxRecDepth 100000
set_option maxHeartbeats 4000000
/-! further rules: repr of an int or None, {x} of None, max(.., default=), powers of greater ints, s * n -/
namespace RT
open PySem PySem.Spec PyProof.Rows L2
section
variable {X : Cx}
theorem vals1' {x : V} {us : List Value} (r : Vals [x] us) : ∃ u, us = [u] ∧ RelV x u := Vals.one r
/-- repr(n), repr(None) -/
def rRepr0 : List V → Hp → VK → Prop := fun xs H Q => (∃ i, xs = [.int i] ∧ i.natAbs.log2 < 1920 ∧ Q (.str (toString i)) H) ∨ (xs = [.non] ∧ Q (.str "None") H)
theorem call_repr0 : CallR X (.builtin "repr") rRepr0 := by
  intro pins s σ H xs us Q I r h
  rcases h with ⟨i, rfl, hz, q⟩ | ⟨rfl, q⟩
  · obtain ⟨u, rfl, t, rfl⟩ := vals1' r
    exact PySem.P.repr_of_int hz ⟨.str _, H, I.tok _, ⟨_, rfl⟩, q⟩
  · obtain ⟨u, rfl, e⟩ := vals1' r
    obtain rfl : u = Value.none := e
    exact PySem.P.repr_of_none ⟨.str _, H, I.tok _, ⟨_, rfl⟩, q⟩
/-- {x}: a text, an int, None -/
def tFmt0 (te : TE) : TE := fun σ H Q => te σ H fun x H1 => (∃ y : Str, x = .str y ∧ y.length ≤ sizeLine ∧ Q (.str y) H1) ∨ (∃ i : Int, x = .int i ∧ i.natAbs.log2 < 1920 ∧ Q (.str (toString i)) H1) ∨ (x = .non ∧ Q (.str "None") H1)
theorem pe_fmt0 {e : Expr} {te : TE} {pos : Pos} (he : PE X e te) : PE X (.FormattedValue e (-1) none pos) (tFmt0 te) := by
  refine ⟨fun pins s σ H Q I h => ?_⟩
  refine wpAny_FormattedValue_plain (thn (he.run pins s σ H _ I h) fun v s1 hv => ?_)
  obtain ⟨x, H1, I1, r1, q⟩ := hv
  rcases q with ⟨y, rfl, hz, q⟩ | ⟨i, rfl, hz, q⟩ | ⟨rfl, q⟩
  · obtain ⟨t, rfl⟩ := r1
    exact wpAny_formatField_str ⟨.str y, H1, I1, ⟨t, rfl⟩, q⟩ ⟨.str y, H1, I1.tok _, ⟨_, rfl⟩, q⟩ hz
  · obtain ⟨t, rfl⟩ := r1
    exact wpAny_formatField_int hz ⟨.str (toString i), H1, I1.tok _, ⟨_, rfl⟩, q⟩
  · obtain rfl : v = Value.none := r1
    exact wpAny_formatField_none ⟨.str _, H1, I1.tok _, ⟨_, rfl⟩, q⟩
/-- max(xs, default=d) of ints -/
def maxI (d : Int) : List Int → Int
  | [] => d
  | n :: ns => ns.foldl max n
def rMaxD (K : PySem.W.Frag) : List V → List V → Hp → VK → Prop := fun xs zs H Q => ∃ (a : Addr) (ns : List Int) (d : Int), xs = [.ref a] ∧ zs = [.int d] ∧ SqL K H a (ns.map V.int) ∧ Q (.int (maxI d ns)) H
theorem alike_ints (ns : List Int) : PySem.W.AlikeAll (ns.map PyData.int) := by
  refine ⟨fun x hx y hy => ?_, fun x hx => ?_⟩
  · obtain ⟨i, _, rfl⟩ := List.mem_map.mp hx
    obtain ⟨j, _, rfl⟩ := List.mem_map.mp hy
    rfl
  · obtain ⟨i, _, rfl⟩ := List.mem_map.mp hx
    exact fun z => nomatch z
theorem depth_ints : ∀ ns : List Int, PyData.depthAll (ns.map PyData.int) ≤ 1
  | [] => by simp [PyData.depthAll]
  | n :: ns => by
    have h := depth_ints ns
    simp only [List.map_cons, PyData.depthAll, PyData.depth]
    omega
theorem crk_maxD (hc : X.calm = true) (hu : X.A.units + 64 < cLine) : CallRK X (.builtin "max") ["default"] (rMaxD X.K) := by
  intro pins s σ H xs zs us ws Q I rx rz h
  obtain ⟨a, ns, d, rfl, rfl, hs, q⟩ := h
  obtain ⟨u, rfl, e⟩ := vals1' rx
  obtain rfl : u = Value.ref a := e
  obtain ⟨z, rfl, t, rfl⟩ := vals1' rz
  obtain ⟨its, rv, hl0, _⟩ := I.list hs
  have hl := hl0.isList
  have hr := PySem.W.readsAll_of_ints (h := s.heap) rv.ints
  have hd := depth_ints ns
  refine PySem.W.max_list_default (I.ok.hd hc) hl (by simpa using hr) (alike_ints ns) (by omega) (fun e0 h' tk k => ?_) fun y ys i v h' tk bs e hv hR k => ?_
  · have en : ns = [] := List.map_eq_nil_iff.mp e0
    subst en
    exact ⟨.int d, H, I.kept k, ⟨_, rfl⟩, q⟩
  · cases ns with
    | nil => cases e
    | cons n ns =>
      obtain ⟨rfl, rfl⟩ := List.cons.inj e
      rw [PySem.W.maxD_ints] at hR
      cases hR
      exact ⟨.int _, H, I.kept k, ⟨_, rfl⟩, q⟩
/-- a ** b of greater ints -/
def CPowW (i j : Int) : Prop := 0 ≤ j ∧ (Builtin.Int.intBits i : Int) * j ≤ 2 ^ 27
theorem op_powW : OpR X (binaryOp .Pow) (rI CPowW fun i j => .int (i ^ j.toNat)) := opI fun _ _ _ _ _ _ _ hc q => PyProof.Rows.pow_int hc.1 hc.2 q
/-- s * n -/
def rMulS : R2 := fun x y H Q => ∃ z n, x = .str z ∧ y = .int n ∧ PySem.MulOk z n ∧ Q (.str (PySem.Txt.mul z n)) H
theorem op_mulS : OpR X (binaryOp .Mult) rMulS := by
  intro pins s σ H x y v u Q I rx ry h
  obtain ⟨z, n, rfl, rfl, ok, q⟩ := h
  obtain ⟨t, rfl⟩ := rx
  obtain ⟨t', rfl⟩ := ry
  exact SB.mul ok fun t2 k => ⟨.str _, H, I.tok k, ⟨_, rfl⟩, q⟩
end
end RT

set_option Elab.async false
set_option linter.all false
set_option maxRecDepth 100000
set_option maxHeartbeats 4000000
/-! operators, len, in, == by an own class's methods -/
namespace PySem.W
open Lean Elab Tactic Meta PySem PySem.Calls PyProof.Rows
section
variable {prog : Program} {w : World} {A : Around} {E : Value → Shared → Prop} {s : Shared} {K : Frag} {x C L f : Addr} {h₀ : Heap} {m : Str → Option Value} {ox : Obj} {od : Option Obj} {T : String}
theorem rt_binT {op : Operator} {b : Value} {fo ro rc : Option Value} {Q : Value → Shared → Prop} (F : Fr h₀ L s.heap m) (X₀ : K.In h₀) (I : InstAt s.heap x ox C od) (bT : Looks (model prog w) s.heap (typeOf b) (.type T)) (cF : selfFirst K C = true)
    (sF : findIn K (.ref C) (PySem.dunder op.info.2) = some (some (.ref f))) (fF : isFn K (.ref f) = true) (rF : findIn K (.ref C) (dunderR op.info.2) = some rc) (pF : rc = none ∨ ∃ g : Addr, rc = some (.ref g))
    (h1 : findIn K (.type T) (PySem.dunder op.info.2) = some fo) (h2 : findIn K (.type T) (dunderR op.info.2) = some ro) (uF : subIn K (.type T) (.ref C) = some false)
    (h : wpAny (model prog w) A (call (.ref f) [.ref x, b]) (CmpBack Q) E s) : wpAny (model prog w) A (binaryOp op (.ref x) b) Q E s := by
  have X := X₀.keeps F.keep
  obtain ⟨cdx, more, cdE, mroE⟩ := ksp_first cF
  rcases inf : op.info with ⟨sym, nm1⟩
  rw [inf] at sF rF h1 h2
  dsimp only at sF rF h1 h2
  have tried := ksp_try X I sF fF h
  obtain ⟨hp0, g, d, tk0, os⟩ := s
  have k1 : Looks (model prog w) hp0 (typeOf (.ref x)) (.ref C) := I.type
  have k2 : Looks (model prog w) hp0 (typeOf b) (.type T) := bT
  have k3 : Looks (model prog w) hp0 (fillsNumberSlot (.ref C) nm1) true := fills_K X cdE mroE sF
  have k4 : Looks (model prog w) hp0 (fillsNumberSlot (.type T) nm1) ((fo.isSome && !isSeqSlot fo) || (ro.isSome && !isSeqSlot ro)) := ksp_fillsT X h1 h2
  have k5 : Looks (model prog w) hp0 (isSubtype (.type T) (.ref C)) false := looks_subIn X uF
  have k6 : Looks (model prog w) hp0 (numberSlotInPython (.ref C) nm1) true := ksp_inPy X sF rF pF
  have k7 : Looks (model prog w) hp0 (numberSlotInPython (.type T) nm1) false := Looks.of_pure rfl
  have k8 : Looks (model prog w) hp0 (typeLookup (.type T) (dunderR nm1)) ro := looks_findIn X h2
  generalize ((fo.isSome && !isSeqSlot fo) || (ro.isSome && !isSeqSlot ro)) = side at k4
  have apart : (Value.ref C == Value.type T) = false := Bool.eq_false_iff.mpr fun q => by cases beq_iff_eq.mp q
  simp only [binaryOp, inf]
  refine wpAny_holding (wpAny_bind ?_)
  unfold binaryOp1
  refine wpAny_bind (k1.at (wpAny_bind (k2.at (wpAny_bind (k3.at ?_)))))
  simp only [apart, Bool.false_eq_true, if_false]
  cases side with
  | false =>
    ksp_lk
    refine wpAny_mono tried (fun r s' hrr => ?_) fun _ _ e => e
    obtain ⟨v, rfl, hqq⟩ := hrr
    ksp_lk
    exact hqq
  | true =>
    ksp_lk
    refine wpAny_mono tried (fun r s' hrr => ?_) fun _ _ e => e
    obtain ⟨v, rfl, hqq⟩ := hrr
    ksp_lk
    exact hqq
end
end PySem.W
namespace RT
open PySem PySem.Spec PyProof.Rows L2
section
variable {X : Cx} {CX : CXT} {k : Nat} {C f : Addr} {fd : FuncData} {ps : List Str} {sp : Sp} {E : XK}
/-- what is asked of an own operator's class beside its method, for a right operand of a built-in type -/
structure RightT (K : PySem.W.Frag) (C : Addr) (op : Operator) (T : String) : Prop where
  r0 : PySem.W.findIn K (.ref C) (dunderR op.info.2) = some none
  t1 : ∃ fo, PySem.W.findIn K (.type T) (PySem.dunder op.info.2) = some fo
  t2 : ∃ ro, PySem.W.findIn K (.type T) (dunderR op.info.2) = some ro
  sb : PySem.W.subIn K (.type T) (.ref C) = some false
/-- x op y, x an instance of the class at C, y one too, or of a built-in type -/
def rBinO (K : PySem.W.Frag) (C : Addr) (op : Operator) (sp : Sp) (E : XK) : R2 := fun x y H Q => ∃ a dx fs, x = .ref a ∧ H a = some (.ins C dx fs) ∧ ((∃ b dy gs, y = .ref b ∧ H b = some (.ins C dy gs)) ∨ ∃ T, TyY K H y (.type T) ∧ RightT K C op T) ∧ sp [x, y] H Q E
theorem op_binO {op : Operator} (hc : PySem.W.selfFirst X.K C = true) (hm : Meth X.K C (PySem.dunder op.info.2) f) (F : FnOk X.prog X.w X.K X.mg X.base CX k f fd ps sp) (hr : Room k X.A) (hb : Binds X.K fd ps []) (hx : Passes CX X E) : OpR X (binaryOp op) (rBinO X.K C op sp E) := by
  intro pins s σ H x y v u Q I rx ry h
  obtain ⟨a, dx, fs, rfl, ea, ty, q⟩ := h
  cases (show v = Value.ref a from rx)
  obtain ⟨mA, O, _⟩ := ins_get I.hok ea
  obtain ⟨od, J, _⟩ := O.look
  obtain ⟨m, hF⟩ := I.fr
  have go : wpAny (model X.prog X.w) X.A (call (.ref f) [.ref a, u]) (PySem.W.CmpBack (EP X pins σ Q)) X.xe s := by
    refine wpAny_mono (run_fn (ds := []) (dvs := []) F hr hb .nil hx I (vs := [.ref a, y]) (.cons rfl (.cons ry .nil)) q) (fun w s' z => ?_) fun _ _ x => x
    obtain ⟨z', H', I', rz, qz⟩ := z
    exact SlX.cmpback rz ⟨z', H', I', rz, qz⟩
  rcases ty with ⟨b, dy, gs, rfl, eb⟩ | ⟨T, ty, R⟩
  · cases (show u = Value.ref b from ry)
    obtain ⟨mB, O', _⟩ := ins_get I.hok eb
    obtain ⟨od', J', _⟩ := O'.look
    exact PySem.W.binop_K hF I.ok.mod.kin J J'.type hc hm.at_ hm.fn go
  · obtain ⟨P, Z, p, _⟩ := kit_ofY I ry ty
    obtain ⟨fo, t1⟩ := R.t1
    obtain ⟨ro, t2⟩ := R.t2
    exact PySem.W.rt_binT hF I.ok.mod.kin J (Z.ty _ _ I.kIn p) hc hm.at_ hm.fn R.r0 (.inl rfl) t1 t2 R.sb go
/-- -x, ~x -/
def rUnO (C : Addr) (sp : Sp) (E : XK) : V → Hp → VK → Prop := fun x H Q => ∃ a dx fs, x = .ref a ∧ H a = some (.ins C dx fs) ∧ sp [x] H Q E
theorem un_negO (hm : Meth X.K C "__neg__" f) (F : FnOk X.prog X.w X.K X.mg X.base CX k f fd ps sp) (hr : Room k X.A) (hb : Binds X.K fd ps []) (hx : Passes CX X E) : UnR X (unaryOp .USub) (rUnO C sp E) := by
  intro pins s σ H x v Q I rx h
  obtain ⟨a, dx, fs, rfl, ea, q⟩ := h
  cases (show v = Value.ref a from rx)
  obtain ⟨mA, O, _⟩ := ins_get I.hok ea
  obtain ⟨od, J, _⟩ := O.look
  obtain ⟨m, hF⟩ := I.fr
  exact PySem.W.ksp_neg hF I.ok.mod.kin J hm.at_ hm.fn (run_fn (ds := []) (dvs := []) F hr hb .nil hx I (vs := [.ref a]) (.cons rfl .nil) q)
theorem un_invO (hm : Meth X.K C "__invert__" f) (F : FnOk X.prog X.w X.K X.mg X.base CX k f fd ps sp) (hr : Room k X.A) (hb : Binds X.K fd ps []) (hx : Passes CX X E) : UnR X (unaryOp .Invert) (rUnO C sp E) := by
  intro pins s σ H x v Q I rx h
  obtain ⟨a, dx, fs, rfl, ea, q⟩ := h
  cases (show v = Value.ref a from rx)
  obtain ⟨mA, O, _⟩ := ins_get I.hok ea
  obtain ⟨od, J, _⟩ := O.look
  obtain ⟨m, hF⟩ := I.fr
  exact PySem.W.ksp_inv hF I.ok.mod.kin J hm.at_ hm.fn (run_fn (ds := []) (dvs := []) F hr hb .nil hx I (vs := [.ref a]) (.cons rfl .nil) q)
/-- x == y by x's own __eq__, y of any kind that does not go first -/
def rEqO (K : PySem.W.Frag) (C : Addr) (sp : Sp) (E : XK) : R2 := fun x y H Q => ∃ a dx fs t, x = .ref a ∧ H a = some (.ins C dx fs) ∧ ((∃ b dy gs, y = .ref b ∧ H b = some (.ins C dy gs) ∧ t = .ref C) ∨ TyY K H y t) ∧ PySem.W.notFirst K C t = true ∧ sp [x, y] H Q E
theorem op_eqO {op : CmpOp} (hop : ∀ a b, compareOp op a b = richCompare op a b) (hm : Meth X.K C (cmpInfo op).2.1 f) (F : FnOk X.prog X.w X.K X.mg X.base CX k f fd ps sp) (hr : Room k X.A) (hb : Binds X.K fd ps []) (hx : Passes CX X E) :
    OpR X (compareOp op) (rEqO X.K C sp E) := by
  intro pins s σ H x y v u Q I rx ry h
  obtain ⟨a, dx, fs, t, rfl, ea, ty, hn, q⟩ := h
  cases (show v = Value.ref a from rx)
  obtain ⟨mA, O, _⟩ := ins_get I.hok ea
  obtain ⟨od, J, _⟩ := O.look
  obtain ⟨m, hF⟩ := I.fr
  have L : PySem.W.Looks (model X.prog X.w) s.heap (typeOf u) t := by
    rcases ty with ⟨b, dy, gs, rfl, eb, rfl⟩ | ty
    · cases (show u = Value.ref b from ry)
      obtain ⟨mB, O', _⟩ := ins_get I.hok eb
      obtain ⟨od', J', _⟩ := O'.look
      exact J'.type
    · obtain ⟨P, Z, p, _⟩ := kit_ofY I ry ty
      exact Z.ty _ _ I.kIn p
  rw [hop]
  refine PySem.W.cmp_K (op := op) (tb := t) hr.units0 hF I.ok.mod.kin J L hn hm.at_ hm.fn ?_
  refine wpAny_mono (run_fn (ds := []) (dvs := []) F hr hb .nil hx I (vs := [.ref a, y]) (.cons rfl (.cons ry .nil)) q) (fun w s' z => ?_) fun _ _ x => x
  obtain ⟨z', H', I', rz, qz⟩ := z
  exact SlX.cmpback rz ⟨z', H', I', rz, qz⟩
/-- y in x by x's own __contains__, which hands back a bool -/
def rInO (C : Addr) (sp : Sp) (E : XK) (neg : Bool) : R2 := fun y x H Q => ∃ a dx fs, x = .ref a ∧ H a = some (.ins C dx fs) ∧ sp [x, y] H (fun v H' => ∃ b, v = .bl b ∧ Q (.bl (if neg then !b else b)) H') E
theorem op_inO (hm : Meth X.K C "__contains__" f) (F : FnOk X.prog X.w X.K X.mg X.base CX k f fd ps sp) (hr : Room k X.A) (hb : Binds X.K fd ps []) (hx : Passes CX X E) : OpR X (compareOp .In) (rInO C sp E false) := by
  intro pins s σ H y x u v Q I ry rx h
  obtain ⟨a, dx, fs, rfl, ea, q⟩ := h
  cases (show v = Value.ref a from rx)
  obtain ⟨mA, O, _⟩ := ins_get I.hok ea
  obtain ⟨od, J, _⟩ := O.look
  obtain ⟨m, hF⟩ := I.fr
  refine PySem.W.in_K hF I.ok.mod.kin J hm.at_ hm.fn (wpAny_mono (run_fn (ds := []) (dvs := []) F hr hb .nil hx I (vs := [.ref a, y]) (.cons rfl (.cons ry .nil)) q) (fun w s' z => ?_) fun _ _ x => x)
  obtain ⟨z', H', I', rz, b, rfl, qz⟩ := z
  cases (show w = Value.bool b from rz)
  exact wpAny_truthy_bool ⟨.bl b, H', I', rfl, qz⟩
theorem op_notInO (hm : Meth X.K C "__contains__" f) (F : FnOk X.prog X.w X.K X.mg X.base CX k f fd ps sp) (hr : Room k X.A) (hb : Binds X.K fd ps []) (hx : Passes CX X E) : OpR X (compareOp .NotIn) (rInO C sp E true) := by
  intro pins s σ H y x u v Q I ry rx h
  obtain ⟨a, dx, fs, rfl, ea, q⟩ := h
  cases (show v = Value.ref a from rx)
  obtain ⟨mA, O, _⟩ := ins_get I.hok ea
  obtain ⟨od, J, _⟩ := O.look
  obtain ⟨m, hF⟩ := I.fr
  refine PySem.W.notIn_K hF I.ok.mod.kin J hm.at_ hm.fn (wpAny_mono (run_fn (ds := []) (dvs := []) F hr hb .nil hx I (vs := [.ref a, y]) (.cons rfl (.cons ry .nil)) q) (fun w s' z => ?_) fun _ _ x => x)
  obtain ⟨z', H', I', rz, b, rfl, qz⟩ := z
  cases (show w = Value.bool b from rz)
  exact wpAny_truthy_bool ⟨.bl (!b), H', I', rfl, qz⟩
/-- len(x) by x's own __len__ -/
def rLenO (C : Addr) (sp : Sp) (E : XK) : List V → Hp → VK → Prop := fun xs H Q => ∃ a dx fs, xs = [.ref a] ∧ H a = some (.ins C dx fs) ∧ sp [.ref a] H (fun v H' => ∃ n, v = .int n ∧ 0 ≤ n ∧ n < 2 ^ 63 ∧ Q (.int n) H') E
theorem call_lenO (hm : Meth X.K C "__len__" f) (F : FnOk X.prog X.w X.K X.mg X.base CX k f fd ps sp) (hr : Room (k + 1) X.A) (hb : Binds X.K fd ps []) (hx : Passes CX X E) : CallR X (.builtin "len") (rLenO C sp E) := by
  intro pins s σ H xs us Q I r h
  obtain ⟨a, dx, fs, rfl, ea, q⟩ := h
  obtain ⟨u, rfl, ru⟩ := vals1' r
  cases (show u = Value.ref a from ru)
  obtain ⟨mA, O, _⟩ := ins_get I.hok ea
  obtain ⟨od, J, _⟩ := O.look
  obtain ⟨m, hF⟩ := I.fr
  have r2 : Vals [V.ref a] [Value.ref a] := .cons rfl .nil
  have hl : ([Value.ref a] : List Value).length = ps.length := by
    rw [← r2.length]
    exact F.len _ _ _ _ q
  refine PySem.W.len_K hF I.ok.mod.kin J hm.at_ hm.fn (wpAny_call (codeAny_mono (F.run X.A.in1 X.stack s H ⟨[.ref a], []⟩ [.ref a] [.ref a] _ E hr.in1 I.env0.in1 (by simpa using hb s [.ref a] I.kIn (by simpa using hl)) r2 q) fun r s' hq => ?_))
  cases r with
  | error er => exact hx pins σ H s er s' I hq
  | ok fl =>
    cases fl with
    | ret u =>
      obtain ⟨v, H', I', rv, n, rfl, n0, n1, qz⟩ := I.after hq
      obtain ⟨t, rfl⟩ := (show ∃ t, u = Value.int n t from rv)
      exact ⟨⟨n0, n1⟩, .int n, H', I'.tok _, ⟨_, rfl⟩, qz⟩
    | next => exact False.elim hq
    | brk => exact False.elim hq
    | cont => exact False.elim hq
end
end RT

set_option Elab.async false
set_option linter.all false
set_option maxRecDepth 100000
set_option maxHeartbeats 4000000
/-! defs that are called where nothing is being shown: repr of lists and tuples -/
namespace RT
open PySem PySem.Spec PyProof.Rows L2
/-- as FnOk, where no repr runs around -/
structure FnG (P : Program) (w : World) (K : PySem.W.Frag) (mg : Str → Option Value) (base : Heap) (CX : CXT) (k : Nat) (f : Addr) (fd : FuncData) (ps : List Str) (sp : Sp) : Prop where
  len : ∀ vs H Q E, sp vs H Q E → vs.length = ps.length
  go : ∀ (A : Around) (outer : List Env) (s : Shared) (H : Hp) (args : Args) (us : List Value) (vs : List V) (Q : VK) (E : XK), A.guards = some [] → Room k A → Env0 P w K mg base A outer s H → BindsTo s fd args (ps.zip us) → Vals vs us → sp vs H Q E →
    codeAny (model P w) A (.call (.ref f) args) (CR CX outer P w H s Q E) s
theorem FnG.of {P : Program} {w : World} {K : PySem.W.Frag} {mg : Str → Option Value} {base : Heap} {CX : CXT} {k : Nat} {f : Addr} {fd : FuncData} {ps : List Str} {sp : Sp} (F : FnOk P w K mg base CX k f fd ps sp) : FnG P w K mg base CX k f fd ps sp :=
  ⟨F.len, fun A outer s H args us vs Q E _ => F.run A outer s H args us vs Q E⟩
theorem fnG_of {CX : CXT} {P : Program} {w : World} {K : PySem.W.Frag} {mg : Str → Option Value} {base : Heap} {k : Nat} {f : Addr} {name qual : Str} {params : Arguments} {body : List Stmt} {scope : Scope} {dV kV doc pm cdv ct oc : Value} {an od : Option Addr}
    {osl : Array (Option Value)} {N ps : List Str} {sp : Sp} (at_ : K.lookup f = some ⟨oc, od, .func (PySem.W.fnOf name qual params body scope dV kV doc pm an cdv ct), osl⟩) (code : PySem.W.codeIn K cdv qual = true) (S : FnScope N ps scope)
    (len : ∀ vs H Q E, sp vs H Q E → vs.length = ps.length)
    (walk : ∀ (A : Around) (outer : List Env) (s : Shared) (H : Hp) (vs : List V) (Q : VK) (E : XK), A.guards = some [] → Room k (A.deeper (envOfC qual scope s.heap.objs.size f cdv)) → sp vs H Q E →
      ∃ t, PSs (cxOf CX P w K mg base N qual scope f cdv A outer s H E) body t ∧ t { nx := fun _ H' => Q .non H', rt := Q } (start N vs) H) :
    FnG P w K mg base CX (k + 1) f (PySem.W.fnOf name qual params body scope dV kV doc pm an cdv ct) ps sp where
  len := len
  go := fun A outer s H args us vs Q E hg room env binds vals said => by
    have size := len _ _ _ _ said
    have here : K.In s.heap := env.mod.kin.keeps fun b o e => (env.bs b o e).1
    have free : s.heap.NoLimit := env.mod.nolimit.keeps fun b o e => (env.bs b o e).1
    have kinds : ∀ y ∈ ps.zip us, scope.names.lookup y.1 = some .local ∨ (scope.names.lookup y.1 = some .cell ∧ ((cellsFrom (s.heap.objs.size + 1) scope.names []).lookup y.1).isSome = true) := by
      rintro ⟨n, v⟩ hy
      exact (S.par n (List.of_mem_zip hy).1).imp id fun q => ⟨q, PySem.W.cellsFrom_some _ _ _ (.inl q)⟩
    refine codeAny_call_function room.depth (here _ _ at_) rfl S.co S.gen rfl (PySem.W.codeRec_of here code) (binds _ _ _ _ ?_)
    refine wpAny_newFunctionEnv_cells S.kind kinds fun e1 he s1 x => ?_
    subst he
    obtain ⟨t, ht, hq⟩ := walk A outer s H vs Q E hg (room.deeper _) said
    refine ⟨free.keeps x.toInCall.keep, codeAny_func ?_⟩
    refine wpAny_mono (ht.run [] s1 (start N vs) H _ (inv_start S room.hd env size vals x) hq) (fun fl s' done => ?_) fun _ _ z => z
    match fl, done with
    | .ret u, ⟨v, _, H', J, rv, q⟩ => exact ⟨v, H', J.os, J.bare, J.base, J.hok, rv, q⟩
    | .next, ⟨_, H', J, q⟩ => exact ⟨V.non, H', J.os, J.bare, J.base, J.hok, rfl, q⟩
    | .brk, ⟨_, _, _, q⟩ => exact q.elim
    | .cont, ⟨_, _, _, q⟩ => exact q.elim
section
variable {P : Program} {w : World} {K : PySem.W.Frag} {mg : Str → Option Value} {base : Heap} {CX : CXT}
/-- a def of the text keeps its promise where nothing is being shown -/
theorem okG {x qual : Str} {pa : Arguments} {bd : List Stmt} {sc : Scope} {dvs : List V} {kws : List (Str × V)} {f : Addr} {fd : FuncData} {N ps : List Str} {k : Nat} {sp : Sp} (F : FunD K x qual pa bd sc dvs kws f fd) (S : FnScope N ps sc) (len : ∀ vs H Q E, sp vs H Q E → vs.length = ps.length)
    (walk : ∀ (cdv : Value) (A : Around) (outer : List Env) (s : Shared) (H : Hp) (vs : List V) (Q : VK) (E : XK), A.guards = some [] → Room k (A.deeper (envOfC qual sc s.heap.objs.size f cdv)) → sp vs H Q E →
      ∃ t, PSs (cxOf CX P w K mg base N qual sc f cdv A outer s H E) bd t ∧ t { nx := fun _ H' => Q .non H', rt := Q } (start N vs) H) : FnG P w K mg base CX (k + 1) f fd ps sp := by
  obtain ⟨oc, od, dV, kV, doc, pm, an, cdv, ct, osl, rfl, lk, hcd, _, _⟩ := F.ex
  exact fnG_of lk hcd S len fun A outer s H vs Q E hg hr h => walk cdv A outer s H vs Q E hg hr h
end
section
variable {X : Cx} {CX : CXT} {k : Nat} {f : Addr} {fd : FuncData} {ps : List Str} {sp : Sp} {dvs : List V} {ds : List Value} {E : XK} {e : Expr} {es : List Expr} {t : TA} {x : Str} {p pos : Pos}
theorem pe_callG (F : FnG X.prog X.w X.K X.mg X.base CX k f fd ps sp) (hG : X.A.guards = some []) (hr : Room k X.A) (hg : Gl X x) (hm : X.mg x = some (.ref f)) (hk : PySem.W.keepIn X.K (.ref f) = true) (hb : Binds X.K fd ps ds) (hd : Vals dvs ds) (hx : Passes CX X E)
    (ha : PA X (e :: es) t) (hdb : (x == ("__debug__" : Str)) = false := by decide) (he : starEach (e :: es) X.env = (false, eval e X.env) :: starEach es X.env := by rfl) (hpl : (backTo pos (starEach es X.env)).any (·.1) = false := by rfl) :
    PE X (.Call (.Name x p) (e :: es) [] pos) (tCall sp dvs E t) := by
  refine ⟨fun pins s σ H Q I h => wpAny_Call_Name_kw (ld_glob I hg hm ?_ hdb)⟩
  refine PySem.W.callWith_K (h₀ := X.base) I.ok.mod.kin hk (thn (ha.run pos pins s σ H _ I h) fun us s1 ⟨vs, H1, I1, r, q⟩ => ⟨I1.kIn, ?_⟩) he hpl
  have r2 := r.append hd
  have hl : (us ++ ds).length = ps.length := r2.length.symm.trans (F.len _ _ _ _ q)
  refine wpAny_call (codeAny_mono (F.go X.A X.stack s1 H1 ⟨us, []⟩ (us ++ ds) (vs ++ dvs) Q E hG hr I1.env0 (hb s1 us I1.kIn hl) r2 q) fun r s' hq => ?_)
  match r, hq with
  | .error e, hq => exact hx pins σ H1 s1 e s' I1 hq
  | .ok (.ret u), hq => exact I1.after hq
/-- repr of data at any depth -/
def rReprD (K : PySem.W.Frag) : List V → Hp → VK → Prop := fun xs H Q => ∃ (a : Addr) (d : PyData), xs = [.ref a] ∧ Dp K H (.ref a) d ∧ d.showable = true ∧ d.hasDict = false ∧ d.depth ≤ 40 ∧ d.shown.length ≤ sizeLine ∧ Q (.str d.shown) H
theorem call_reprD (hG : X.A.guards = some []) (hu : X.A.units + 64 < cLine) : CallR X (.builtin "repr") (rReprD X.K) := by
  intro pins s σ H xs us Q I r h
  obtain ⟨a, d, rfl, D, hs, hd, hz, hl, q⟩ := h
  obtain ⟨u, rfl, ru⟩ := vals1' r
  obtain ⟨as, rd⟩ := Dp.reads I d _ _ D ru
  cases (show u = Value.ref a from ru)
  exact repr_of_reads' rd hs (PyData.noDict_hsm hd) hG (by omega) (fun _ _ e => e) (fun h' u tk k => ⟨.str d.shown, H, I.kept k, ⟨u, rfl⟩, q⟩) hl
end
/-! ### the law's own call -/
/-- the abstract heap at the law's entry: the script's list, locked -/
def scriptH (a : Addr) (vs : List Value) (ns : List Int) : Hp := fun b => if b = a then some (.frz { cls := .type "list", data := .seq vs.toArray } (.lst (ns.map V.int))) else none
section
variable {P : Program} {w : World} {K : PySem.W.Frag} {mg mb : Str → Option Value} {CX : CXT} {k : Nat} {fa a : Addr} {fd : FuncData} {x : Str} {sp : Sp} {s : Shared} {vs : List Value} {ns : List Int}
theorem enterG (H : Hp) (alone : ∀ b u, H b = some u → b = a ∧ ∃ o xs, u = .frz o (.lst xs)) (free : ∀ b, H b ≠ none → K.lookup b = none) (hok : HOk P w H s.heap)
    (KX : K.In s.heap) (gl : s.heap.Ns mainGlobals mg) (bl : s.heap.Ns builtinsNs mb) (bb : ∀ x : Str, x ≠ "__name__" → mb x = bootBuiltins x) (lim : s.heap.NoLimit) (gn : s.gens = #[]) (room : Room k callerA)
    (F : ∀ base : Heap, K.In base → base.Ns mainGlobals mg → FnG P w K mg base CX k fa fd [x] sp) (binds : ∀ (s : Shared) (u : Value), BindsTo s fd ⟨[u], []⟩ [(x, u)]) (said : sp [.ref a] H (fun v _ => v = .bl true) fun _ _ _ => False)
    (noX : ∀ e s', CX [] H s (fun _ _ _ => False) e s' → False) :
    codeAny (model P w) callerA (.call (.ref fa) ⟨[.ref a], []⟩) (fun r s' => r = .ok (.ret (.bool true)) ∧ OldK s.heap s'.heap ∧ s'.os = s.os ∧ AllBare s'.gens) s := by
  have noDict : ∀ {b : Addr} {o : Obj} {es : Array DictEntry} {n : Nat}, s.heap.get? b = some o → o.data = .dict es n → H b = none := fun {b o es n} e d => by
    cases q : H b with
    | none => rfl
    | some u =>
      obtain ⟨_, ob, xs, rfl⟩ := alone b u q
      obtain ⟨e1, _, its, m, _, e2⟩ := (show ObjOk P w H s.heap b (.frz ob (.lst xs)) from hok b _ q)
      rw [e] at e2
      cases e2
      cases d
  have ns_ : ∀ {b : Addr} {m : Str → Option Value}, s.heap.Ns b m → (hidT s.heap H).Ns b m := fun {b m} ⟨o, es, n, e, d, r⟩ => ⟨o, es, n, hidT_get e (noDict e d), d, r⟩
  have kb : K.In (hidT s.heap H) := fun b o e => hidT_get (KX b o e) (by
    cases q : H b with
    | none => rfl
    | some u =>
      have z := free b (by rw [q]; exact fun z => nomatch z)
      rw [e] at z
      cases z)
  have md : Mod K mg (hidT s.heap H) := ⟨kb, ns_ gl, ⟨mb, ns_ bl, bb⟩, by
    obtain ⟨mc, h1, h2⟩ := lim
    exact ⟨mc, ns_ h1, h2⟩⟩
  have env : Env0 P w K mg (hidT s.heap H) callerA [] s H := ⟨rfl, md, fun b o e => of_hidT e, Nat.le_of_eq (hidT_size _ _), trivial, (fun b hb => absurd (show b ∈ ([] : List Addr) from hb) (by simp)), hok, .of_eq gn⟩
  refine codeAny_mono ((F _ kb (ns_ gl)).go callerA [] s H ⟨[.ref a], []⟩ [.ref a] [.ref a] _ _ rfl room env (binds s (.ref a)) (.cons rfl .nil) said) fun r s' h => ?_
  match r, h with
  | .error e, h => exact (noX e s' h).elim
  | .ok (.ret u), ⟨v, H', os, bare, un, hok', rv, q⟩ =>
    have ev : v = .bl true := q
    subst ev
    obtain rfl : u = Value.bool true := rv
    refine ⟨rfl, OldK.of_keep fun b o e => ?_, os, bare⟩
    cases q : H b with
    | none => exact un.keep b o e q (fun z => nomatch z) (fun z => nomatch z)
    | some u =>
      obtain ⟨_, ob, xs, rfl⟩ := alone b u q
      obtain ⟨e1, _⟩ := hok b _ q
      obtain ⟨e2, _⟩ := hok' b _ (un.frzs b ob _ q)
      rw [e] at e1
      cases e1
      exact e2
theorem law_callG (KX : K.In s.heap) (gl : s.heap.Ns mainGlobals mg) (bl : s.heap.Ns builtinsNs mb) (bb : ∀ x : Str, x ≠ "__name__" → mb x = bootBuiltins x) (lim : s.heap.NoLimit) (gn : s.gens = #[])
    (obj : s.heap.get? a = some { cls := .type "list", data := .seq vs.toArray }) (hi : IntsAre vs ns) (hl : ns.length ≤ sizeLine) (room : Room k callerA)
    (F : ∀ base : Heap, K.In base → base.Ns mainGlobals mg → FnG P w K mg base CX k fa fd [x] sp) (binds : ∀ (s : Shared) (u : Value), BindsTo s fd ⟨[u], []⟩ [(x, u)])
    (said : ∀ H : Hp, SqL K H a (ns.map V.int) → sp [.ref a] H (fun v _ => v = .bl true) fun _ _ _ => False) (noX : ∀ H e s', CX [] H s (fun _ _ _ => False) e s' → False) :
    codeAny (model P w) callerA (.call (.ref fa) ⟨[.ref a], []⟩) (fun r s' => r = .ok (.ret (.bool true)) ∧ OldK s.heap s'.heap ∧ s'.os = s.os ∧ AllBare s'.gens) s := by
  have rv := vals_ints hi
  cases hk : K.lookup a with
  | some o =>
    have e := KX a o hk
    rw [obj] at e
    cases e
    exact enterG (fun _ => none) (fun b u z => nomatch z) (fun b z => (z rfl).elim) (fun b u z => nomatch z) KX gl bl bb lim gn room F binds
      (said _ (.inr ⟨_, vs.toArray, _, hk, rfl, rfl, rfl, by rw [List.size_toArray, hi.length]; exact hl, by simpa using rv⟩)) (noX _)
  | none =>
    have at_ : ∀ b u, scriptH a vs ns b = some u → b = a ∧ u = .frz { cls := .type "list", data := .seq vs.toArray } (.lst (ns.map V.int)) := fun b u z => by
      unfold scriptH at z
      by_cases hb : b = a
      · rw [if_pos hb] at z
        exact ⟨hb, (Option.some.inj z).symm⟩
      · rw [if_neg hb] at z
        cases z
    refine enterG (scriptH a vs ns) (fun b u z => ?_) (fun b z => ?_) (fun b u z => ?_) KX gl bl bb lim gn room F binds (said _ (.inl (.inr ⟨{ cls := .type "list", data := .seq vs.toArray }, by unfold scriptH; rw [if_pos rfl]⟩))) (noX _)
    · obtain ⟨e, rfl⟩ := at_ b u z
      exact ⟨e, _, _, rfl⟩
    · cases q : scriptH a vs ns b with
      | none => exact (z q).elim
      | some u =>
        rw [(at_ b u q).1]
        exact hk
    · obtain ⟨rfl, rfl⟩ := at_ b u z
      exact ⟨obj, by rw [List.length_map]; exact hl, vs, _, rv, obj⟩
end
/-- the end of a law's proof: the head's facts give the law's def, the def keeps its promise -/
theorem walk_ofG {l : PySem.W.OpenLaw} {n k : Nat} {q : Program} {loose : List Str} {XP : (Str → Option Value) → Heap → Prop} {YP : World → Heap → Prop} {d : DefRec} {CX : World → CXT} {x : Str}
    (hn : l.most = some n) (hn2 : n ≤ sizeLine) (hdf : d.params.defaults = []) (room : Room k callerA)
    (F : ∀ (w : World) (mg : Str → Option Value) (fa : Addr) (h : Heap), YP w h → h.Ns mainGlobals mg → mg d.name = some (.ref fa) →
      ∃ (K : PySem.W.Frag) (fd : FuncData) (sp : Sp), K.In h ∧ (∀ (s : Shared) (u : Value), BindsTo s fd ⟨[u], []⟩ [(x, u)]) ∧
        (∀ (H : Hp) (a : Addr) (ns : List Int), ns.length ≤ n → (∀ z ∈ ns, Builtin.Int.intBits z ≤ 1048576) → SqL K H a (ns.map V.int) → sp [.ref a] H (fun v _ => v = .bl true) fun _ _ _ => False) ∧
        ∀ base : Heap, K.In base → base.Ns mainGlobals mg → FnG l.prog w K mg base (CX w) k fa fd [x] sp)
    (noX : ∀ (w : World) (H : Hp) (s : Shared) (e : Value) (s' : Shared), CX w [] H s (fun _ _ _ => False) e s' → False) :
    PySem.W.WalkO q loose XP YP l.row.toRowW d [] (fun f vs => PySem.call f vs) := by
  refine Att.attach_callB hn hdf fun w s₀ s₁ mg mb fa o pm cd doc a vs ns G Y ho hd hcd hmg hobj hints hlen hbits hg => ?_
  obtain ⟨K, fd, sp, KX, hb, said, hF⟩ := F w mg fa _ Y G.T.g hmg
  exact law_callG KX G.T.g G.T.b G.T.builtins G.T.nolimit hg hobj hints (Nat.le_trans hlen hn2) room hF hb (fun H hS => said H a ns hlen hbits hS) fun H e s' => noX w H s₁ e s'
end RT

set_option Elab.async false
set_option linter.all false
set_option maxRecDepth 100000
set_option maxHeartbeats 4000000
/-! a head whose facts are any Bools of the written part, and defs by any address (a property's getter too) -/
namespace HP
open PySem PySem.Spec PyProof.Rows L2 He
/-- a def of the text, where it stands -/
structure DefA where
  adr : PySem.W.Frag → Addr
  name : Str
  qual : Str
  params : Arguments
  body : List Stmt
  scope : Scope
  dfl : List Dv := []
  kwd : List (Str × Dv) := []
def DefA.told (K : PySem.W.Frag) (d : DefA) : FnW := match K.lookup (d.adr K) with
  | some ⟨_, _, .func fd, _⟩ => some (fd.name, fd.qualname, fd.params, fd.body, fd.scope, fd.globals, fd.closure, fd.builtins)
  | _ => none
def DefA.want (d : DefA) : FnW := some (d.name, d.qual, d.params, .stmts d.body, d.scope, mainGlobals, [], builtinsNs)
def DefA.dvs (K : PySem.W.Frag) (d : DefA) : List V := d.dfl.map (Dv.v K)
def DefA.kws (K : PySem.W.Frag) (d : DefA) : List (Str × V) := d.kwd.map fun q => (q.1, q.2.v K)
def DefA.fine (K : PySem.W.Frag) (d : DefA) : Bool := PySem.W.keepIn K (.ref (d.adr K)) && (match K.lookup (d.adr K) with
  | some ⟨_, _, .func fd, _⟩ => PySem.W.codeIn K fd.code d.qual && (dflB K fd.defaults (d.dvs K) && kwdB K fd.kwdefaults (d.kws K))
  | _ => false)
theorem DefA.funD {K : PySem.W.Frag} {d : DefA} (e : d.told K = d.want) (c : d.fine K = true) : ∃ fd, FunD K d.name d.qual d.params d.body d.scope (d.dvs K) (d.kws K) (d.adr K) fd := by
  obtain ⟨kp, more⟩ := ba c
  unfold DefA.told at e
  split at e
  · rename_i oc od fd osl at_
    rw [at_] at more
    obtain ⟨k1, k2⟩ := ba more
    obtain ⟨k3, k4⟩ := ba k2
    cases fd
    unfold DefA.want at e
    injection e with e
    simp only [Prod.mk.injEq] at e
    obtain ⟨rfl, rfl, rfl, rfl, rfl, rfl, rfl, rfl⟩ := e
    exact ⟨_, ⟨oc, od, _, _, _, _, _, _, _, osl, rfl, at_, k1, dflB_ok k3, kwdB_ok k4⟩, kp⟩
  · cases e
abbrev Fact := PySem.W.Frag → Bool
abbrev Al := Bool × List FnW
def obsA (fa : List Fact) (fn : List DefA) (K : PySem.W.Frag) : Al := ((fa.all fun f => f K) && fn.all fun d => d.fine K, fn.map fun d => d.told K)
def wantA (fn : List DefA) : Al := (true, fn.map DefA.want)
def obsAG (n : Nat) (fa : List Fact) (fn : List DefA) (g : Addr → Option Obj) : Al := obsA fa fn (frG g (asD g n))
structure SaysA (fa : List Fact) (fn : List DefA) (K : PySem.W.Frag) : Prop where
  eq : obsA fa fn K = wantA fn
def hookA (n : Nat) (fa : List Fact) (fn : List DefA) : PySem.W.Hook where
  α := Al
  obs := fun s => obsAG n fa fn s.heap.get?
  val := fun _ => wantA fn
  says := fun _ h => ∃ K : PySem.W.Frag, K.In h ∧ SaysA fa fn K
  of := fun _ _ e => ⟨_, frG_in, ⟨e⟩⟩
  keeps := fun _ _ _ ⟨K, hK, c⟩ k => ⟨K, PySem.W.Frag.In.keeps hK k, c⟩
theorem obsAG_eq {n : Nat} {fa : List Fact} {fn : List DefA} {g : Addr → Option Obj} {s : Shared} (h : ∀ a, g a = s.heap.get? a) : obsAG n fa fn g = (hookA n fa fn).obs s := by
  rw [show g = s.heap.get? from funext h] <;> rfl
section
variable {fa : List Fact} {fn : List DefA} {K : PySem.W.Frag}
theorem SaysA.fact (c : SaysA fa fn K) (i : Nat) {f : Fact} (h : fa[i]? = some f := by rfl) : f K = true :=
  List.all_eq_true.mp (ba (congrArg Prod.fst c.eq)).1 f (List.mem_of_getElem? h)
theorem SaysA.def_ (c : SaysA fa fn K) (i : Nat) {d : DefA} (h : fn[i]? = some d := by rfl) : ∃ fd, FunD K d.name d.qual d.params d.body d.scope (d.dvs K) (d.kws K) (d.adr K) fd := by
  have hd : d ∈ fn := List.mem_of_getElem? h
  refine DefA.funD ?_ (List.all_eq_true.mp (ba (congrArg Prod.fst c.eq)).2 d hd)
  have e : fn.map (fun d => d.told K) = fn.map DefA.want := congrArg Prod.snd c.eq
  have e1 := congrArg (fun l => l[i]?) e
  simp only [List.getElem?_map, h, Option.map_some, Option.some.injEq] at e1
  exact e1
end
/-! ### facts beside He.Fa's -/
/-- a property of the class x -/
def getA (x f : Str) (K : PySem.W.Frag) : Addr := match PySem.W.recIn K (ma K (ga K x) f) "property" with
  | some (.ref g :: _) => g
  | _ => 0
def propB (x f : Str) : Fact := fun K => eqO (PySem.W.findIn K (.ref (ga K x)) f) (some (some (.ref (ma K (ga K x) f)))) && (eqO (PySem.W.specialIn K (.ref (ma K (ga K x) f)) "__get__") (some (some (.builtin "property.__get__"))) && (decide (PySem.W.takesIn K (.ref (ma K (ga K x) f)) = some true) &&
  (match PySem.W.recIn K (ma K (ga K x) f) "property" with
    | some (.ref _ :: _) => true
    | _ => false)))
theorem propB_ok {x f : Str} {K : PySem.W.Frag} (h : propB x f K = true) : PropOf K (ga K x) f (ma K (ga K x) f) (getA x f K) := by
  obtain ⟨h1, h⟩ := ba h
  obtain ⟨h2, h⟩ := ba h
  obtain ⟨h3, h4⟩ := ba h
  refine ⟨eqO_ok h1, eqO_ok h2, of_decide_eq_true h3, ?_⟩
  unfold getA
  split at h4
  · rename_i g rest e
    rw [e]
    exact ⟨rest, rfl⟩
  · cases h4
/-- own operators: the class goes first in its own order; no reflected method -/
def firstB (x : Str) : Fact := fun K => PySem.W.selfFirst K (ga K x)
def notFirstB (x : Str) (t : PySem.W.Frag → Value) : Fact := fun K => PySem.W.notFirst K (ga K x) (t K)
def rightB (x : Str) (op : Operator) (T : String) : Fact := fun K => eqO (PySem.W.findIn K (.ref (ga K x)) (dunderR op.info.2)) (some none) && ((PySem.W.findIn K (.type T) (PySem.dunder op.info.2)).isSome && ((PySem.W.findIn K (.type T) (dunderR op.info.2)).isSome && decide (PySem.W.subIn K (.type T) (.ref (ga K x)) = some false)))
theorem rightB_ok {x : Str} {op : Operator} {T : String} {K : PySem.W.Frag} (h : rightB x op T K = true) : RT.RightT K (ga K x) op T := by
  obtain ⟨h1, h⟩ := ba h
  obtain ⟨h2, h⟩ := ba h
  obtain ⟨h3, h4⟩ := ba h
  exact ⟨eqO_ok h1, Option.isSome_iff_exists.mp h2, Option.isSome_iff_exists.mp h3, of_decide_eq_true h4⟩
/-- isinstance of an instance of the class x asks its class rightly -/
def isiB (x : Str) : Fact := fun K => eqO (PySem.W.findIn K (.ref (ga K x)) "__class__") (some (some (.builtin "object.__class__"))) && (eqO (PySem.W.specialIn K (.builtin "object.__class__") "__get__") (some (some (.builtin "getset_descriptor.__get__"))) && (decide (PySem.W.takesIn K (.builtin "object.__class__") = some true) && decide (PySem.W.mroIn K (ga K x) (.type "object") = some true)))
structure IsiC (K : PySem.W.Frag) (C : Addr) : Prop where
  ha : PySem.W.findIn K (.ref C) "__class__" = some (some (.builtin "object.__class__"))
  hn : PySem.W.specialIn K (.builtin "object.__class__") "__get__" = some (some (.builtin "getset_descriptor.__get__"))
  ht : PySem.W.takesIn K (.builtin "object.__class__") = some true
  hm : PySem.W.mroIn K C (.type "object") = some true
theorem isiB_ok {x : Str} {K : PySem.W.Frag} (h : isiB x K = true) : IsiC K (ga K x) := by
  obtain ⟨h1, h⟩ := ba h
  obtain ⟨h2, h⟩ := ba h
  obtain ⟨h3, h4⟩ := ba h
  exact ⟨eqO_ok h1, eqO_ok h2, of_decide_eq_true h3, of_decide_eq_true h4⟩
/-- a global that is a tuple of flat values -/
def flatOf : Value → Option V
  | .none => some .non
  | .bool b => some (.bl b)
  | .int i _ => some (.int i)
  | .str x _ => some (.str x)
  | _ => none
theorem flatOf_ok {v : Value} {x : V} (h : flatOf v = some x) : RelV x v := by
  cases v <;> simp only [flatOf, Option.some.injEq, reduceCtorEq] at h <;> subst h <;> first | rfl | exact ⟨_, rfl⟩
theorem flats_ok : ∀ {vs : List Value} {xs : List V}, vs.map flatOf = xs.map some → Vals xs vs
  | [], [], _ => .nil
  | [], _ :: _, h => by cases h
  | _ :: _, [], h => by cases h
  | v :: vs, x :: xs, h => by
    simp only [List.map_cons, List.cons.injEq] at h
    exact .cons (flatOf_ok h.1) (flats_ok h.2)
def tupB (x : Str) (xs : List V) : Fact := fun K => match K.lookup (ga K x) with
  | some o => eqO (some (some o.cls)) (some (some (.type "tuple"))) && (match o.data with
    | .seq its _ => decide (its.toList.map flatOf = xs.map some) && decide (its.size ≤ sizeLine)
    | _ => false)
  | none => false
theorem tupB_ok {x : Str} {xs : List V} {K : PySem.W.Frag} (h : tupB x xs K = true) : ∀ H : Hp, SqT K H (ga K x) xs := by
  intro H
  unfold tupB at h
  split at h
  · rename_i o e
    obtain ⟨h1, h2⟩ := ba h
    split at h2
    · rename_i its n ed
      obtain ⟨h3, h4⟩ := ba h2
      exact .inr ⟨o, its, n, e, Option.some.inj (Option.some.inj (eqO_ok h1)), ed, of_decide_eq_true h4, flats_ok (of_decide_eq_true h3)⟩
    · cases h2
  · cases h
def neB (x : Str) : Fact := fun K => eqO (PySem.W.findIn K (.ref (ga K x)) "__ne__") (some (some (.builtin "object.__ne__")))
theorem neB_ok {x : Str} {K : PySem.W.Frag} (h : neB x K = true) : PySem.W.findIn K (.ref (ga K x)) "__ne__" = some (some (.builtin "object.__ne__")) := eqO_ok h
def fnB (x m : Str) : Fact := fun K => PySem.W.fnIn K (ma K (ga K x) m)
def kitB1 (t c : PySem.W.Frag → Value) (b : Bool) : Fact := fun K => decide (PySem.W.kitOne K (t K) (c K) = some b)
def kitA1 (t : PySem.W.Frag → Value) (cs : List Str) (b : Bool) : Fact := fun K => decide (PySem.W.kitAny K (t K) (cs.map fun x => .ref (ga K x)) = some b)
def fa_ (f : Fa) : Fact := fun K => f.ok K
end HP

set_option Elab.async false
set_option linter.all false
set_option maxRecDepth 100000
set_option maxHeartbeats 4000000
/-! the top's run in parts: the looks by themselves, the facts group by group -/
namespace HP
open PySem PySem.Spec PyProof.Rows L2 He HandSHeadRun PySem.W
/-- the facts over a written list of addresses -/
def obsL (as : List Addr) (fa : List Fact) (fn : List DefA) (g : Addr → Option Obj) : Al := obsA fa fn (frG g as)
def hookL (as : List Addr) (fa : List Fact) (fn : List DefA) : PySem.W.Hook where
  α := Al
  obs := fun s => obsL as fa fn s.heap.get?
  val := fun _ => wantA fn
  says := fun _ h => ∃ K : PySem.W.Frag, K.In h ∧ SaysA fa fn K
  of := fun _ _ e => ⟨_, frG_in, ⟨e⟩⟩
  keeps := fun _ _ _ ⟨K, hK, c⟩ k => ⟨K, PySem.W.Frag.In.keeps hK k, c⟩
theorem obsL_eq {as : List Addr} {fa : List Fact} {fn : List DefA} {g : Addr → Option Obj} {s : Shared} (h : ∀ a, g a = s.heap.get? a) : obsL as fa fn g = (hookL as fa fn).obs s := by
  rw [show g = s.heap.get? from funext h] <;> rfl
/-- the looks -/
def BaseEq (r : OpenRow) (q : Program) (M : Nat) (loose : List PySem.Str) (w : World) : Prop :=
  ∀ os : OsState, (endF (stepQ (denQ tabQ) r.prog w) M r.prog w os).map (fun s => (looksF r.prog (boot_heap w.params) s.abs, seenQ q loose (importedModules r.prog.main.body) (fun s => xlAt q [] s && recOk r.toRowW.records s) s.abs)) = some (true, openGood q loose)
/-- a group of facts -/
def PartEq (r : OpenRow) (M : Nat) (as : List Addr) (fa : List Fact) (fn : List DefA) (w : World) : Prop :=
  ∀ os : OsState, (endF (stepQ (denQ tabQ) r.prog w) M r.prog w os).map (fun s => obsL as fa fn (getT s)) = some (wantA fn)
theorem obsA_app {fa fa' : List Fact} {fn fn' : List DefA} {K : Frag} (h : obsA fa fn K = wantA fn) (h' : obsA fa' fn' K = wantA fn') : obsA (fa ++ fa') (fn ++ fn') K = wantA (fn ++ fn') := by
  unfold obsA wantA at *
  simp only [Prod.mk.injEq] at h h'
  obtain ⟨h1, h2⟩ := h
  obtain ⟨h3, h4⟩ := h'
  obtain ⟨a1, a2⟩ := ba h1
  obtain ⟨b1, b2⟩ := ba h3
  rw [List.all_append, List.all_append, List.map_append, List.map_append, h2, h4, a1, a2, b1, b2]
  rfl
theorem PartEq.app {r : OpenRow} {M : Nat} {as : List Addr} {fa fa' : List Fact} {fn fn' : List DefA} {w : World} (h : PartEq r M as fa fn w) (h' : PartEq r M as fa' fn' w) : PartEq r M as (fa ++ fa') (fn ++ fn') w := by
  intro os
  have e := h os
  have e' := h' os
  cases q : endF (stepQ (denQ tabQ) r.prog w) M r.prog w os with
  | none => rw [q] at e; cases e
  | some s =>
    rw [q] at e e'
    have e1 : obsL as fa fn (getT s) = wantA fn := Option.some.inj e
    have e2 : obsL as fa' fn' (getT s) = wantA fn' := Option.some.inj e'
    show some (obsL as (fa ++ fa') (fn ++ fn') (getT s)) = _
    exact congrArg some (obsA_app e1 e2)
theorem run_join {r : OpenRow} {q : Program} {M : Nat} {as : List Addr} {loose : List PySem.Str} {fa : List Fact} {fn : List DefA} {w : World} (h0 : BaseEq r q M loose w) (h : PartEq r M as fa fn w) :
    RunEq r q (hookL as fa fn) (fun s => obsL as fa fn (getT s)) M loose w := by
  intro os
  have e0 := h0 os
  have e := h os
  cases z : endF (stepQ (denQ tabQ) r.prog w) M r.prog w os with
  | none => rw [z] at e; cases e
  | some s =>
    rw [z] at e0 e
    have e1 := Option.some.inj e0
    have e2 : obsL as fa fn (getT s) = wantA fn := Option.some.inj e
    simp only [Prod.mk.injEq] at e1
    exact congrArg some (Prod.ext e1.1 (Prod.ext e1.2 e2))
end HP
namespace HP
open PySem PySem.Spec PyProof.Rows L2 He HandSHeadRun PySem.W
/-- what isinstance asks of a caught exception's class -/
def excCB (x : Str) : Fact := fun K => eqO (findIn K (.ref (ga K x)) "__getattribute__") (some (some (.builtin "BaseException.__getattribute__"))) && (eqO (findIn K (.ref (ga K x)) "__getattr__") (some none) && (decide (subIn K (.ref (ga K x)) (.type "BaseException") = some true) && (hasDictIn K (ga K x) &&
  (eqO (findIn K (.ref (ga K x)) "__class__") (some (some (.builtin "object.__class__"))) && (eqO (specialIn K (.builtin "object.__class__") "__get__") (some (some (.builtin "getset_descriptor.__get__"))) && (decide (takesIn K (.builtin "object.__class__") = some true) && decide (mroIn K (ga K x) (.type "object") = some true)))))))
theorem excCB_ok {x : Str} {K : Frag} (h : excCB x K = true) : ExcC K (ga K x) := by
  obtain ⟨h1, h⟩ := ba h
  obtain ⟨h2, h⟩ := ba h
  obtain ⟨h3, h⟩ := ba h
  obtain ⟨h4, h⟩ := ba h
  obtain ⟨h5, h⟩ := ba h
  obtain ⟨h6, h⟩ := ba h
  obtain ⟨h7, h8⟩ := ba h
  exact ⟨eqO_ok h1, eqO_ok h2, of_decide_eq_true h3, h4, eqO_ok h5, eqO_ok h6, of_decide_eq_true h7, of_decide_eq_true h8⟩
end HP

set_option Elab.async false
set_option linter.all false
set_option maxRecDepth 100000
set_option maxHeartbeats 4000000
/-! values as data: lists, tuples, small dicts, flat values; their repr, their type -/
namespace DQ
open PySem PySem.Spec PyProof.Rows L2 RT
mutual
inductive Dq (H : Hp) : V → PyData → Prop
  | non : Dq H .non .none
  | bl (b : Bool) : Dq H (.bl b) (.bool b)
  | int (i : Int) : Dq H (.int i) (.int i)
  | str (x : Str) : Dq H (.str x) (.str x)
  | lst {a : Addr} {xs : List V} {ds : List PyData} (e : H a = some (.lst xs)) (h : DqA H xs ds) : Dq H (.ref a) (.list ds)
  | tup {a : Addr} {xs : List V} {ds : List PyData} (e : H a = some (.tup xs)) (h : DqA H xs ds) : Dq H (.ref a) (.tuple ds)
  | d0 {a : Addr} (e : H a = some (.dT [])) : Dq H (.ref a) (.dict [])
  | d1 {a : Addr} {k : Int} {v : V} {d : PyData} (e : H a = some (.dK [(.inl k, v)])) (h : Dq H v d) : Dq H (.ref a) (.dict [(.int k, d)])
inductive DqA (H : Hp) : List V → List PyData → Prop
  | nil : DqA H [] []
  | cons {v : V} {vs : List V} {d : PyData} {ds : List PyData} (h : Dq H v d) (t : DqA H vs ds) : DqA H (v :: vs) (d :: ds)
end
mutual
theorem Dq.same {H H' : Hp} (e : Same H H') : ∀ {v : V} {d : PyData}, Dq H v d → Dq H' v d
  | _, _, .non => .non
  | _, _, .bl b => .bl b
  | _, _, .int i => .int i
  | _, _, .str x => .str x
  | _, _, .lst h k => .lst (e _ _ h) (DqA.same e k)
  | _, _, .tup h k => .tup (e _ _ h) (DqA.same e k)
  | _, _, .d0 h => .d0 (e _ _ h)
  | _, _, .d1 h k => .d1 (e _ _ h) (Dq.same e k)
theorem DqA.same {H H' : Hp} (e : Same H H') : ∀ {vs : List V} {ds : List PyData}, DqA H vs ds → DqA H' vs ds
  | _, _, .nil => .nil
  | _, _, .cons h t => .cons (Dq.same e h) (DqA.same e t)
end
theorem DqA.len {H : Hp} : ∀ {vs : List V} {ds : List PyData}, DqA H vs ds → vs.length = ds.length
  | _, _, .nil => rfl
  | _, _, .cons _ t => congrArg (· + 1) t.len
theorem DqA.app {H : Hp} : ∀ {vs us : List V} {ds es : List PyData}, DqA H vs ds → DqA H us es → DqA H (vs ++ us) (ds ++ es)
  | _, _, _, _, .nil, k => k
  | _, _, _, _, .cons h t, k => .cons h (t.app k)
theorem DqA.take {H : Hp} : ∀ {vs : List V} {ds : List PyData} (n : Nat), DqA H vs ds → DqA H (vs.take n) (ds.take n)
  | _, _, 0, _ => .nil
  | _, _, _ + 1, .nil => .nil
  | _, _, n + 1, .cons h t => .cons h (t.take n)
theorem DqA.drop {H : Hp} : ∀ {vs : List V} {ds : List PyData} (n : Nat), DqA H vs ds → DqA H (vs.drop n) (ds.drop n)
  | _, _, 0, h => h
  | _, _, _ + 1, .nil => .nil
  | _, _, n + 1, .cons _ t => t.drop n
theorem DqA.get {H : Hp} : ∀ {vs : List V} {ds : List PyData}, DqA H vs ds → ∀ {i : Nat} {v : V}, vs[i]? = some v → ∃ d, ds[i]? = some d ∧ Dq H v d
  | _, _, .nil, i, v, e => by cases e
  | _, _, .cons h r, 0, v, e => by cases e; exact ⟨_, rfl, h⟩
  | _, _, .cons h r, i + 1, v, e => r.get e
/-- the module table is no list -/
def SysOk (K : PySem.W.Frag) : Prop := ∃ o, K.lookup sysModules = some o ∧ o.cls ≠ .type "list"
def sysB : HP.Fact := fun K => match K.lookup sysModules with
  | some o => !decide (o.cls = .type "list")
  | none => false
theorem sysB_ok {K : PySem.W.Frag} (h : sysB K = true) : SysOk K := by
  unfold sysB at h
  split at h
  · rename_i o e
    exact ⟨o, e, fun z => by rw [decide_eq_true z] at h; cases h⟩
  · cases h
section
variable {X : Cx} {pins : List (Addr × Obj)} {σ : L2.St} {H : Hp} {s : Shared}
theorem keyIs_inl {k : Int} {v : Value} (h : keyIs (.inl k) v = true) : ∃ t, v = .int k t := by
  rcases keyIs_shape h with ⟨i, t, e, rfl⟩ | ⟨x, t, e, _⟩
  · cases e
    exact ⟨t, rfl⟩
  · cases e
theorem PairsOne {knd : KeyKind X.prog X.w L2.Key} {en : DictEntry} {rest : List DictEntry} {k : L2.Key} {v : Value} (h : Pairs knd (en :: rest) [(k, v)]) : knd.is k en.key = true ∧ en.val = v ∧ rest = [] := by
  generalize e : [(k, v)] = l at h
  cases h with
  | cons h1 h2 h3 =>
    cases e
    cases h3
    exact ⟨h1, h2, rfl⟩
mutual
theorem Dq.reads (I : Inv X pins σ H s) (sm : SysOk X.K) : ∀ {v : V} {d : PyData}, Dq H v d → ∀ {u : Value}, RelV v u → ∃ as, Reads s.heap u d as ∧ sysModules ∉ as
  | _, _, .non, u, r => by cases r; exact ⟨_, Reads.none, List.not_mem_nil⟩
  | _, _, .bl b, u, r => by cases r; exact ⟨_, Reads.bool b, List.not_mem_nil⟩
  | _, _, .int i, u, r => by obtain ⟨t, rfl⟩ := r; exact ⟨_, Reads.int i t, List.not_mem_nil⟩
  | _, _, .str x, u, r => by obtain ⟨t, rfl⟩ := r; exact ⟨_, Reads.str x t, List.not_mem_nil⟩
  | _, _, .lst (a := a) h k, u, r => by
    cases r
    obtain ⟨_, its, n, rv, e⟩ := I.hok a _ h
    obtain ⟨as, hr, hn⟩ := DqA.reads I sm k rv
    refine ⟨a :: as, Reads.list e rfl rfl (by simpa using hr), fun z => ?_⟩
    rcases List.mem_cons.mp z with z | z
    · obtain ⟨o, ho, hc⟩ := sm
      have := I.kIn _ _ ho
      rw [z, e] at this
      cases this
      exact hc rfl
    · exact hn z
  | _, _, .tup (a := a) h k, u, r => by
    cases r
    obtain ⟨_, its, rv, o, ho, hc, n, hd⟩ := I.hok a _ h
    obtain ⟨as, hr, hn⟩ := DqA.reads I sm k rv
    exact ⟨as, Reads.tuple ho hc hd (by simpa using hr), hn⟩
  | _, _, .d0 (a := a) h, u, r => by
    cases r
    obtain ⟨_, ne, xs, px, o, es, ep, ho, hx, hd, he, _⟩ := I.hok a _ h
    cases px
    refine ⟨a :: [] ++ [], Reads.dict ho hx.1 hd ?_ ?_, fun z => ?_⟩
    · rw [he]; exact ReadsAll.nil
    · rw [he]; exact ReadsAll.nil
    · rcases List.mem_cons.mp z with z | z
      · rw [← z] at ne
        cases ne
      · cases z
  | _, _, .d1 (a := a) h k, u, r => by
    cases r
    obtain ⟨_, ne, vs, kv, o, es, ep, ho, hx, hd, ks, ps, _⟩ := I.hok a _ h
    cases kv with
    | cons p t =>
      cases t
      cases es_e : es.toList with
      | nil => rw [es_e] at ps; cases ps
      | cons en rest =>
        rw [es_e] at ps
        rename_i b
        obtain ⟨bk, bv⟩ := b
        obtain ⟨p1, p2⟩ := p
        simp only at p1 p2
        obtain ⟨hk, hv, hr0⟩ := PairsOne ps
        subst hr0
        rw [← p1] at hk
        rw [← hv] at p2
        obtain ⟨t, ek⟩ := keyIs_inl hk
        obtain ⟨as, hr, hn⟩ := Dq.reads I sm k p2
        refine ⟨a :: ([] ++ []) ++ (as ++ []), Reads.dict ho hx.1 hd ?_ ?_, fun z => ?_⟩
        · rw [es_e]
          show ReadsAll s.heap [en.key] [.int _] ([] ++ [])
          rw [ek]
          exact .cons (.int _ t) .nil
        · rw [es_e]
          show ReadsAll s.heap [en.val] [_] (as ++ [])
          exact .cons hr .nil
        · rw [List.append_nil, List.append_nil] at z
          rcases List.mem_cons.mp z with z | z
          · rw [← z] at ne
            cases ne
          · exact hn z
theorem DqA.reads (I : Inv X pins σ H s) (sm : SysOk X.K) : ∀ {vs : List V} {ds : List PyData}, DqA H vs ds → ∀ {us : List Value}, Vals vs us → ∃ as, ReadsAll s.heap us ds as ∧ sysModules ∉ as
  | _, _, .nil, us, r => by cases r; exact ⟨_, ReadsAll.nil, List.not_mem_nil⟩
  | _, _, .cons h t, us, r => by
    cases r with
    | cons r1 r2 =>
      obtain ⟨as, q1, n1⟩ := Dq.reads I sm h r1
      obtain ⟨bs, q2, n2⟩ := DqA.reads I sm t r2
      exact ⟨_, ReadsAll.cons q1 q2, fun z => (List.mem_append.mp z).elim n1 n2⟩
end

/-- repr of data, small dicts too -/
def rReprQ (K : PySem.W.Frag) : List V → Hp → VK → Prop := fun xs H Q => ∃ (a : Addr) (d : PyData), xs = [.ref a] ∧ Dq H (.ref a) d ∧ d.showable = true ∧ d.depth ≤ 40 ∧ d.shown.length ≤ sizeLine ∧ Q (.str d.shown) H
theorem call_reprQ (sm : SysOk X.K) (hG : X.A.guards = some []) (hu : X.A.units + 64 < cLine) : CallR X (.builtin "repr") (rReprQ X.K) := by
  intro pins s σ H xs us Q I r h
  obtain ⟨a, d, rfl, D, hs, hz, hl, q⟩ := h
  obtain ⟨u, rfl, ru⟩ := vals1' r
  obtain ⟨as, rd, hn⟩ := D.reads I sm ru
  cases (show u = Value.ref a from ru)
  exact repr_of_reads' rd hs (fun _ => hn) hG (by omega) (fun _ _ e => e) (fun h' u tk k => ⟨.str d.shown, H, I.kept k, ⟨u, rfl⟩, q⟩) hl
/-- xs.count(y), flat items -/
def rCntF (K : PySem.W.Frag) : V → List V → Hp → VK → Prop := fun x xs H Q => ∃ (p : Addr) (ys : List V) (y : V), x = .ref p ∧ xs = [y] ∧ SqL K H p ys ∧ flatV y = true ∧ ys.all flatV = true ∧ Q (.int (ys.countP (fun z => eqV z y) : Nat)) H
theorem cnt_eq {y : V} : ∀ {ys : List V} {us : List Value}, Vals ys us → ys.all flatV = true → us.countP (eqU y) = ys.countP (fun z => eqV z y)
  | _, _, .nil, _ => rfl
  | z :: ys, u :: us, .cons r t, f => by
    rw [List.all_cons, Bool.and_eq_true] at f
    rw [List.countP_cons, List.countP_cons, cnt_eq t f.2, eqU_of r f.1]
theorem mt_countF : MtR X "list.count" (rCntF X.K) := by
  intro pins s σ H x xs v us Q I rx rxs h
  obtain ⟨p, ys, y, rfl, rfl, hs, fy, fys, q⟩ := h
  cases rx
  obtain ⟨u, rfl, ru⟩ := rxs.one
  obtain ⟨its, rv, ⟨⟨cls, dd, data, sl⟩, n, ho, hc, hdn, hd⟩, hlen⟩ := I.list hs
  simp only at hc hd
  subst hc hd
  refine call_meets PySem.F.slot_list_count ⟨_, ho, rfl⟩ PySem.F.entry_list_count (PySem.F.args_list_count_2 _ _)
    (SeqAt.list_countAt p its.toArray n dd sl u (eqU y)) ⟨ho, fun u' hu' => mem_eqAt ru fy rv fys u' (by simpa using hu'), ?_⟩
  refine ⟨.int _, H, I.tok _, ⟨s.toks, ?_⟩, q⟩
  show Value.int ((its.toArray.toList.countP (eqU y) : Nat) : Int) s.toks = _
  rw [show its.toArray.toList = its from by simp, cnt_eq rv fys]
end
/-! ### kinds -/
def typS : PyData → String
  | .none => "NoneType"
  | .bool _ => "bool"
  | .int _ => "int"
  | .str _ => "str"
  | .list _ => "list"
  | .tuple _ => "tuple"
  | .dict _ => "dict"
theorem Dq.ty {K : PySem.W.Frag} {H : Hp} {v : V} {d : PyData} (h : Dq H v d) : TyY K H v (.type (typS d)) := by
  cases h with
  | non => exact .base (.base .non)
  | bl b => exact .base (.base (.bl b))
  | int i => exact .base (.base (.int i))
  | str x => exact .base (.base (.str x))
  | lst h => exact .base (.base (.lst h))
  | tup h => exact .base (.base (.tup h))
  | d0 h => exact .base (.base (.dT h))
  | d1 h => exact .base (.base (.dK h))
def isI : PyData → Bool
  | .int _ => true
  | _ => false
def isB : PyData → Bool
  | .bool _ => true
  | _ => false
def isT : PyData → Bool
  | .tuple _ => true
  | _ => false
def isL : PyData → Bool
  | .list _ => true
  | _ => false
theorem kit_int {K : PySem.W.Frag} (d : PyData) : PySem.W.kitOne K (.type (typS d)) (.type "int") = some (isI d || isB d) := by
  cases d <;> (refine kit_ty ?_; dsimp only [typS, isI, isB, isT, isL]; decide +kernel)
theorem kit_bool {K : PySem.W.Frag} (d : PyData) : PySem.W.kitOne K (.type (typS d)) (.type "bool") = some (isB d) := by
  cases d <;> (refine kit_ty ?_; dsimp only [typS, isI, isB, isT, isL]; decide +kernel)
theorem kit_tuple {K : PySem.W.Frag} (d : PyData) : PySem.W.kitOne K (.type (typS d)) (.type "tuple") = some (isT d) := by
  cases d <;> (refine kit_ty ?_; dsimp only [typS, isI, isB, isT, isL]; decide +kernel)
theorem kit_list {K : PySem.W.Frag} (d : PyData) : PySem.W.kitOne K (.type (typS d)) (.type "list") = some (isL d) := by
  cases d <;> (refine kit_ty ?_; dsimp only [typS, isI, isB, isT, isL]; decide +kernel)
/-- promises may be joined -/
theorem FnOk_or {P : Program} {w : World} {K : PySem.W.Frag} {mg : Str → Option Value} {base : Heap} {CX : CXT} {k : Nat} {f : Addr} {fd : FuncData} {ps : List Str} {sp sp' : Sp} (F : FnOk P w K mg base CX k f fd ps sp) (G : FnOk P w K mg base CX k f fd ps sp') :
    FnOk P w K mg base CX k f fd ps (fun vs H Q E => sp vs H Q E ∨ sp' vs H Q E) :=
  ⟨fun vs H Q E h => h.elim (F.len vs H Q E) (G.len vs H Q E), fun A outer s H args us vs Q E hr env hb hv h => h.elim (F.run A outer s H args us vs Q E hr env hb hv) (G.run A outer s H args us vs Q E hr env hb hv)⟩
end DQ

set_option Elab.async false
set_option linter.all false
set_option maxRecDepth 100000
set_option maxHeartbeats 4000000
namespace K22
open PySem PySem.Spec PyProof.Rows L2 RT
def top (i : Nat) : Stmt := PySem.Challenge.pw_plotpens_k22_interval_errors.main.body.getD i (.Pass ⟨0, 0, 0, 0⟩)
abbrev sInvalidText_init : Stmt := inClass (top 2) 0
abbrev sInvalidSource_init : Stmt := inClass (top 3) 0
abbrev sTooDeep_init : Stmt := inClass (top 4) 0
abbrev sTooLarge_init : Stmt := inClass (top 5) 0
abbrev sis_integer : Stmt := top 32
abbrev sis_tuple_of : Stmt := top 33
abbrev sis_point : Stmt := top 34
abbrev scovered : Stmt := top 36
abbrev sodd_covered : Stmt := top 37
abbrev sdepth_at : Stmt := top 38
abbrev scount_covered_in : Stmt := top 39
abbrev scount_odd_in : Stmt := top 40
abbrev scount_around : Stmt := top 41
abbrev sodd_pieces : Stmt := top 42
abbrev scheck_intervals : Stmt := top 43
abbrev s_is_interval : Stmt := top 44
abbrev s_law_tank : Stmt := top 46
abbrev s_law_dip : Stmt := top 47
abbrev s_law_some_spans : Stmt := top 48
abbrev s_law_class : Stmt := top 49
abbrev s_law_told : Stmt := top 50
abbrev s_law_no_intervals : Stmt := top 51
abbrev slaw : Stmt := top 52
abbrev NInvalidText_init : List Str := ["self", "index"]
theorem scInvalidText_init : FnScope NInvalidText_init ["self", "index"] (defScope sInvalidText_init) := ⟨rfl, rfl, rfl, by decide +kernel, rfl, by decide +kernel, by decide +kernel⟩
abbrev NInvalidSource_init : List Str := ["self", "line", "index"]
theorem scInvalidSource_init : FnScope NInvalidSource_init ["self", "line", "index"] (defScope sInvalidSource_init) := ⟨rfl, rfl, rfl, by decide +kernel, rfl, by decide +kernel, by decide +kernel⟩
abbrev NTooDeep_init : List Str := ["self", "limit"]
theorem scTooDeep_init : FnScope NTooDeep_init ["self", "limit"] (defScope sTooDeep_init) := ⟨rfl, rfl, rfl, by decide +kernel, rfl, by decide +kernel, by decide +kernel⟩
abbrev NTooLarge_init : List Str := ["self", "limit"]
theorem scTooLarge_init : FnScope NTooLarge_init ["self", "limit"] (defScope sTooLarge_init) := ⟨rfl, rfl, rfl, by decide +kernel, rfl, by decide +kernel, by decide +kernel⟩
abbrev Nis_integer : List Str := ["value"]
theorem scis_integer : FnScope Nis_integer ["value"] (defScope sis_integer) := ⟨rfl, rfl, rfl, by decide +kernel, rfl, by decide +kernel, by decide +kernel⟩
abbrev Nis_tuple_of : List Str := ["value", "many"]
theorem scis_tuple_of : FnScope Nis_tuple_of ["value", "many"] (defScope sis_tuple_of) := ⟨rfl, rfl, rfl, by decide +kernel, rfl, by decide +kernel, by decide +kernel⟩
abbrev Nis_point : List Str := ["value"]
theorem scis_point : FnScope Nis_point ["value"] (defScope sis_point) := ⟨rfl, rfl, rfl, by decide +kernel, rfl, by decide +kernel, by decide +kernel⟩
abbrev Ncovered : List Str := ["intervals"]
theorem sccovered : FnScope Ncovered ["intervals"] (defScope scovered) := ⟨rfl, rfl, rfl, by decide +kernel, rfl, by decide +kernel, by decide +kernel⟩
abbrev Nodd_covered : List Str := ["intervals"]
theorem scodd_covered : FnScope Nodd_covered ["intervals"] (defScope sodd_covered) := ⟨rfl, rfl, rfl, by decide +kernel, rfl, by decide +kernel, by decide +kernel⟩
abbrev Ndepth_at : List Str := ["intervals", "place"]
theorem scdepth_at : FnScope Ndepth_at ["intervals", "place"] (defScope sdepth_at) := ⟨rfl, rfl, rfl, by decide +kernel, rfl, by decide +kernel, by decide +kernel⟩
abbrev Ncount_covered_in : List Str := ["intervals", "total", "reach", "start", "end", "first"]
theorem sccount_covered_in : FnScope Ncount_covered_in ["intervals"] (defScope scount_covered_in) := ⟨rfl, rfl, rfl, by decide +kernel, rfl, by decide +kernel, by decide +kernel⟩
abbrev Ncount_odd_in : List Str := ["intervals"]
theorem sccount_odd_in : FnScope Ncount_odd_in ["intervals"] (defScope scount_odd_in) := ⟨rfl, rfl, rfl, by decide +kernel, rfl, by decide +kernel, by decide +kernel⟩
abbrev Ncount_around : List Str := ["intervals", "place"]
theorem sccount_around : FnScope Ncount_around ["intervals", "place"] (defScope scount_around) := ⟨rfl, rfl, rfl, by decide +kernel, rfl, by decide +kernel, by decide +kernel⟩
abbrev Nodd_pieces : List Str := ["intervals", "ends"]
theorem scodd_pieces : FnScope Nodd_pieces ["intervals"] (defScope sodd_pieces) := ⟨rfl, rfl, rfl, by decide +kernel, rfl, by decide +kernel, by decide +kernel⟩
abbrev Ncheck_intervals : List Str := ["intervals"]
theorem sccheck_intervals : FnScope Ncheck_intervals ["intervals"] (defScope scheck_intervals) := ⟨rfl, rfl, rfl, by decide +kernel, rfl, by decide +kernel, by decide +kernel⟩
abbrev N_is_interval : List Str := ["value"]
theorem sc_is_interval : FnScope N_is_interval ["value"] (defScope s_is_interval) := ⟨rfl, rfl, rfl, by decide +kernel, rfl, by decide +kernel, by decide +kernel⟩
abbrev N_law_tank : List Str := ["script", "k", "cell"]
theorem sc_law_tank : FnScope N_law_tank ["script", "k"] (defScope s_law_tank) := ⟨rfl, rfl, rfl, by decide +kernel, rfl, by decide +kernel, by decide +kernel⟩
abbrev N_law_dip : List Str := ["tank", "bound", "found", "mixed"]
theorem sc_law_dip : FnScope N_law_dip ["tank", "bound"] (defScope s_law_dip) := ⟨rfl, rfl, rfl, by decide +kernel, rfl, by decide +kernel, by decide +kernel⟩
abbrev N_law_some_spans : List Str := ["tank", "most", "found", "way", "last", "turn", "low", "size_here"]
theorem sc_law_some_spans : FnScope N_law_some_spans ["tank", "most"] (defScope s_law_some_spans) := ⟨rfl, rfl, rfl, by decide +kernel, rfl, by decide +kernel, by decide +kernel⟩
abbrev N_law_class : List Str := ["caught", "some", "names"]
theorem sc_law_class : FnScope N_law_class ["caught"] (defScope s_law_class) := ⟨rfl, rfl, rfl, by decide +kernel, rfl, by decide +kernel, by decide +kernel⟩
abbrev N_law_told : List Str := ["door", "value", "place", "kept", "caught", "e"]
theorem sc_law_told : FnScope N_law_told ["door", "value", "place"] (defScope s_law_told) := ⟨rfl, rfl, rfl, by decide +kernel, rfl, by decide +kernel, by decide +kernel⟩
abbrev N_law_no_intervals : List Str := ["tank", "good", "spot", "odds", "found"]
theorem sc_law_no_intervals : FnScope N_law_no_intervals ["tank", "good"] (defScope s_law_no_intervals) := ⟨rfl, rfl, rfl, by decide +kernel, rfl, by decide +kernel, by decide +kernel⟩
abbrev Nlaw : List Str := ["script", "k", "tank", "good", "bad", "told"]
theorem sclaw : FnScope Nlaw ["script"] (defScope slaw) := ⟨rfl, rfl, rfl, by decide +kernel, rfl, by decide +kernel, by decide +kernel⟩
/-! ### the head -/
def dInvalidText_init : HP.DefA := ⟨fun K => He.fAd K ("InvalidText", some "__init__"), "__init__", "InvalidText.__init__", defArgs sInvalidText_init, defBody sInvalidText_init, defScope sInvalidText_init, [], []⟩
def dInvalidSource_init : HP.DefA := ⟨fun K => He.fAd K ("InvalidSource", some "__init__"), "__init__", "InvalidSource.__init__", defArgs sInvalidSource_init, defBody sInvalidSource_init, defScope sInvalidSource_init, [], []⟩
def dTooDeep_init : HP.DefA := ⟨fun K => He.fAd K ("TooDeep", some "__init__"), "__init__", "TooDeep.__init__", defArgs sTooDeep_init, defBody sTooDeep_init, defScope sTooDeep_init, [], []⟩
def dTooLarge_init : HP.DefA := ⟨fun K => He.fAd K ("TooLarge", some "__init__"), "__init__", "TooLarge.__init__", defArgs sTooLarge_init, defBody sTooLarge_init, defScope sTooLarge_init, [], []⟩
def dis_integer : HP.DefA := ⟨fun K => He.fAd K ("is_integer", none), "is_integer", "is_integer", defArgs sis_integer, defBody sis_integer, defScope sis_integer, [], []⟩
def dis_tuple_of : HP.DefA := ⟨fun K => He.fAd K ("is_tuple_of", none), "is_tuple_of", "is_tuple_of", defArgs sis_tuple_of, defBody sis_tuple_of, defScope sis_tuple_of, [], []⟩
def dis_point : HP.DefA := ⟨fun K => He.fAd K ("is_point", none), "is_point", "is_point", defArgs sis_point, defBody sis_point, defScope sis_point, [], []⟩
def dcovered : HP.DefA := ⟨fun K => He.fAd K ("covered", none), "covered", "covered", defArgs scovered, defBody scovered, defScope scovered, [], []⟩
def dodd_covered : HP.DefA := ⟨fun K => He.fAd K ("odd_covered", none), "odd_covered", "odd_covered", defArgs sodd_covered, defBody sodd_covered, defScope sodd_covered, [], []⟩
def ddepth_at : HP.DefA := ⟨fun K => He.fAd K ("depth_at", none), "depth_at", "depth_at", defArgs sdepth_at, defBody sdepth_at, defScope sdepth_at, [], []⟩
def dcount_covered_in : HP.DefA := ⟨fun K => He.fAd K ("count_covered_in", none), "count_covered_in", "count_covered_in", defArgs scount_covered_in, defBody scount_covered_in, defScope scount_covered_in, [], []⟩
def dcount_odd_in : HP.DefA := ⟨fun K => He.fAd K ("count_odd_in", none), "count_odd_in", "count_odd_in", defArgs scount_odd_in, defBody scount_odd_in, defScope scount_odd_in, [], []⟩
def dcount_around : HP.DefA := ⟨fun K => He.fAd K ("count_around", none), "count_around", "count_around", defArgs scount_around, defBody scount_around, defScope scount_around, [], []⟩
def dodd_pieces : HP.DefA := ⟨fun K => He.fAd K ("odd_pieces", none), "odd_pieces", "odd_pieces", defArgs sodd_pieces, defBody sodd_pieces, defScope sodd_pieces, [], []⟩
def dcheck_intervals : HP.DefA := ⟨fun K => He.fAd K ("check_intervals", none), "check_intervals", "check_intervals", defArgs scheck_intervals, defBody scheck_intervals, defScope scheck_intervals, [], []⟩
def d_is_interval : HP.DefA := ⟨fun K => He.fAd K ("_is_interval", none), "_is_interval", "_is_interval", defArgs s_is_interval, defBody s_is_interval, defScope s_is_interval, [], []⟩
def d_law_tank : HP.DefA := ⟨fun K => He.fAd K ("_law_tank", none), "_law_tank", "_law_tank", defArgs s_law_tank, defBody s_law_tank, defScope s_law_tank, [], []⟩
def d_law_dip : HP.DefA := ⟨fun K => He.fAd K ("_law_dip", none), "_law_dip", "_law_dip", defArgs s_law_dip, defBody s_law_dip, defScope s_law_dip, [], []⟩
def d_law_some_spans : HP.DefA := ⟨fun K => He.fAd K ("_law_some_spans", none), "_law_some_spans", "_law_some_spans", defArgs s_law_some_spans, defBody s_law_some_spans, defScope s_law_some_spans, [], []⟩
def d_law_class : HP.DefA := ⟨fun K => He.fAd K ("_law_class", none), "_law_class", "_law_class", defArgs s_law_class, defBody s_law_class, defScope s_law_class, [], []⟩
def d_law_told : HP.DefA := ⟨fun K => He.fAd K ("_law_told", none), "_law_told", "_law_told", defArgs s_law_told, defBody s_law_told, defScope s_law_told, [], []⟩
def d_law_no_intervals : HP.DefA := ⟨fun K => He.fAd K ("_law_no_intervals", none), "_law_no_intervals", "_law_no_intervals", defArgs s_law_no_intervals, defBody s_law_no_intervals, defScope s_law_no_intervals, [], []⟩
def dlaw : HP.DefA := ⟨fun K => He.fAd K ("law", none), "law", "law", defArgs slaw, defBody slaw, defScope slaw, [], []⟩
def fns : List HP.DefA := [dInvalidText_init, dInvalidSource_init, dTooDeep_init, dTooLarge_init, dis_integer, dis_tuple_of, dis_point, dcovered, dodd_covered, ddepth_at, dcount_covered_in, dcount_odd_in, dcount_around, dodd_pieces, dcheck_intervals, d_is_interval, d_law_tank, d_law_dip, d_law_some_spans, d_law_class, d_law_told, d_law_no_intervals, dlaw]
def fa0 : List HP.Fact := [HP.fa_ (.glo "is_integer"), HP.fa_ (.glo "is_tuple_of"), HP.fa_ (.glo "is_point"), HP.fa_ (.glo "covered"), HP.fa_ (.glo "odd_covered"), HP.fa_ (.glo "depth_at"), HP.fa_ (.glo "count_covered_in"), HP.fa_ (.glo "count_odd_in"), HP.fa_ (.glo "count_around"), HP.fa_ (.glo "odd_pieces"), HP.fa_ (.glo "check_intervals"), HP.fa_ (.glo "_is_interval"), HP.fa_ (.glo "_law_tank"), HP.fa_ (.glo "_law_dip"), HP.fa_ (.glo "_law_some_spans"), HP.fa_ (.glo "_law_class"), HP.fa_ (.glo "_law_told"), HP.fa_ (.glo "_law_no_intervals"), HP.fa_ (.glo "law"), HP.fa_ (.glo "PlotError"), HP.fa_ (.glo "InvalidText"), HP.fa_ (.glo "InvalidSource"), HP.fa_ (.glo "TooDeep"), HP.fa_ (.glo "TooLarge"), HP.fa_ (.glo "InvalidProgram")]
def fa1 : List HP.Fact := [HP.fa_ (.glo "InvalidTimes"), HP.fa_ (.glo "InvalidIndex"), HP.fa_ (.glo "InvalidLetter"), HP.fa_ (.glo "InvalidName"), HP.fa_ (.glo "HasPen"), HP.fa_ (.glo "InvalidMotion"), HP.fa_ (.glo "InvalidPose"), HP.fa_ (.glo "InvalidPoint"), HP.fa_ (.glo "InvalidEdge"), HP.fa_ (.glo "InvalidPicture"), HP.fa_ (.glo "InvalidTurn"), HP.fa_ (.glo "InvalidFace"), HP.fa_ (.glo "InvalidFaces"), HP.fa_ (.glo "NotEven"), HP.fa_ (.glo "NotClosed"), HP.fa_ (.glo "InvalidIntervals"), HP.fa_ (.glo "InvalidPlace"), HP.fa_ (.glo "NotDrifting"), HP.fa_ (.glo "InvalidCount"), HP.fa_ (.glo "NoSteps"), HP.fa_ (.glo "InvalidOperation"), HP.fa_ (.glo "Nothing"), HP.fa_ (.glo "InvalidArt"), HP.fa_ (.glo "InvalidCommand"), HP.fa_ (.free "ValueError")]
def fa2 : List HP.Fact := [HP.fa_ (.free "all"), HP.fa_ (.free "bool"), HP.fa_ (.free "int"), HP.fa_ (.free "isinstance"), HP.fa_ (.free "len"), HP.fa_ (.free "list"), HP.fa_ (.free "max"), HP.fa_ (.free "min"), HP.fa_ (.free "range"), HP.fa_ (.free "repr"), HP.fa_ (.free "sorted"), HP.fa_ (.free "sum"), HP.fa_ (.free "tuple"), HP.fa_ (.free "zip"), HP.fa_ (.exc "InvalidIntervals"), HP.excCB "InvalidIntervals", HP.fa_ (.exm "InvalidIntervals" "PlotError" true), HP.kitB1 (fun K => (.ref (He.ga K "InvalidIntervals"))) (fun K => (.ref (He.ga K "InvalidProgram"))) false, HP.kitB1 (fun K => (.ref (He.ga K "InvalidIntervals"))) (fun K => (.ref (He.ga K "InvalidTimes"))) false, HP.kitB1 (fun K => (.ref (He.ga K "InvalidIntervals"))) (fun K => (.ref (He.ga K "InvalidIndex"))) false, HP.kitB1 (fun K => (.ref (He.ga K "InvalidIntervals"))) (fun K => (.ref (He.ga K "InvalidMotion"))) false, HP.kitB1 (fun K => (.ref (He.ga K "InvalidIntervals"))) (fun K => (.ref (He.ga K "InvalidPose"))) false, HP.kitB1 (fun K => (.ref (He.ga K "InvalidIntervals"))) (fun K => (.ref (He.ga K "InvalidPoint"))) false, HP.kitB1 (fun K => (.ref (He.ga K "InvalidIntervals"))) (fun K => (.ref (He.ga K "InvalidEdge"))) false, HP.kitB1 (fun K => (.ref (He.ga K "InvalidIntervals"))) (fun K => (.ref (He.ga K "InvalidIntervals"))) true]
def fa3 : List HP.Fact := [HP.kitB1 (fun K => (.ref (He.ga K "InvalidIntervals"))) (fun K => (.ref (He.ga K "NotEven"))) false, HP.kitB1 (fun K => (.ref (He.ga K "InvalidIntervals"))) (fun K => (.ref (He.ga K "InvalidPlace"))) false, HP.kitB1 (fun K => (.ref (He.ga K "InvalidIntervals"))) (fun K => (.ref (He.ga K "NotDrifting"))) false, HP.kitB1 (fun K => (.ref (He.ga K "InvalidIntervals"))) (fun K => (.ref (He.ga K "TooLarge"))) false, HP.kitB1 (fun K => (.ref (He.ga K "InvalidIntervals"))) (fun _ => .type "ValueError") true, HP.kitA1 (fun K => (.ref (He.ga K "InvalidIntervals"))) ["HasPen", "InvalidArt", "InvalidCommand", "InvalidCount", "InvalidFace", "InvalidFaces", "InvalidLetter"] false, HP.kitA1 (fun K => (.ref (He.ga K "InvalidIntervals"))) ["InvalidName", "InvalidOperation", "InvalidPicture", "InvalidSource", "InvalidText", "InvalidTurn"] false, HP.kitA1 (fun K => (.ref (He.ga K "InvalidIntervals"))) ["NoSteps", "NotClosed", "Nothing", "TooDeep"] false, HP.fa_ (.exc "InvalidPlace"), HP.excCB "InvalidPlace", HP.fa_ (.exm "InvalidPlace" "PlotError" true), HP.kitB1 (fun K => (.ref (He.ga K "InvalidPlace"))) (fun K => (.ref (He.ga K "InvalidProgram"))) false, HP.kitB1 (fun K => (.ref (He.ga K "InvalidPlace"))) (fun K => (.ref (He.ga K "InvalidTimes"))) false, HP.kitB1 (fun K => (.ref (He.ga K "InvalidPlace"))) (fun K => (.ref (He.ga K "InvalidIndex"))) false, HP.kitB1 (fun K => (.ref (He.ga K "InvalidPlace"))) (fun K => (.ref (He.ga K "InvalidMotion"))) false, HP.kitB1 (fun K => (.ref (He.ga K "InvalidPlace"))) (fun K => (.ref (He.ga K "InvalidPose"))) false, HP.kitB1 (fun K => (.ref (He.ga K "InvalidPlace"))) (fun K => (.ref (He.ga K "InvalidPoint"))) false, HP.kitB1 (fun K => (.ref (He.ga K "InvalidPlace"))) (fun K => (.ref (He.ga K "InvalidEdge"))) false, HP.kitB1 (fun K => (.ref (He.ga K "InvalidPlace"))) (fun K => (.ref (He.ga K "InvalidIntervals"))) false, HP.kitB1 (fun K => (.ref (He.ga K "InvalidPlace"))) (fun K => (.ref (He.ga K "NotEven"))) false, HP.kitB1 (fun K => (.ref (He.ga K "InvalidPlace"))) (fun K => (.ref (He.ga K "InvalidPlace"))) true, HP.kitB1 (fun K => (.ref (He.ga K "InvalidPlace"))) (fun K => (.ref (He.ga K "NotDrifting"))) false, HP.kitB1 (fun K => (.ref (He.ga K "InvalidPlace"))) (fun K => (.ref (He.ga K "TooLarge"))) false, HP.kitB1 (fun K => (.ref (He.ga K "InvalidPlace"))) (fun _ => .type "ValueError") true, HP.kitA1 (fun K => (.ref (He.ga K "InvalidPlace"))) ["HasPen", "InvalidArt", "InvalidCommand", "InvalidCount", "InvalidFace", "InvalidFaces", "InvalidLetter"] false]
def fa4 : List HP.Fact := [HP.kitA1 (fun K => (.ref (He.ga K "InvalidPlace"))) ["InvalidName", "InvalidOperation", "InvalidPicture", "InvalidSource", "InvalidText", "InvalidTurn"] false, HP.kitA1 (fun K => (.ref (He.ga K "InvalidPlace"))) ["NoSteps", "NotClosed", "Nothing", "TooDeep"] false, DQ.sysB]
def facts : List HP.Fact := fa0 ++ fa1 ++ fa2 ++ fa3 ++ fa4
def nm0 : List Str := ["PlotError", "InvalidText", "InvalidSource", "TooDeep", "TooLarge", "InvalidProgram", "InvalidTimes", "InvalidIndex", "InvalidLetter", "InvalidName", "HasPen", "InvalidMotion", "InvalidPose", "InvalidPoint", "InvalidEdge", "InvalidPicture", "InvalidTurn", "InvalidFace", "InvalidFaces", "NotEven", "NotClosed", "InvalidIntervals", "InvalidPlace", "NotDrifting", "InvalidCount", "NoSteps", "InvalidOperation", "Nothing", "InvalidArt", "InvalidCommand"]
def nm1 : List Str := ["is_integer", "is_tuple_of", "is_point", "covered", "odd_covered", "depth_at", "count_covered_in", "count_odd_in", "count_around", "odd_pieces", "check_intervals", "_is_interval", "_law_tank", "_law_dip", "_law_some_spans", "_law_class", "_law_told", "_law_no_intervals"]
def names : List Str := nm0 ++ nm1
structure Tx (K : PySem.W.Frag) (mg : Str → Option Value) : Prop where
  g_is_integer : mg "is_integer" = some (.ref (He.ga K "is_integer"))
  g_is_tuple_of : mg "is_tuple_of" = some (.ref (He.ga K "is_tuple_of"))
  g_is_point : mg "is_point" = some (.ref (He.ga K "is_point"))
  g_covered : mg "covered" = some (.ref (He.ga K "covered"))
  g_odd_covered : mg "odd_covered" = some (.ref (He.ga K "odd_covered"))
  g_depth_at : mg "depth_at" = some (.ref (He.ga K "depth_at"))
  g_count_covered_in : mg "count_covered_in" = some (.ref (He.ga K "count_covered_in"))
  g_count_odd_in : mg "count_odd_in" = some (.ref (He.ga K "count_odd_in"))
  g_count_around : mg "count_around" = some (.ref (He.ga K "count_around"))
  g_odd_pieces : mg "odd_pieces" = some (.ref (He.ga K "odd_pieces"))
  g_check_intervals : mg "check_intervals" = some (.ref (He.ga K "check_intervals"))
  g__is_interval : mg "_is_interval" = some (.ref (He.ga K "_is_interval"))
  g__law_tank : mg "_law_tank" = some (.ref (He.ga K "_law_tank"))
  g__law_dip : mg "_law_dip" = some (.ref (He.ga K "_law_dip"))
  g__law_some_spans : mg "_law_some_spans" = some (.ref (He.ga K "_law_some_spans"))
  g__law_class : mg "_law_class" = some (.ref (He.ga K "_law_class"))
  g__law_told : mg "_law_told" = some (.ref (He.ga K "_law_told"))
  g__law_no_intervals : mg "_law_no_intervals" = some (.ref (He.ga K "_law_no_intervals"))
  g_law : mg "law" = some (.ref (He.ga K "law"))
  g_PlotError : mg "PlotError" = some (.ref (He.ga K "PlotError"))
  g_InvalidText : mg "InvalidText" = some (.ref (He.ga K "InvalidText"))
  g_InvalidSource : mg "InvalidSource" = some (.ref (He.ga K "InvalidSource"))
  g_TooDeep : mg "TooDeep" = some (.ref (He.ga K "TooDeep"))
  g_TooLarge : mg "TooLarge" = some (.ref (He.ga K "TooLarge"))
  g_InvalidProgram : mg "InvalidProgram" = some (.ref (He.ga K "InvalidProgram"))
  g_InvalidTimes : mg "InvalidTimes" = some (.ref (He.ga K "InvalidTimes"))
  g_InvalidIndex : mg "InvalidIndex" = some (.ref (He.ga K "InvalidIndex"))
  g_InvalidLetter : mg "InvalidLetter" = some (.ref (He.ga K "InvalidLetter"))
  g_InvalidName : mg "InvalidName" = some (.ref (He.ga K "InvalidName"))
  g_HasPen : mg "HasPen" = some (.ref (He.ga K "HasPen"))
  g_InvalidMotion : mg "InvalidMotion" = some (.ref (He.ga K "InvalidMotion"))
  g_InvalidPose : mg "InvalidPose" = some (.ref (He.ga K "InvalidPose"))
  g_InvalidPoint : mg "InvalidPoint" = some (.ref (He.ga K "InvalidPoint"))
  g_InvalidEdge : mg "InvalidEdge" = some (.ref (He.ga K "InvalidEdge"))
  g_InvalidPicture : mg "InvalidPicture" = some (.ref (He.ga K "InvalidPicture"))
  g_InvalidTurn : mg "InvalidTurn" = some (.ref (He.ga K "InvalidTurn"))
  g_InvalidFace : mg "InvalidFace" = some (.ref (He.ga K "InvalidFace"))
  g_InvalidFaces : mg "InvalidFaces" = some (.ref (He.ga K "InvalidFaces"))
  g_NotEven : mg "NotEven" = some (.ref (He.ga K "NotEven"))
  g_NotClosed : mg "NotClosed" = some (.ref (He.ga K "NotClosed"))
  g_InvalidIntervals : mg "InvalidIntervals" = some (.ref (He.ga K "InvalidIntervals"))
  g_InvalidPlace : mg "InvalidPlace" = some (.ref (He.ga K "InvalidPlace"))
  g_NotDrifting : mg "NotDrifting" = some (.ref (He.ga K "NotDrifting"))
  g_InvalidCount : mg "InvalidCount" = some (.ref (He.ga K "InvalidCount"))
  g_NoSteps : mg "NoSteps" = some (.ref (He.ga K "NoSteps"))
  g_InvalidOperation : mg "InvalidOperation" = some (.ref (He.ga K "InvalidOperation"))
  g_Nothing : mg "Nothing" = some (.ref (He.ga K "Nothing"))
  g_InvalidArt : mg "InvalidArt" = some (.ref (He.ga K "InvalidArt"))
  g_InvalidCommand : mg "InvalidCommand" = some (.ref (He.ga K "InvalidCommand"))
  z_ValueError : mg "ValueError" = none
  z_all : mg "all" = none
  z_bool : mg "bool" = none
  z_int : mg "int" = none
  z_isinstance : mg "isinstance" = none
  z_len : mg "len" = none
  z_list : mg "list" = none
  z_max : mg "max" = none
  z_min : mg "min" = none
  z_range : mg "range" = none
  z_repr : mg "repr" = none
  z_sorted : mg "sorted" = none
  z_sum : mg "sum" = none
  z_tuple : mg "tuple" = none
  z_zip : mg "zip" = none
  x_InvalidIntervals : PySem.W.excIn K (He.ga K "InvalidIntervals") He.veBase "ValueError.__new__" = true ∧ PySem.W.keepIn K (.ref (He.ga K "InvalidIntervals")) = true ∧ PySem.W.subIn K (.ref (He.ga K "InvalidIntervals")) (.type "BaseException") = some true ∧ PySem.W.typeIn K (.ref (He.ga K "InvalidIntervals")) = some (.type "type")
  e_InvalidIntervals : ExcC K (He.ga K "InvalidIntervals")
  pe_InvalidIntervals : PySem.W.exmOne K (.ref (He.ga K "InvalidIntervals")) (.ref (He.ga K "PlotError")) = some true
  q_InvalidIntervals_InvalidProgram : PySem.W.kitOne K (.ref (He.ga K "InvalidIntervals")) (.ref (He.ga K "InvalidProgram")) = some false
  q_InvalidIntervals_InvalidTimes : PySem.W.kitOne K (.ref (He.ga K "InvalidIntervals")) (.ref (He.ga K "InvalidTimes")) = some false
  q_InvalidIntervals_InvalidIndex : PySem.W.kitOne K (.ref (He.ga K "InvalidIntervals")) (.ref (He.ga K "InvalidIndex")) = some false
  q_InvalidIntervals_InvalidMotion : PySem.W.kitOne K (.ref (He.ga K "InvalidIntervals")) (.ref (He.ga K "InvalidMotion")) = some false
  q_InvalidIntervals_InvalidPose : PySem.W.kitOne K (.ref (He.ga K "InvalidIntervals")) (.ref (He.ga K "InvalidPose")) = some false
  q_InvalidIntervals_InvalidPoint : PySem.W.kitOne K (.ref (He.ga K "InvalidIntervals")) (.ref (He.ga K "InvalidPoint")) = some false
  q_InvalidIntervals_InvalidEdge : PySem.W.kitOne K (.ref (He.ga K "InvalidIntervals")) (.ref (He.ga K "InvalidEdge")) = some false
  q_InvalidIntervals_InvalidIntervals : PySem.W.kitOne K (.ref (He.ga K "InvalidIntervals")) (.ref (He.ga K "InvalidIntervals")) = some true
  q_InvalidIntervals_NotEven : PySem.W.kitOne K (.ref (He.ga K "InvalidIntervals")) (.ref (He.ga K "NotEven")) = some false
  q_InvalidIntervals_InvalidPlace : PySem.W.kitOne K (.ref (He.ga K "InvalidIntervals")) (.ref (He.ga K "InvalidPlace")) = some false
  q_InvalidIntervals_NotDrifting : PySem.W.kitOne K (.ref (He.ga K "InvalidIntervals")) (.ref (He.ga K "NotDrifting")) = some false
  q_InvalidIntervals_TooLarge : PySem.W.kitOne K (.ref (He.ga K "InvalidIntervals")) (.ref (He.ga K "TooLarge")) = some false
  q_InvalidIntervals_VE : PySem.W.kitOne K (.ref (He.ga K "InvalidIntervals")) (.type "ValueError") = some true
  qa0_InvalidIntervals : PySem.W.kitAny K (.ref (He.ga K "InvalidIntervals")) ((["HasPen", "InvalidArt", "InvalidCommand", "InvalidCount", "InvalidFace", "InvalidFaces", "InvalidLetter"] : List Str).map fun x => .ref (He.ga K x)) = some false
  qa1_InvalidIntervals : PySem.W.kitAny K (.ref (He.ga K "InvalidIntervals")) ((["InvalidName", "InvalidOperation", "InvalidPicture", "InvalidSource", "InvalidText", "InvalidTurn"] : List Str).map fun x => .ref (He.ga K x)) = some false
  qa2_InvalidIntervals : PySem.W.kitAny K (.ref (He.ga K "InvalidIntervals")) ((["NoSteps", "NotClosed", "Nothing", "TooDeep"] : List Str).map fun x => .ref (He.ga K x)) = some false
  x_InvalidPlace : PySem.W.excIn K (He.ga K "InvalidPlace") He.veBase "ValueError.__new__" = true ∧ PySem.W.keepIn K (.ref (He.ga K "InvalidPlace")) = true ∧ PySem.W.subIn K (.ref (He.ga K "InvalidPlace")) (.type "BaseException") = some true ∧ PySem.W.typeIn K (.ref (He.ga K "InvalidPlace")) = some (.type "type")
  e_InvalidPlace : ExcC K (He.ga K "InvalidPlace")
  pe_InvalidPlace : PySem.W.exmOne K (.ref (He.ga K "InvalidPlace")) (.ref (He.ga K "PlotError")) = some true
  q_InvalidPlace_InvalidProgram : PySem.W.kitOne K (.ref (He.ga K "InvalidPlace")) (.ref (He.ga K "InvalidProgram")) = some false
  q_InvalidPlace_InvalidTimes : PySem.W.kitOne K (.ref (He.ga K "InvalidPlace")) (.ref (He.ga K "InvalidTimes")) = some false
  q_InvalidPlace_InvalidIndex : PySem.W.kitOne K (.ref (He.ga K "InvalidPlace")) (.ref (He.ga K "InvalidIndex")) = some false
  q_InvalidPlace_InvalidMotion : PySem.W.kitOne K (.ref (He.ga K "InvalidPlace")) (.ref (He.ga K "InvalidMotion")) = some false
  q_InvalidPlace_InvalidPose : PySem.W.kitOne K (.ref (He.ga K "InvalidPlace")) (.ref (He.ga K "InvalidPose")) = some false
  q_InvalidPlace_InvalidPoint : PySem.W.kitOne K (.ref (He.ga K "InvalidPlace")) (.ref (He.ga K "InvalidPoint")) = some false
  q_InvalidPlace_InvalidEdge : PySem.W.kitOne K (.ref (He.ga K "InvalidPlace")) (.ref (He.ga K "InvalidEdge")) = some false
  q_InvalidPlace_InvalidIntervals : PySem.W.kitOne K (.ref (He.ga K "InvalidPlace")) (.ref (He.ga K "InvalidIntervals")) = some false
  q_InvalidPlace_NotEven : PySem.W.kitOne K (.ref (He.ga K "InvalidPlace")) (.ref (He.ga K "NotEven")) = some false
  q_InvalidPlace_InvalidPlace : PySem.W.kitOne K (.ref (He.ga K "InvalidPlace")) (.ref (He.ga K "InvalidPlace")) = some true
  q_InvalidPlace_NotDrifting : PySem.W.kitOne K (.ref (He.ga K "InvalidPlace")) (.ref (He.ga K "NotDrifting")) = some false
  q_InvalidPlace_TooLarge : PySem.W.kitOne K (.ref (He.ga K "InvalidPlace")) (.ref (He.ga K "TooLarge")) = some false
  q_InvalidPlace_VE : PySem.W.kitOne K (.ref (He.ga K "InvalidPlace")) (.type "ValueError") = some true
  qa0_InvalidPlace : PySem.W.kitAny K (.ref (He.ga K "InvalidPlace")) ((["HasPen", "InvalidArt", "InvalidCommand", "InvalidCount", "InvalidFace", "InvalidFaces", "InvalidLetter"] : List Str).map fun x => .ref (He.ga K x)) = some false
  qa1_InvalidPlace : PySem.W.kitAny K (.ref (He.ga K "InvalidPlace")) ((["InvalidName", "InvalidOperation", "InvalidPicture", "InvalidSource", "InvalidText", "InvalidTurn"] : List Str).map fun x => .ref (He.ga K x)) = some false
  qa2_InvalidPlace : PySem.W.kitAny K (.ref (He.ga K "InvalidPlace")) ((["NoSteps", "NotClosed", "Nothing", "TooDeep"] : List Str).map fun x => .ref (He.ga K x)) = some false
  sm : DQ.SysOk K
structure Ds (K : PySem.W.Frag) where
  fd_InvalidText_init : FuncData
  F_InvalidText_init : FunD K "__init__" "InvalidText.__init__" (defArgs sInvalidText_init) (defBody sInvalidText_init) (defScope sInvalidText_init) [] [] (dInvalidText_init.adr K) fd_InvalidText_init
  fd_InvalidSource_init : FuncData
  F_InvalidSource_init : FunD K "__init__" "InvalidSource.__init__" (defArgs sInvalidSource_init) (defBody sInvalidSource_init) (defScope sInvalidSource_init) [] [] (dInvalidSource_init.adr K) fd_InvalidSource_init
  fd_TooDeep_init : FuncData
  F_TooDeep_init : FunD K "__init__" "TooDeep.__init__" (defArgs sTooDeep_init) (defBody sTooDeep_init) (defScope sTooDeep_init) [] [] (dTooDeep_init.adr K) fd_TooDeep_init
  fd_TooLarge_init : FuncData
  F_TooLarge_init : FunD K "__init__" "TooLarge.__init__" (defArgs sTooLarge_init) (defBody sTooLarge_init) (defScope sTooLarge_init) [] [] (dTooLarge_init.adr K) fd_TooLarge_init
  fd_is_integer : FuncData
  F_is_integer : FunD K "is_integer" "is_integer" (defArgs sis_integer) (defBody sis_integer) (defScope sis_integer) [] [] (dis_integer.adr K) fd_is_integer
  fd_is_tuple_of : FuncData
  F_is_tuple_of : FunD K "is_tuple_of" "is_tuple_of" (defArgs sis_tuple_of) (defBody sis_tuple_of) (defScope sis_tuple_of) [] [] (dis_tuple_of.adr K) fd_is_tuple_of
  fd_is_point : FuncData
  F_is_point : FunD K "is_point" "is_point" (defArgs sis_point) (defBody sis_point) (defScope sis_point) [] [] (dis_point.adr K) fd_is_point
  fd_covered : FuncData
  F_covered : FunD K "covered" "covered" (defArgs scovered) (defBody scovered) (defScope scovered) [] [] (dcovered.adr K) fd_covered
  fd_odd_covered : FuncData
  F_odd_covered : FunD K "odd_covered" "odd_covered" (defArgs sodd_covered) (defBody sodd_covered) (defScope sodd_covered) [] [] (dodd_covered.adr K) fd_odd_covered
  fd_depth_at : FuncData
  F_depth_at : FunD K "depth_at" "depth_at" (defArgs sdepth_at) (defBody sdepth_at) (defScope sdepth_at) [] [] (ddepth_at.adr K) fd_depth_at
  fd_count_covered_in : FuncData
  F_count_covered_in : FunD K "count_covered_in" "count_covered_in" (defArgs scount_covered_in) (defBody scount_covered_in) (defScope scount_covered_in) [] [] (dcount_covered_in.adr K) fd_count_covered_in
  fd_count_odd_in : FuncData
  F_count_odd_in : FunD K "count_odd_in" "count_odd_in" (defArgs scount_odd_in) (defBody scount_odd_in) (defScope scount_odd_in) [] [] (dcount_odd_in.adr K) fd_count_odd_in
  fd_count_around : FuncData
  F_count_around : FunD K "count_around" "count_around" (defArgs scount_around) (defBody scount_around) (defScope scount_around) [] [] (dcount_around.adr K) fd_count_around
  fd_odd_pieces : FuncData
  F_odd_pieces : FunD K "odd_pieces" "odd_pieces" (defArgs sodd_pieces) (defBody sodd_pieces) (defScope sodd_pieces) [] [] (dodd_pieces.adr K) fd_odd_pieces
  fd_check_intervals : FuncData
  F_check_intervals : FunD K "check_intervals" "check_intervals" (defArgs scheck_intervals) (defBody scheck_intervals) (defScope scheck_intervals) [] [] (dcheck_intervals.adr K) fd_check_intervals
  fd__is_interval : FuncData
  F__is_interval : FunD K "_is_interval" "_is_interval" (defArgs s_is_interval) (defBody s_is_interval) (defScope s_is_interval) [] [] (d_is_interval.adr K) fd__is_interval
  fd__law_tank : FuncData
  F__law_tank : FunD K "_law_tank" "_law_tank" (defArgs s_law_tank) (defBody s_law_tank) (defScope s_law_tank) [] [] (d_law_tank.adr K) fd__law_tank
  fd__law_dip : FuncData
  F__law_dip : FunD K "_law_dip" "_law_dip" (defArgs s_law_dip) (defBody s_law_dip) (defScope s_law_dip) [] [] (d_law_dip.adr K) fd__law_dip
  fd__law_some_spans : FuncData
  F__law_some_spans : FunD K "_law_some_spans" "_law_some_spans" (defArgs s_law_some_spans) (defBody s_law_some_spans) (defScope s_law_some_spans) [] [] (d_law_some_spans.adr K) fd__law_some_spans
  fd__law_class : FuncData
  F__law_class : FunD K "_law_class" "_law_class" (defArgs s_law_class) (defBody s_law_class) (defScope s_law_class) [] [] (d_law_class.adr K) fd__law_class
  fd__law_told : FuncData
  F__law_told : FunD K "_law_told" "_law_told" (defArgs s_law_told) (defBody s_law_told) (defScope s_law_told) [] [] (d_law_told.adr K) fd__law_told
  fd__law_no_intervals : FuncData
  F__law_no_intervals : FunD K "_law_no_intervals" "_law_no_intervals" (defArgs s_law_no_intervals) (defBody s_law_no_intervals) (defScope s_law_no_intervals) [] [] (d_law_no_intervals.adr K) fd__law_no_intervals
  fd_law : FuncData
  F_law : FunD K "law" "law" (defArgs slaw) (defBody slaw) (defScope slaw) [] [] (dlaw.adr K) fd_law
theorem tx_of {K : PySem.W.Frag} {h : Heap} {mg : Str → Option Value} (X : K.In h) (G : h.Ns mainGlobals mg) (c : HP.SaysA facts fns K) : Tx K mg where
  g_is_integer := He.glo_ok X G (c.fact 0 rfl)
  g_is_tuple_of := He.glo_ok X G (c.fact 1 rfl)
  g_is_point := He.glo_ok X G (c.fact 2 rfl)
  g_covered := He.glo_ok X G (c.fact 3 rfl)
  g_odd_covered := He.glo_ok X G (c.fact 4 rfl)
  g_depth_at := He.glo_ok X G (c.fact 5 rfl)
  g_count_covered_in := He.glo_ok X G (c.fact 6 rfl)
  g_count_odd_in := He.glo_ok X G (c.fact 7 rfl)
  g_count_around := He.glo_ok X G (c.fact 8 rfl)
  g_odd_pieces := He.glo_ok X G (c.fact 9 rfl)
  g_check_intervals := He.glo_ok X G (c.fact 10 rfl)
  g__is_interval := He.glo_ok X G (c.fact 11 rfl)
  g__law_tank := He.glo_ok X G (c.fact 12 rfl)
  g__law_dip := He.glo_ok X G (c.fact 13 rfl)
  g__law_some_spans := He.glo_ok X G (c.fact 14 rfl)
  g__law_class := He.glo_ok X G (c.fact 15 rfl)
  g__law_told := He.glo_ok X G (c.fact 16 rfl)
  g__law_no_intervals := He.glo_ok X G (c.fact 17 rfl)
  g_law := He.glo_ok X G (c.fact 18 rfl)
  g_PlotError := He.glo_ok X G (c.fact 19 rfl)
  g_InvalidText := He.glo_ok X G (c.fact 20 rfl)
  g_InvalidSource := He.glo_ok X G (c.fact 21 rfl)
  g_TooDeep := He.glo_ok X G (c.fact 22 rfl)
  g_TooLarge := He.glo_ok X G (c.fact 23 rfl)
  g_InvalidProgram := He.glo_ok X G (c.fact 24 rfl)
  g_InvalidTimes := He.glo_ok X G (c.fact 25 rfl)
  g_InvalidIndex := He.glo_ok X G (c.fact 26 rfl)
  g_InvalidLetter := He.glo_ok X G (c.fact 27 rfl)
  g_InvalidName := He.glo_ok X G (c.fact 28 rfl)
  g_HasPen := He.glo_ok X G (c.fact 29 rfl)
  g_InvalidMotion := He.glo_ok X G (c.fact 30 rfl)
  g_InvalidPose := He.glo_ok X G (c.fact 31 rfl)
  g_InvalidPoint := He.glo_ok X G (c.fact 32 rfl)
  g_InvalidEdge := He.glo_ok X G (c.fact 33 rfl)
  g_InvalidPicture := He.glo_ok X G (c.fact 34 rfl)
  g_InvalidTurn := He.glo_ok X G (c.fact 35 rfl)
  g_InvalidFace := He.glo_ok X G (c.fact 36 rfl)
  g_InvalidFaces := He.glo_ok X G (c.fact 37 rfl)
  g_NotEven := He.glo_ok X G (c.fact 38 rfl)
  g_NotClosed := He.glo_ok X G (c.fact 39 rfl)
  g_InvalidIntervals := He.glo_ok X G (c.fact 40 rfl)
  g_InvalidPlace := He.glo_ok X G (c.fact 41 rfl)
  g_NotDrifting := He.glo_ok X G (c.fact 42 rfl)
  g_InvalidCount := He.glo_ok X G (c.fact 43 rfl)
  g_NoSteps := He.glo_ok X G (c.fact 44 rfl)
  g_InvalidOperation := He.glo_ok X G (c.fact 45 rfl)
  g_Nothing := He.glo_ok X G (c.fact 46 rfl)
  g_InvalidArt := He.glo_ok X G (c.fact 47 rfl)
  g_InvalidCommand := He.glo_ok X G (c.fact 48 rfl)
  z_ValueError := He.free_ok X G (c.fact 49 rfl)
  z_all := He.free_ok X G (c.fact 50 rfl)
  z_bool := He.free_ok X G (c.fact 51 rfl)
  z_int := He.free_ok X G (c.fact 52 rfl)
  z_isinstance := He.free_ok X G (c.fact 53 rfl)
  z_len := He.free_ok X G (c.fact 54 rfl)
  z_list := He.free_ok X G (c.fact 55 rfl)
  z_max := He.free_ok X G (c.fact 56 rfl)
  z_min := He.free_ok X G (c.fact 57 rfl)
  z_range := He.free_ok X G (c.fact 58 rfl)
  z_repr := He.free_ok X G (c.fact 59 rfl)
  z_sorted := He.free_ok X G (c.fact 60 rfl)
  z_sum := He.free_ok X G (c.fact 61 rfl)
  z_tuple := He.free_ok X G (c.fact 62 rfl)
  z_zip := He.free_ok X G (c.fact 63 rfl)
  x_InvalidIntervals := He.exc_ok (c.fact 64 rfl)
  e_InvalidIntervals := HP.excCB_ok (c.fact 65 rfl)
  pe_InvalidIntervals := He.exm_ok (c.fact 66 rfl)
  q_InvalidIntervals_InvalidProgram := of_decide_eq_true (c.fact 67 rfl)
  q_InvalidIntervals_InvalidTimes := of_decide_eq_true (c.fact 68 rfl)
  q_InvalidIntervals_InvalidIndex := of_decide_eq_true (c.fact 69 rfl)
  q_InvalidIntervals_InvalidMotion := of_decide_eq_true (c.fact 70 rfl)
  q_InvalidIntervals_InvalidPose := of_decide_eq_true (c.fact 71 rfl)
  q_InvalidIntervals_InvalidPoint := of_decide_eq_true (c.fact 72 rfl)
  q_InvalidIntervals_InvalidEdge := of_decide_eq_true (c.fact 73 rfl)
  q_InvalidIntervals_InvalidIntervals := of_decide_eq_true (c.fact 74 rfl)
  q_InvalidIntervals_NotEven := of_decide_eq_true (c.fact 75 rfl)
  q_InvalidIntervals_InvalidPlace := of_decide_eq_true (c.fact 76 rfl)
  q_InvalidIntervals_NotDrifting := of_decide_eq_true (c.fact 77 rfl)
  q_InvalidIntervals_TooLarge := of_decide_eq_true (c.fact 78 rfl)
  q_InvalidIntervals_VE := of_decide_eq_true (c.fact 79 rfl)
  qa0_InvalidIntervals := of_decide_eq_true (c.fact 80 rfl)
  qa1_InvalidIntervals := of_decide_eq_true (c.fact 81 rfl)
  qa2_InvalidIntervals := of_decide_eq_true (c.fact 82 rfl)
  x_InvalidPlace := He.exc_ok (c.fact 83 rfl)
  e_InvalidPlace := HP.excCB_ok (c.fact 84 rfl)
  pe_InvalidPlace := He.exm_ok (c.fact 85 rfl)
  q_InvalidPlace_InvalidProgram := of_decide_eq_true (c.fact 86 rfl)
  q_InvalidPlace_InvalidTimes := of_decide_eq_true (c.fact 87 rfl)
  q_InvalidPlace_InvalidIndex := of_decide_eq_true (c.fact 88 rfl)
  q_InvalidPlace_InvalidMotion := of_decide_eq_true (c.fact 89 rfl)
  q_InvalidPlace_InvalidPose := of_decide_eq_true (c.fact 90 rfl)
  q_InvalidPlace_InvalidPoint := of_decide_eq_true (c.fact 91 rfl)
  q_InvalidPlace_InvalidEdge := of_decide_eq_true (c.fact 92 rfl)
  q_InvalidPlace_InvalidIntervals := of_decide_eq_true (c.fact 93 rfl)
  q_InvalidPlace_NotEven := of_decide_eq_true (c.fact 94 rfl)
  q_InvalidPlace_InvalidPlace := of_decide_eq_true (c.fact 95 rfl)
  q_InvalidPlace_NotDrifting := of_decide_eq_true (c.fact 96 rfl)
  q_InvalidPlace_TooLarge := of_decide_eq_true (c.fact 97 rfl)
  q_InvalidPlace_VE := of_decide_eq_true (c.fact 98 rfl)
  qa0_InvalidPlace := of_decide_eq_true (c.fact 99 rfl)
  qa1_InvalidPlace := of_decide_eq_true (c.fact 100 rfl)
  qa2_InvalidPlace := of_decide_eq_true (c.fact 101 rfl)
  sm := DQ.sysB_ok (c.fact 102 rfl)
theorem ds_of {K : PySem.W.Frag} (c : HP.SaysA facts fns K) : Nonempty (Ds K) := by
  obtain ⟨f0, p0⟩ := c.def_ 0 (d := dInvalidText_init) rfl
  obtain ⟨f1, p1⟩ := c.def_ 1 (d := dInvalidSource_init) rfl
  obtain ⟨f2, p2⟩ := c.def_ 2 (d := dTooDeep_init) rfl
  obtain ⟨f3, p3⟩ := c.def_ 3 (d := dTooLarge_init) rfl
  obtain ⟨f4, p4⟩ := c.def_ 4 (d := dis_integer) rfl
  obtain ⟨f5, p5⟩ := c.def_ 5 (d := dis_tuple_of) rfl
  obtain ⟨f6, p6⟩ := c.def_ 6 (d := dis_point) rfl
  obtain ⟨f7, p7⟩ := c.def_ 7 (d := dcovered) rfl
  obtain ⟨f8, p8⟩ := c.def_ 8 (d := dodd_covered) rfl
  obtain ⟨f9, p9⟩ := c.def_ 9 (d := ddepth_at) rfl
  obtain ⟨f10, p10⟩ := c.def_ 10 (d := dcount_covered_in) rfl
  obtain ⟨f11, p11⟩ := c.def_ 11 (d := dcount_odd_in) rfl
  obtain ⟨f12, p12⟩ := c.def_ 12 (d := dcount_around) rfl
  obtain ⟨f13, p13⟩ := c.def_ 13 (d := dodd_pieces) rfl
  obtain ⟨f14, p14⟩ := c.def_ 14 (d := dcheck_intervals) rfl
  obtain ⟨f15, p15⟩ := c.def_ 15 (d := d_is_interval) rfl
  obtain ⟨f16, p16⟩ := c.def_ 16 (d := d_law_tank) rfl
  obtain ⟨f17, p17⟩ := c.def_ 17 (d := d_law_dip) rfl
  obtain ⟨f18, p18⟩ := c.def_ 18 (d := d_law_some_spans) rfl
  obtain ⟨f19, p19⟩ := c.def_ 19 (d := d_law_class) rfl
  obtain ⟨f20, p20⟩ := c.def_ 20 (d := d_law_told) rfl
  obtain ⟨f21, p21⟩ := c.def_ 21 (d := d_law_no_intervals) rfl
  obtain ⟨f22, p22⟩ := c.def_ 22 (d := dlaw) rfl
  exact ⟨⟨f0, p0, f1, p1, f2, p2, f3, p3, f4, p4, f5, p5, f6, p6, f7, p7, f8, p8, f9, p9, f10, p10, f11, p11, f12, p12, f13, p13, f14, p14, f15, p15, f16, p16, f17, p17, f18, p18, f19, p19, f20, p20, f21, p21, f22, p22⟩⟩
theorem b_InvalidText_init {K : PySem.W.Frag} (D : Ds K) : Binds K D.fd_InvalidText_init ["self", "index"] [] := D.F_InvalidText_init.bindsN fun _ _ _ _ _ _ us hl => match us, hl with | [_, _], _ => rfl
theorem b_InvalidSource_init {K : PySem.W.Frag} (D : Ds K) : Binds K D.fd_InvalidSource_init ["self", "line", "index"] [] := D.F_InvalidSource_init.bindsN fun _ _ _ _ _ _ us hl => match us, hl with | [_, _, _], _ => rfl
theorem b_TooDeep_init {K : PySem.W.Frag} (D : Ds K) : Binds K D.fd_TooDeep_init ["self", "limit"] [] := D.F_TooDeep_init.bindsN fun _ _ _ _ _ _ us hl => match us, hl with | [_, _], _ => rfl
theorem b_TooLarge_init {K : PySem.W.Frag} (D : Ds K) : Binds K D.fd_TooLarge_init ["self", "limit"] [] := D.F_TooLarge_init.bindsN fun _ _ _ _ _ _ us hl => match us, hl with | [_, _], _ => rfl
theorem b_is_integer {K : PySem.W.Frag} (D : Ds K) : Binds K D.fd_is_integer ["value"] [] := D.F_is_integer.bindsN fun _ _ _ _ _ _ us hl => match us, hl with | [_], _ => rfl
theorem b_is_tuple_of {K : PySem.W.Frag} (D : Ds K) : Binds K D.fd_is_tuple_of ["value", "many"] [] := D.F_is_tuple_of.bindsN fun _ _ _ _ _ _ us hl => match us, hl with | [_, _], _ => rfl
theorem b_is_point {K : PySem.W.Frag} (D : Ds K) : Binds K D.fd_is_point ["value"] [] := D.F_is_point.bindsN fun _ _ _ _ _ _ us hl => match us, hl with | [_], _ => rfl
theorem b_covered {K : PySem.W.Frag} (D : Ds K) : Binds K D.fd_covered ["intervals"] [] := D.F_covered.bindsN fun _ _ _ _ _ _ us hl => match us, hl with | [_], _ => rfl
theorem b_odd_covered {K : PySem.W.Frag} (D : Ds K) : Binds K D.fd_odd_covered ["intervals"] [] := D.F_odd_covered.bindsN fun _ _ _ _ _ _ us hl => match us, hl with | [_], _ => rfl
theorem b_depth_at {K : PySem.W.Frag} (D : Ds K) : Binds K D.fd_depth_at ["intervals", "place"] [] := D.F_depth_at.bindsN fun _ _ _ _ _ _ us hl => match us, hl with | [_, _], _ => rfl
theorem b_count_covered_in {K : PySem.W.Frag} (D : Ds K) : Binds K D.fd_count_covered_in ["intervals"] [] := D.F_count_covered_in.bindsN fun _ _ _ _ _ _ us hl => match us, hl with | [_], _ => rfl
theorem b_count_odd_in {K : PySem.W.Frag} (D : Ds K) : Binds K D.fd_count_odd_in ["intervals"] [] := D.F_count_odd_in.bindsN fun _ _ _ _ _ _ us hl => match us, hl with | [_], _ => rfl
theorem b_count_around {K : PySem.W.Frag} (D : Ds K) : Binds K D.fd_count_around ["intervals", "place"] [] := D.F_count_around.bindsN fun _ _ _ _ _ _ us hl => match us, hl with | [_, _], _ => rfl
theorem b_odd_pieces {K : PySem.W.Frag} (D : Ds K) : Binds K D.fd_odd_pieces ["intervals"] [] := D.F_odd_pieces.bindsN fun _ _ _ _ _ _ us hl => match us, hl with | [_], _ => rfl
theorem b_check_intervals {K : PySem.W.Frag} (D : Ds K) : Binds K D.fd_check_intervals ["intervals"] [] := D.F_check_intervals.bindsN fun _ _ _ _ _ _ us hl => match us, hl with | [_], _ => rfl
theorem b__is_interval {K : PySem.W.Frag} (D : Ds K) : Binds K D.fd__is_interval ["value"] [] := D.F__is_interval.bindsN fun _ _ _ _ _ _ us hl => match us, hl with | [_], _ => rfl
theorem b__law_tank {K : PySem.W.Frag} (D : Ds K) : Binds K D.fd__law_tank ["script", "k"] [] := D.F__law_tank.bindsN fun _ _ _ _ _ _ us hl => match us, hl with | [_, _], _ => rfl
theorem b__law_dip {K : PySem.W.Frag} (D : Ds K) : Binds K D.fd__law_dip ["tank", "bound"] [] := D.F__law_dip.bindsN fun _ _ _ _ _ _ us hl => match us, hl with | [_, _], _ => rfl
theorem b__law_some_spans {K : PySem.W.Frag} (D : Ds K) : Binds K D.fd__law_some_spans ["tank", "most"] [] := D.F__law_some_spans.bindsN fun _ _ _ _ _ _ us hl => match us, hl with | [_, _], _ => rfl
theorem b__law_class {K : PySem.W.Frag} (D : Ds K) : Binds K D.fd__law_class ["caught"] [] := D.F__law_class.bindsN fun _ _ _ _ _ _ us hl => match us, hl with | [_], _ => rfl
theorem b__law_told {K : PySem.W.Frag} (D : Ds K) : Binds K D.fd__law_told ["door", "value", "place"] [] := D.F__law_told.bindsN fun _ _ _ _ _ _ us hl => match us, hl with | [_, _, _], _ => rfl
theorem b__law_no_intervals {K : PySem.W.Frag} (D : Ds K) : Binds K D.fd__law_no_intervals ["tank", "good"] [] := D.F__law_no_intervals.bindsN fun _ _ _ _ _ _ us hl => match us, hl with | [_, _], _ => rfl
theorem b_law {K : PySem.W.Frag} (D : Ds K) : Binds K D.fd_law ["script"] [] := D.F_law.bindsN fun _ _ _ _ _ _ us hl => match us, hl with | [_], _ => rfl
abbrev Rw : PySem.W.OpenRow := PySem.W.OpenLaw.row PySem.Challenge.rw_plotpens_k22_interval_errors
def as0 : List Addr := [3, 6, 4, 24, 44, 63, 82, 101, 113, 125, 137, 149, 161, 173, 185, 197, 209, 221, 233, 245, 257, 269, 281, 293, 305, 317, 329, 341, 353, 365, 377, 389, 401, 410, 417, 424, 431, 438, 445, 452, 457, 462, 467, 472, 479, 486, 493, 500, 507, 514, 519, 524, 0, 23, 43, 62, 81, 100, 112, 124, 136, 148, 160, 172, 184, 196, 208, 220, 232, 244, 256, 268, 280, 292, 304, 316, 328, 340, 352, 364, 376, 388, 400, 409, 416, 423, 430, 437, 444, 451, 456, 461, 466, 471, 478, 485, 492, 499, 506, 513]
def as1 : List Addr := [518, 523, 22, 25, 41, 42, 60, 61, 79, 80, 98, 99, 111, 123, 135, 147, 159, 171, 183, 195, 207, 219, 231, 243, 255, 267, 279, 291, 303, 315, 327, 339, 351, 363, 375, 387, 399, 404, 405, 406, 407, 408, 411, 412, 413, 414, 415, 418, 419, 420, 421, 422, 425, 426, 427, 428, 429, 432, 433, 434, 435, 436, 439, 440, 441, 442, 443, 446, 447, 448, 449, 450, 453, 454, 455, 458, 459, 460, 463, 464, 465, 468, 469, 470, 473, 474, 475, 476, 477, 480, 481, 482, 483, 484, 487, 488, 489, 490, 491, 494]
def as2 : List Addr := [495, 496, 497, 498, 501, 502, 503, 504, 505, 508, 509, 510, 511, 512, 515, 516, 517, 520, 521, 522, 40, 59, 78, 97, 35, 36, 37, 38, 39, 54, 55, 56, 57, 58, 73, 74, 75, 76, 77, 92, 93, 94, 95, 96, 1]
def as_ : List Addr := as0 ++ as1 ++ as2
abbrev hk : PySem.W.Hook := HP.hookL as_ facts fns
def ob (s : PySem.W.SharedT) : HP.Al := HP.obsL as_ facts fns (HandSHeadRun.getT s)
theorem ob_eq (s : PySem.W.SharedT) : ob s = hk.obs s.abs := HP.obsL_eq (HandSHeadRun.getT_eq s)
end K22

set_option Elab.async false
set_option linter.all false
set_option maxRecDepth 100000
set_option maxHeartbeats 0
namespace K22
open PySem PySem.Spec PyProof.Rows L2
theorem rb0 (w : World) : HP.BaseEq Rw (PySem.W.view Rw.prog [52]) 12000 names (w.withFollow "special-get-raises" false) := by
  intro os
  kernel_rfl
theorem rp0_0 (w : World) : HP.PartEq Rw 12000 as_ (fa0 ++ fa1 ++ fa2) [] (w.withFollow "special-get-raises" false) := by
  intro os
  kernel_rfl
theorem rp0_1 (w : World) : HP.PartEq Rw 12000 as_ (fa3 ++ fa4) fns (w.withFollow "special-get-raises" false) := by
  intro os
  kernel_rfl
theorem run0 (w : World) : HandSHeadRun.RunEq Rw (PySem.W.view Rw.prog [52]) hk ob 12000 names (w.withFollow "special-get-raises" false) := HP.run_join (rb0 w) (by
  have e := (rp0_0 w).app (rp0_1 w)
  simp only [List.append_assoc, List.nil_append] at e
  unfold facts
  simp only [List.append_assoc]
  exact e)
theorem rb1 (w : World) : HP.BaseEq Rw (PySem.W.view Rw.prog [52]) 12000 names (w.withFollow "special-get-raises" true) := by
  intro os
  kernel_rfl
theorem rp1_0 (w : World) : HP.PartEq Rw 12000 as_ (fa0 ++ fa1 ++ fa2) [] (w.withFollow "special-get-raises" true) := by
  intro os
  kernel_rfl
theorem rp1_1 (w : World) : HP.PartEq Rw 12000 as_ (fa3 ++ fa4) fns (w.withFollow "special-get-raises" true) := by
  intro os
  kernel_rfl
theorem run1 (w : World) : HandSHeadRun.RunEq Rw (PySem.W.view Rw.prog [52]) hk ob 12000 names (w.withFollow "special-get-raises" true) := HP.run_join (rb1 w) (by
  have e := (rp1_0 w).app (rp1_1 w)
  simp only [List.append_assoc, List.nil_append] at e
  unfold facts
  simp only [List.append_assoc]
  exact e)
theorem run (w : World) : HandSHeadRun.RunEq Rw (PySem.W.view Rw.prog [52]) hk ob 12000 names w := PySem.W.byRow2 "special-get-raises" (P := fun w => HandSHeadRun.RunEq Rw (PySem.W.view Rw.prog [52]) hk ob 12000 names w) run0 run1 w
end K22

set_option Elab.async false
set_option linter.all false
set_option maxRecDepth 100000
set_option maxHeartbeats 4000000
/-! an instance called, by its own __call__; x != y by an own __eq__ -/
namespace PySem.W
open PySem PySem.Spec PySem.Calls PyProof.Rows
theorem rt_callInst {M : Model} {A : Around} {E : Value → Shared → Prop} {s : Shared} {pos : Pos} {x C : Addr} {Q : Value → Shared → Prop} {args : List (Bool × Sem Value)} (plain : (args.any (·.1) || ([] : List (Option Str × Sem Value)).any (·.1.isNone)) = false)
    (h : wpAny M A (evalArgs (.ref x) true args []) (fun a s1 => (∃ ox od, InstAt s1.heap x ox C od ∧ ox.data = .plain) ∧ wpAny M A (call (.ref x) ([] ++ a.pos) a.kw) Q E s1) E s) : wpAny M A (callWith pos (.ref x) [] args []) Q E s := by
  unfold callWith
  refine wpAny_bind (wpAny_holding (wpAny_mono h (fun a s1 h1 => wpAny_bind (wpAny_standAt ?_)) fun _ _ y => y))
  obtain ⟨⟨ox, od, I, hd⟩, go⟩ := h1
  have L := kco_keeper (M := M) I hd
  simp only [plain]
  refine wpAny_bind (L.here (wpAny_bind (wpAny_mono (wpAny_operateT go) (fun r s2 hr => wpAny_bind (wpAny_holding (wpAny_point (wpAny_pure hr)))) fun _ _ y => y)))
/-- x != b where the class has its own __eq__ and object's __ne__: what __eq__ says, turned -/
theorem rt_ne {prog : Program} {w : World} {A : Around} {E : Value → Shared → Prop} {s : Shared} {K : Frag} {x C f : Addr} {ox : Obj} {od : Option Obj} {b tb : Value} {Q : Value → Shared → Prop} (hu : A.units + 1 < cLine) (X : K.In s.heap) (I : InstAt s.heap x ox C od)
    (hb : Looks (model prog w) s.heap (typeOf b) tb) (hn : notFirst K C tb = true) (ne : findIn K (.ref C) "__ne__" = some (some (.builtin "object.__ne__"))) (hm : mroIn K C (.type "object") = some true)
    (eq : findIn K (.ref C) "__eq__" = some (some (.ref f))) (fn : isFn K (.ref f) = true) (h : wpAny (model prog w) A.in1 (call (.ref f) [.ref x, b]) (fun r s' => ∃ k, r = .bool k ∧ Q (.bool (!k)) s') E s) :
    wpAny (model prog w) A (richCompare .NotEq (.ref x) b) Q E s := by
  have inst : Looks (model prog w) s.heap (isInstance (.ref x) (.type "object")) true := I.type.andThen (looks_mroIn X hm)
  have body : wpAny (model prog w) A (call (.builtin "object.__ne__") [.ref x, b]) (fun r s' => ∃ k, r = .bool k ∧ Q (.bool k) s') E s := by
    refine wpAny_call (codeAny_call_builtin F.cmp_object.ne.plain F.cmpEntry_ne (check_slot (owner := "object") (n := "__ne__") F.cmpKind_ne F.cmpSplit_ne inst (F.cmpArgs_ne _ _) ?_))
    unfold Builtin.«object.__ne__»
    refine wpAny_bind (wpAny_of_eq (a := ((Value.ref x : Value), [b])) (by first | rfl | (simp only [slotArgs]; rfl)) ?_)
    refine wpAny_bind (wpAny_cRoomFor hu ?_)
    refine wpAny_bind (ifBound_K X I eq fn (wpAny_mono h (fun r s' z => ?_) fun _ _ z => z))
    obtain ⟨k, rfl, q⟩ := z
    exact wpAny_bind (wpAny_truthy_bool (wpAny_pure ⟨!k, rfl, q⟩))
  have one : wpAny (model prog w) A (tryCompare (.ref x) "__ne__" b) (fun r s' => ∃ v, r = some v ∧ Q v s') E s := by
    unfold tryCompare
    refine wpAny_bind ?_
    simp only [callSpecialIfBound?, bindSpecialIfBound?]
    refine wpAny_holding (wpAny_bind (wpAny_bind (wpAny_bind (I.type.here ((looks_findIn X ne).here ?_)))))
    simp only [F.cmp_object.ne.bind]
    refine wpAny_bind (wpAny_askSetting (wpAny_ite ?_))
    have last : wpAny (model prog w) A (call (.builtin "object.__ne__") ([.ref x] ++ [b]) >>= fun v => pure (some v)) (fun r s' => wpAny (model prog w) A (match r with
        | some .notImplemented | none => pure none
        | some v => pure (some v)) (fun r s' => ∃ v, r = some v ∧ Q v s') E s') E s := by
      refine wpAny_bind (wpAny_mono body (fun r s' z => ?_) fun _ _ z => z)
      obtain ⟨k, rfl, q⟩ := z
      exact wpAny_pure (wpAny_pure ⟨_, rfl, q⟩)
    split
    · exact wpAny_bind (wpAny_pure (wpAny_pure last))
    · exact wpAny_tryCatch (wpAny_bind (wpAny_pure (wpAny_pure last)))
  unfold richCompare
  simp only [oneThing_ref]
  refine wpAny_holding (wpAny_bind (wpAny_cRoomFor (by omega) ?_))
  refine wpAny_bind (I.type.here (wpAny_bind (hb.here ?_)))
  have out : ∀ {g : Option Value → Sem Value}, (∀ v, g (some v) = pure v) → wpAny (model prog w) A (tryCompare (.ref x) "__ne__" b >>= g) Q E s := fun {g} hg => wpAny_bind (wpAny_mono one (fun r s' z => by
    obtain ⟨v, rfl, q⟩ := z
    rw [hg]
    exact wpAny_pure q) fun _ _ z => z)
  split
  · rename_i q
    have e : subIn K tb (.ref C) = some false := by
      rcases Bool.or_eq_true_iff.mp hn with e | e
      · rw [beq_iff_eq.mp e] at q
        simp at q
      · exact beq_iff_eq.mp e
    refine wpAny_bind ((looks_subIn X e).here ?_)
    simp only [Bool.false_eq_true, if_false]
    exact out fun v => rfl
  · refine wpAny_bind (wpAny_pure ?_)
    simp only [Bool.false_eq_true, if_false]
    exact out fun v => rfl
end PySem.W
namespace RT
open PySem PySem.Spec PyProof.Rows L2
section
variable {X : Cx} {CX : CXT} {k i : Nat} {C f : Addr} {fd : FuncData} {ps : List Str} {sp : Sp} {E : XK} {x : Str} {p pos : Pos} {e : Expr} {es : List Expr} {t : TA}
/-- x(e, ..), x a local name that holds an instance of the class at C -/
def tCallO (i : Nat) (C : Addr) (sp : Sp) (E : XK) (t : TA) : TE := fun σ H Q => ∃ a, σ[i]? = some (some (.ref a)) ∧ t σ H fun vs H1 => (∃ dx fs, H1 a = some (.ins C dx fs)) ∧ sp (.ref a :: vs) H1 Q E
theorem pe_callO (hm : Meth X.K C "__call__" f) (hfn : PySem.W.fnIn X.K f = true) (F : FnOk X.prog X.w X.K X.mg X.base CX k f fd ps sp) (hr : Room k X.A) (hN : X.N[i]? = some x) (hv : Vis X.env.scope x) (hb : Binds X.K fd ps []) (hx : Passes CX X E) (ha : PA X (e :: es) t)
    (hdb : (x == ("__debug__" : Str)) = false := by decide) (hcd : (x == ("__classdict__" : Str)) = false := by decide)
    (he : starEach (e :: es) X.env = (false, eval e X.env) :: starEach es X.env := by rfl) (hpl : (backTo pos (starEach es X.env)).any (·.1) = false := by rfl) : PE X (.Call (.Name x p) (e :: es) [] pos) (tCallO i C sp E t) := by
  refine ⟨fun pins s σ H Q I h => ?_⟩
  obtain ⟨a, at_, ht⟩ := h
  refine wpAny_Call_Name_kw (thn ((pe_var (pos := p) hN hv hdb hcd).run pins s σ H (fun v H1 => v = .ref a ∧ H1 = H) I ⟨.ref a, at_, rfl, rfl⟩) fun u s1 ⟨v, H1, I1, r1, q1⟩ => ?_)
  obtain ⟨rfl, rfl⟩ := q1
  cases (show u = Value.ref a from r1)
  rw [he]
  refine PySem.W.rt_callInst (C := C) (by show ((false || (backTo pos (starEach es X.env)).any (·.1)) || false) = false; rw [hpl]; rfl) (Calls.evalArgs_plain ?_)
  have ha' : wpAny (model X.prog X.w) X.A (spliced (backTo pos (starEach (e :: es) X.env))) (AP X pins σ _) X.xe s1 := ha.run pos pins s1 σ _ _ I1 ht
  rw [he] at ha'
  refine thn ha' fun us s2 ⟨vs, H2, I2, r, ⟨dx, fs, ea⟩, q⟩ => ?_
  obtain ⟨mA, O, _⟩ := ins_get I2.hok ea
  obtain ⟨od, J, _⟩ := O.look
  refine ⟨⟨_, some od, J, rfl⟩, ?_⟩
  have r2 : Vals (.ref a :: vs) (.ref a :: us) := .cons rfl r
  have hl : (Value.ref a :: us).length = ps.length := r2.length.symm.trans (F.len _ _ _ _ q)
  have bd := hb s2 (.ref a :: us) I2.kIn (by simpa using hl)
  rw [List.append_nil] at bd
  refine wpAny_call (PySem.W.kco_code I2.kIn J rfl hm.at_ hm.fn hfn (codeAny_mono (F.run X.A X.stack s2 H2 ⟨.ref a :: us, []⟩ (.ref a :: us) (.ref a :: vs) Q E hr I2.env0 bd r2 q) fun r s' hq => ?_))
  match r, hq with
  | .error e, hq => exact hx pins σ H2 s2 e s' I2 hq
  | .ok (.ret u), hq => exact I2.after hq
/-- x != y by x's own __eq__ -/
def rNeO (K : PySem.W.Frag) (C : Addr) (sp : Sp) (E : XK) : R2 := fun x y H Q => ∃ a dx fs t, x = .ref a ∧ H a = some (.ins C dx fs) ∧ ((∃ b dy gs, y = .ref b ∧ H b = some (.ins C dy gs) ∧ t = .ref C) ∨ TyY K H y t) ∧ PySem.W.notFirst K C t = true ∧
  sp [x, y] H (fun v H' => ∃ k, v = .bl k ∧ Q (.bl (!k)) H') E
theorem op_neO (hne : PySem.W.findIn X.K (.ref C) "__ne__" = some (some (.builtin "object.__ne__"))) (hmr : PySem.W.mroIn X.K C (.type "object") = some true) (hm : Meth X.K C "__eq__" f) (F : FnOk X.prog X.w X.K X.mg X.base CX k f fd ps sp) (hr : Room (k + 1) X.A) (hb : Binds X.K fd ps []) (hx : Passes CX X E) :
    OpR X (compareOp .NotEq) (rNeO X.K C sp E) := by
  intro pins s σ H x y v u Q I rx ry h
  obtain ⟨a, dx, fs, t, rfl, ea, ty, hn, q⟩ := h
  cases (show v = Value.ref a from rx)
  obtain ⟨mA, O, _⟩ := ins_get I.hok ea
  obtain ⟨od, J, _⟩ := O.look
  have L : PySem.W.Looks (model X.prog X.w) s.heap (typeOf u) t := by
    rcases ty with ⟨b, dy, gs, rfl, eb, rfl⟩ | ty
    · cases (show u = Value.ref b from ry)
      obtain ⟨mB, O', _⟩ := ins_get I.hok eb
      obtain ⟨od', J', _⟩ := O'.look
      exact J'.type
    · obtain ⟨P, Z, p, _⟩ := kit_ofY I ry ty
      exact Z.ty _ _ I.kIn p
  show wpAny _ _ (richCompare .NotEq (.ref a) u) _ _ _
  have r2 : Vals [V.ref a, y] [Value.ref a, u] := .cons rfl (.cons ry .nil)
  have hl : ([Value.ref a, u] : List Value).length = ps.length := r2.length.symm.trans (F.len _ _ _ _ q)
  have bd := hb s [.ref a, u] I.kIn (by simpa using hl)
  rw [List.append_nil] at bd
  refine PySem.W.rt_ne (tb := t) (by have := hr.units; omega) I.kIn J L hn hne hmr hm.at_ hm.fn (wpAny_call (codeAny_mono (F.run X.A.in1 X.stack s H ⟨[.ref a, u], []⟩ [.ref a, u] [.ref a, y] _ E hr.in1 I.env0.in1 bd r2 q) fun r s' hq => ?_))
  match r, hq with
  | .error e, hq => exact hx pins σ H s e s' I hq
  | .ok (.ret z), hq =>
    obtain ⟨v, H', I', rv, b, rfl, qz⟩ := I.after hq
    cases (show z = Value.bool b from rv)
    exact ⟨b, rfl, .bl (!b), H', I', rfl, qz⟩
end
end RT

set_option Elab.async false
set_option linter.all false
set_option maxRecDepth 100000
set_option maxHeartbeats 4000000
set_option exponentiation.threshold 600
namespace K22
open PySem PySem.Spec PyProof.Rows L2 RT
theorem same_new {H : Hp} {p : Addr} {o : HO} (h : H p = none) : Same H (upd H p o) := fun b x e => by
  rw [upd_ne (ne_of_none e h)]
  exact e
theorem Same.sqt {K : PySem.W.Frag} {H H' : Hp} {a : Addr} {xs : List V} (e : Same H H') (h : SqT K H a xs) : SqT K H' a xs := by
  rcases h with (h | ⟨o, h⟩) | h
  · exact .inl (.inl (e _ _ h))
  · exact .inl (.inr ⟨o, e _ _ h⟩)
  · exact .inr h
theorem tupT {K : PySem.W.Frag} {H : Hp} {a : Addr} {xs : List V} (h : H a = some (.tup xs)) : SqT K H a xs := .inl (.inl h)
theorem lstL {K : PySem.W.Frag} {H : Hp} {a : Addr} {xs : List V} (h : H a = some (.lst xs)) : SqL K H a xs := .inl (.inl h)
/-- all but the list at t is as it was -/
def Keep (t : Addr) (H H' : Hp) : Prop := ∀ b o, b ≠ t → H b = some o → H' b = some o
theorem Keep.refl (t : Addr) (H : Hp) : Keep t H H := fun _ _ _ h => h
theorem Keep.trans {t : Addr} {H H1 H2 : Hp} (a : Keep t H H1) (b : Keep t H1 H2) : Keep t H H2 := fun c o n h => b c o n (a c o n h)
theorem Same.keep {t : Addr} {H H' : Hp} (e : Same H H') : Keep t H H' := fun b o _ h => e b o h
theorem keep_upd {t : Addr} {H : Hp} {o : HO} : Keep t H (upd H t o) := fun b u n h => by
  rw [upd_ne n]
  exact h
/-- the state of a cell's draws: digits, a number, a counter -/
def Tk (H : Hp) (t : Addr) (c : Nat) : Prop := ∃ A B : Int, H t = some (.lst [.int A, .int B, .int c]) ∧ 0 ≤ A ∧ 0 ≤ B ∧ B < 10000000000000000000000000000000000000000
theorem Tk.same {H H' : Hp} {t : Addr} {c : Nat} (h : Tk H t c) (e : Same H H') : Tk H' t c := by
  obtain ⟨A, B, h1, h2⟩ := h
  exact ⟨A, B, e _ _ h1, h2⟩
theorem p18 : (10 : Int) ^ ((18 : Int).toNat) = 1000000000000000000 := by decide
theorem p39 : (10 : Int) ^ ((39 : Int).toNat) = 1000000000000000000000000000000000000000 := by decide
theorem p42 : (10 : Int) ^ ((42 : Int).toNat) = 1000000000000000000000000000000000000000000 := by decide
theorem p41 : (10 : Int) ^ ((41 : Int).toNat) = 100000000000000000000000000000000000000000 := by decide
theorem pw_ok {j : Int} (h0 : 0 ≤ j) (h : j ≤ 1000000) : CPow 10 j := ⟨h0, h, by decide⟩
theorem bits_le {i : Int} {n : Nat} (hn : 0 < n) (h : i.natAbs < 2 ^ n) : Builtin.Int.intBits i ≤ n := by
  have h2 := PySem.Flt.log2_lt_of hn h
  unfold Builtin.Int.intBits
  split <;> omega
theorem cube_ok {i : Int} (h0 : 0 ≤ i) (h : i < 2 ^ 200) : CPowW i 3 := by
  have b : Builtin.Int.intBits i ≤ 200 := bits_le (by decide) (by omega)
  refine ⟨by decide, ?_⟩
  have e : ((Builtin.Int.intBits i : Nat) : Int) ≤ 200 := by omega
  omega
section
variable {P : Program} {w : World} {K : PySem.W.Frag} {mg : Str → Option Value} {base : Heap}
def spTank (K : PySem.W.Frag) : Sp := fun vs H Q _ => ∃ (a : Addr) (ns : List Int) (k : Nat), vs = [.ref a, .int k] ∧ SqL K H a (ns.map V.int) ∧ k ≤ 100 ∧ ∀ t H', Same H H' → H t = none → Tk H' t 0 → Q (.ref t) H'
theorem ok_tank (D : Ds K) (T : Tx K mg) : FnOk P w K mg base CX0 1 (d_law_tank.adr K) D.fd__law_tank ["script", "k"] (spTank K) := by
  refine D.F__law_tank.ok sc_law_tank (fun vs H Q E h => ?_) (fun cdv A outer s H vs Q E hr h => ?_)
  · obtain ⟨a, ns, k, rfl, _⟩ := h
    rfl
  · obtain ⟨a, ns, k, rfl, hS, hk, q⟩ := h
    have nd := sc_law_tank.nd
    refine ⟨_, PSs.nox (pss_cons (ps_set (i := 2) nd rfl (.inl rfl) pe_int)
      (pss_cons (ps_if (pt_cmpR op_lt (pv 1) (pe_callB call_len_seq (by rfl) T.z_len PySem.boot_len (pa_cons (pv 0) pa_nil)) (nomark _)) (pss_one (ps_set (i := 2) nd rfl (.inl rfl) (pe_ix ix_list (pv 0) (pv 1) (fun _ _ => rfl)))) pss_nil)
      (pss_one (ps_ret (pe_lst (pa_cons (pe_callB (call_max2 rfl) (by rfl) T.z_max (by decide +kernel) (pa_cons pe_int (pa_cons (pe_op op_sub (pv 2) (pe_op op_pow pe_int pe_int)) pa_nil)))
        (pa_cons (pe_op op_add (pe_op op_add (pe_op op_mod (pv 2) (pe_op op_add (pe_op op_pow pe_int pe_int) pe_int)) (pe_op op_mul pe_int (pv 1))) pe_int) (pa_cons pe_int pa_nil)))))))), ?_⟩
    refine ⟨_, rfl, _, rfl, a, _, rfl, .inl hS, _, _, rfl, rfl, _, rfl, ite2 (fun e => ?_) (fun e => ?_)⟩
    · have hk2 : k < ns.length := by
        have e2 := of_decide_eq_true e
        rw [List.length_map] at e2
        omega
      have g : (ns.map V.int)[k]? = some (.int ns[k]) := by
        rw [List.getElem?_map, List.getElem?_eq_getElem hk2]
        rfl
      refine ⟨_, rfl, _, rfl, a, _, _, _, rfl, rfl, hS, atI_nat g, ?_⟩
      refine ⟨_, rfl, _, _, rfl, rfl, pw_ok (by decide) (by decide), _, _, rfl, rfl, _, _, rfl, ?_⟩
      refine ⟨_, rfl, _, _, rfl, rfl, pw_ok (by decide) (by decide), _, _, rfl, rfl, _, _, rfl, rfl, (by show (0 : Int) < _; rw [p39]; decide), _, rfl, _, _, rfl, rfl, .inl ⟨by decide, by decide⟩, _, _, rfl, rfl, _, _, rfl, rfl, by show 3 ≤ sizeLine; decide, fun p hp => ?_⟩
      refine q p _ (same_new hp) hp ⟨_, _, upd_same, ?_, ?_⟩
      · split <;> omega
      · rw [p39]
        omega
    · refine ⟨_, rfl, _, _, rfl, rfl, pw_ok (by decide) (by decide), _, _, rfl, rfl, _, _, rfl, ?_⟩
      refine ⟨_, rfl, _, _, rfl, rfl, pw_ok (by decide) (by decide), _, _, rfl, rfl, _, _, rfl, rfl, (by show (0 : Int) < _; rw [p39]; decide), _, rfl, _, _, rfl, rfl, .inl ⟨by decide, by decide⟩, _, _, rfl, rfl, _, _, rfl, rfl, by show 3 ≤ sizeLine; decide, fun p hp => ?_⟩
      refine q p _ (same_new hp) hp ⟨_, _, upd_same, ?_, ?_⟩
      · split <;> omega
      · rw [p39]
        omega
def spDip : Sp := fun vs H Q _ => ∃ (t : Addr) (b : Int) (c : Nat), vs = [.ref t, .int b] ∧ Tk H t c ∧ c ≤ 100000 ∧ 1 ≤ b ∧ b ≤ 2 ^ 330 ∧
  ∀ (v : Int) (c' : Nat) H', Keep t H H' → Tk H' t c' → c ≤ c' → c' ≤ c + 1 → 0 ≤ v → v < b → Q (.int v) H'
theorem ok_dip (D : Ds K) (T : Tx K mg) : FnOk P w K mg base CX0 1 (d_law_dip.adr K) D.fd__law_dip ["tank", "bound"] spDip := by
  refine D.F__law_dip.ok sc_law_dip (fun vs H Q E h => ?_) (fun cdv A outer s H vs Q E hr h => ?_)
  · obtain ⟨t, b, c, rfl, _⟩ := h
    rfl
  · obtain ⟨t, b, c, rfl, ⟨A1, B, et, hA, hB, hB2⟩, hc, hb, hb2, q⟩ := h
    have nd := sc_law_dip.nd
    refine ⟨_, PSs.nox (pss_cons (ps_if (pt_cmpR op_gt (pe_ix ix_list (pv 0) pe_int (fun _ _ => rfl)) pe_int (nomark _))
        (pss_cons (ps_set (i := 2) nd rfl (.inl rfl) (pe_op op_mod (pe_ix ix_list (pv 0) pe_int (fun _ _ => rfl)) (pv 1)))
          (pss_cons (ps_asg (pe_op op_fdivW (pe_ix ix_list (pv 0) pe_int (fun _ _ => rfl)) (pv 1)) (pg_sub (pv 0) pe_int set_list)) (pss_one (ps_ret (pv 2))))) pss_nil)
      (pss_cons (ps_asg (pe_op op_add (pe_ix ix_list (pv 0) pe_int (fun _ _ => rfl)) pe_int) (pg_sub (pv 0) pe_int set_list))
      (pss_cons (ps_set (i := 3) nd rfl (.inl rfl) (pe_op op_mod (pe_op op_powW (pe_op op_add (pe_ix ix_list (pv 0) pe_int (fun _ _ => rfl)) (pe_op op_mul pe_int (pe_ix ix_list (pv 0) pe_int (fun _ _ => rfl)))) pe_int) (pe_op op_add (pe_op op_pow pe_int pe_int) pe_int)))
      (pss_cons (ps_set (i := 3) nd rfl (.inl rfl) (pe_op op_mod (pe_op op_powW (pe_op op_add (pv 3) (pe_op op_mul pe_int (pe_ix ix_list (pv 0) pe_int (fun _ _ => rfl)))) pe_int) (pe_op op_add (pe_op op_pow pe_int pe_int) pe_int)))
      (pss_one (ps_ret (pe_op op_mod (pe_op op_fdivW (pv 3) pe_int) (pv 1)))))))), ?_⟩
    have g0 : atI [V.int A1, V.int B, V.int c] 0 = some (.int A1) := atI_nat (j := 0) rfl
    refine ⟨_, rfl, t, _, 0, _, rfl, rfl, lstL et, g0, _, _, rfl, rfl, _, rfl, ite2 (fun e => ?_) (fun e => ?_)⟩
    · have e0 : 0 < A1 := of_decide_eq_true e
      refine ⟨_, rfl, t, _, 0, _, rfl, rfl, lstL et, g0, _, rfl, _, _, rfl, rfl, hb, ?_⟩
      refine ⟨_, rfl, t, _, 0, _, rfl, rfl, lstL et, g0, _, rfl, _, _, rfl, rfl, wide_div (b := 331) (by omega) (by omega) (by decide) (by decide), ?_⟩
      refine ⟨_, rfl, t, _, 0, 0, rfl, rfl, et, rfl, _, rfl, ?_⟩
      exact q _ c _ keep_upd ⟨_, B, upd_same, Int.ediv_nonneg hA (by omega), hB, hB2⟩ (Nat.le_refl _) (by omega) (Int.emod_nonneg _ (by omega)) (Int.emod_lt_of_pos _ (by omega))
    · have g2 : atI [V.int A1, V.int B, V.int c] 2 = some (.int c) := atI_nat (j := 2) rfl
      refine ⟨_, rfl, t, _, 2, _, rfl, rfl, lstL et, g2, _, _, rfl, rfl, _, rfl, t, _, 2, 2, rfl, rfl, et, rfl, ?_⟩
      have et2 : upd H t (.lst ([V.int A1, V.int B, V.int c].set 2 (.int ((c : Int) + 1)))) t = some (.lst [.int A1, .int B, .int ((c : Int) + 1)]) := upd_same
      have k1 : atI [V.int A1, V.int B, V.int ((c : Int) + 1)] 1 = some (.int B) := atI_nat (j := 1) rfl
      have k2 : atI [V.int A1, V.int B, V.int ((c : Int) + 1)] 2 = some (.int ((c : Int) + 1)) := atI_nat (j := 2) rfl
      refine ⟨_, rfl, t, _, 1, _, rfl, rfl, lstL et2, k1, _, rfl, t, _, 2, _, rfl, rfl, lstL et2, k2, _, _, rfl, rfl, .inl ⟨by decide, by decide⟩, _, _, rfl, rfl, _, _, rfl, rfl, cube_ok (by omega) (by omega), _, _, rfl, rfl, pw_ok (by decide) (by decide), _, _, rfl, rfl, _, _, rfl, rfl, (by show (0 : Int) < _; rw [p42]; decide), ?_⟩
      have m0 : 0 ≤ (B + 86028157 * ((c : Int) + 1)) ^ (3 : Int).toNat % (10 ^ (42 : Int).toNat + 63) := Int.emod_nonneg _ (by rw [p42]; decide)
      have m1 : (B + 86028157 * ((c : Int) + 1)) ^ (3 : Int).toNat % (10 ^ (42 : Int).toNat + 63) < 1000000000000000000000000000000000000000063 := by
        rw [p42]
        exact Int.emod_lt_of_pos _ (by decide)
      refine ⟨_, rfl, _, rfl, t, _, 2, _, rfl, rfl, lstL et2, k2, _, _, rfl, rfl, .inl ⟨by decide, by decide⟩, _, _, rfl, rfl, _, _, rfl, rfl, cube_ok (by omega) (by omega), _, _, rfl, rfl, pw_ok (by decide) (by decide), _, _, rfl, rfl, _, _, rfl, rfl, (by show (0 : Int) < _; rw [p41]; decide), ?_⟩
      refine ⟨_, rfl, _, _, rfl, rfl, wide_div (b := 200) (by decide) (by decide) (by decide) (by decide), _, rfl, _, _, rfl, rfl, hb, ?_⟩
      exact q _ (c + 1) _ keep_upd ⟨A1, B, by rw [et2]; rfl, hA, hB, hB2⟩ (by omega) (Nat.le_refl _) (Int.emod_nonneg _ (by omega)) (Int.emod_lt_of_pos _ (by omega))
end
end K22

set_option Elab.async false
set_option linter.all false
set_option maxRecDepth 100000
set_option maxHeartbeats 4000000
/-! slices of lists with a step -/
namespace RT
open PySem PySem.Spec PyProof.Rows L2
def pickV (xs : List V) (lo hi st : Option Int) : List V :=
  (sliceRange (sliceBounds lo hi st xs.length).1 (sliceBounds lo hi st xs.length).2.1 (sliceBounds lo hi st xs.length).2.2).filterMap fun i => xs[i]?
theorem pick_vals {xs : List V} {us : List Value} (r : Vals xs us) : ∀ l : List Nat, Vals (l.filterMap fun i => xs[i]?) (l.filterMap fun i => us[i]?)
  | [] => .nil
  | i :: l => by
    have ih := pick_vals r l
    cases e : xs[i]? with
    | none =>
      have e2 := r.none_of e
      rw [List.filterMap_cons_none (by exact e), List.filterMap_cons_none (by exact e2)]
      exact ih
    | some x =>
      obtain ⟨u, e2, ru⟩ := r.get e
      rw [List.filterMap_cons_some (by exact e), List.filterMap_cons_some (by exact e2)]
      exact .cons ru ih
def tPick (K : PySem.W.Frag) (to : TE) (tl th ts : TO) : TE := fun σ H Q => to σ H fun x H1 => ∃ (a : Addr) (xs : List V), x = .ref a ∧ tl σ H1 fun l H2 => th σ H2 fun u H3 => ts σ H3 fun o H4 => o ≠ some 0 ∧ SqL K H4 a xs ∧ ∀ p, H4 p = none → Q (.ref p) (upd H4 p (.lst (pickV xs l u o)))
section
variable {X : Cx} {e st : Expr} {lo hi : Option Expr} {to : TE} {tl th ts : TO} {p2 pos : Pos}
/-- xs[lo:hi:st] -/
theorem pe_step (ho : PE X e to) (hl : PO X lo tl) (hh : PO X hi th) (hs : PO X (some st) ts) : PE X (.Subscript e (.Slice lo hi (some st) p2) pos) (tPick X.K to tl th ts) := by
  refine ⟨fun pins s σ H Q I h => ?_⟩
  refine Subscript_ (thn (ho.run pins s σ H _ I h) fun v s1 ⟨x, H1, I1, r1, a, xs, ex, q1⟩ => ?_)
  subst ex
  obtain rfl : v = Value.ref a := r1
  refine wpAny_Slice (thn (hl.run pins s1 σ H1 _ I1 q1) fun vl s2 ⟨l, H2, I2, pl, q2⟩ => thn (hh.run pins s2 σ H2 _ I2 q2) fun vu s3 ⟨u, H3, I3, pu, q3⟩ => thn (hs.run pins s3 σ H3 _ I3 q3) fun vs s4 ⟨o, H4, I4, ps, h0, hx, q⟩ => ?_)
  have I5 : Inv X pins σ H4 { s4 with heap := s4.heap.push { cls := .type "slice", data := .fields #[vl, vu, vs] } } :=
    I4.kept (t' := s4.toks) fun _ _ w => Heap.get?_push_of_some _ w
  obtain ⟨its, r, ht, hz⟩ := I5.list hx
  have le : its.length ≤ sizeLine := by rw [← r.length]; exact hz
  refine tail_any (ops := [.ref a, .ref s4.heap.objs.size]) ht.isList.typeIs PySem.slot_list_getitem.lookup ?_ (by with_unfolding_all rfl)
  refine wpAny_getItem_list_slice ht.isList (Heap.IsSliceOf.new _ vl vu vs) pl pu ps h0 ?_ (by rw [List.size_toArray]; exact le)
  have e1 : slicePick its.toArray l u o = ((sliceRange (sliceBounds l u o xs.length).1 (sliceBounds l u o xs.length).2.1 (sliceBounds l u o xs.length).2.2).filterMap fun i => its[i]?).toArray := by
    unfold slicePick
    rw [List.size_toArray, r.length]
    have ef : (fun x => its.toArray[x]?) = fun i => its[i]? := funext fun i => List.getElem?_toArray
    rw [ef]
  have lz : (pickV xs l u o).length ≤ sizeLine := by
    have h1 := (pick_vals r (sliceRange (sliceBounds l u o xs.length).1 (sliceBounds l u o xs.length).2.1 (sliceBounds l u o xs.length).2.2)).length
    have h2 := slicePick_size_le its.toArray l u o
    rw [e1, List.size_toArray, List.size_toArray, ← h1] at h2
    exact Nat.le_trans h2 le
  refine ⟨.ref _, _, I5.laid (t' := s4.toks) (o := .lst (pickV xs l u o)) (fun _ _ w => Heap.get?_push_of_some _ w) (Nat.le_refl _) ?_, rfl, q _ (I5.hok.fresh (Nat.le_refl _))⟩
  rw [e1]
  exact ⟨lz, _, 0, pick_vals r _, Heap.get?_push_size _ rfl⟩
end
/-- each second one -/
def ev {α : Type} : List α → List α
  | [] => []
  | [x] => [x]
  | x :: _ :: r => x :: ev r
theorem pick_ev (xs : List V) : pickV xs none none (some 2) = ev xs := by
  have gen : ∀ (m : Nat) (ys zs : List V), ys.length ≤ m → (List.range ((ys.length + 1) / 2)).filterMap (fun i => (zs ++ ys)[zs.length + 2 * i]?) = ev ys := by
    intro m
    induction m with
    | zero =>
      intro ys zs h
      have : ys = [] := List.length_eq_zero_iff.mp (by omega)
      subst this
      rfl
    | succ m ih =>
      intro ys zs h
      match ys, h with
      | [], _ => rfl
      | [x], _ =>
        have e1 : ([x].length + 1) / 2 = 1 := by simp
        rw [e1, show List.range 1 = [0] from rfl]
        simp [ev]
      | x :: y :: r, h =>
        have e1 : ((x :: y :: r).length + 1) / 2 = (r.length + 1) / 2 + 1 := by simp only [List.length_cons]; omega
        rw [e1, List.range_succ_eq_map, List.filterMap_cons_some (b := x) (by simp), List.filterMap_map]
        show x :: _ = x :: ev r
        congr 1
        have h2 := ih r (zs ++ [x, y]) (by simp only [List.length_cons] at h; omega)
        rw [← h2]
        congr 1
        funext i
        show (zs ++ x :: y :: r)[zs.length + 2 * (i + 1)]? = ((zs ++ [x, y]) ++ r)[(zs ++ [x, y]).length + 2 * i]?
        rw [List.append_assoc]
        have e2 : (zs ++ [x, y]).length = zs.length + 2 := by simp
        rw [e2, show zs.length + 2 * (i + 1) = zs.length + 2 + 2 * i by omega]
        rfl
  have h := gen xs.length xs [] (Nat.le_refl _)
  rw [← h]
  unfold pickV
  show (sliceRange 0 (xs.length : Int) 2).filterMap _ = _
  unfold sliceRange
  rw [if_pos (by decide : (2 : Int) > 0)]
  have ec : (if (0 : Int) < (xs.length : Int) then ((xs.length : Int) - 0 + 2 - 1) / 2 else 0).toNat = (xs.length + 1) / 2 := by
    split <;> omega
  dsimp only
  rw [ec, List.filterMap_map]
  refine congrArg (fun f => List.filterMap f (List.range ((xs.length + 1) / 2))) ?_
  funext i
  show xs[((0 : Int) + 2 * (i : Int)).toNat]? = _
  rw [show ((0 : Int) + 2 * (i : Int)).toNat = 2 * i by omega]
  simp
theorem ev_map {α β : Type} (f : α → β) : ∀ xs : List α, ev (xs.map f) = (ev xs).map f
  | [] => rfl
  | [_] => rfl
  | x :: y :: r => by
    show f x :: ev (r.map f) = f x :: (ev r).map f
    rw [ev_map f r]
end RT

set_option linter.all false
set_option maxRecDepth 100000
set_option maxHeartbeats 4000000
/-! integers held by intervals; windows -/
namespace SM
open RT
abbrev Iv := Int × Int
/-- how many of lo, lo + 1, .., lo + n - 1 -/
def cnt (f : Int → Bool) (lo : Int) : Nat → Nat
  | 0 => 0
  | n + 1 => cnt f lo n + (if f (lo + n) then 1 else 0)
theorem cnt_add (f : Int → Bool) (lo : Int) (n : Nat) : ∀ m, cnt f lo (n + m) = cnt f lo n + cnt f (lo + n) m
  | 0 => rfl
  | m + 1 => by
    show cnt f lo (n + m) + (if f (lo + ((n + m : Nat) : Int)) = true then 1 else 0) = cnt f lo n + (cnt f (lo + n) m + (if f (lo + (n : Int) + (m : Int)) = true then 1 else 0))
    rw [cnt_add f lo n m, show lo + ((n + m : Nat) : Int) = lo + (n : Int) + (m : Int) by omega]
    omega
theorem cnt_congr {f g : Int → Bool} {lo : Int} : ∀ {n : Nat}, (∀ x, lo ≤ x → x < lo + n → f x = g x) → cnt f lo n = cnt g lo n
  | 0, _ => rfl
  | n + 1, h => by
    show cnt f lo n + _ = cnt g lo n + _
    rw [cnt_congr fun x h1 h2 => h x h1 (by omega), h (lo + n) (by omega) (by omega)]
theorem cnt_all {f : Int → Bool} {lo : Int} : ∀ {n : Nat}, (∀ x, lo ≤ x → x < lo + n → f x = true) → cnt f lo n = n
  | 0, _ => rfl
  | n + 1, h => by
    show cnt f lo n + _ = n + 1
    rw [cnt_all fun x h1 h2 => h x h1 (by omega), h (lo + n) (by omega) (by omega)]
    rfl
theorem cnt_none {f : Int → Bool} {lo : Int} : ∀ {n : Nat}, (∀ x, lo ≤ x → x < lo + n → f x = false) → cnt f lo n = 0
  | 0, _ => rfl
  | n + 1, h => by
    show cnt f lo n + _ = 0
    rw [cnt_none fun x h1 h2 => h x h1 (by omega), h (lo + n) (by omega) (by omega)]
    rfl
theorem cnt_le (f : Int → Bool) (lo : Int) : ∀ n, cnt f lo n ≤ n
  | 0 => Nat.le_refl _
  | n + 1 => by
    have h := cnt_le f lo n
    show cnt f lo n + _ ≤ n + 1
    split <;> omega
theorem cnt_not (f : Int → Bool) (lo : Int) : ∀ n, cnt (fun x => !f x) lo n + cnt f lo n = n
  | 0 => rfl
  | n + 1 => by
    have h := cnt_not f lo n
    show (cnt (fun x => !f x) lo n + (if (!f (lo + n)) = true then 1 else 0)) + (cnt f lo n + (if f (lo + n) = true then 1 else 0)) = n + 1
    cases f (lo + n) <;> simp <;> omega
theorem cnt_xor (f g : Int → Bool) (lo : Int) : ∀ n, (cnt f lo n + cnt g lo n) % 2 = cnt (fun x => xor (f x) (g x)) lo n % 2
  | 0 => rfl
  | n + 1 => by
    have h := cnt_xor f g lo n
    show ((cnt f lo n + (if f (lo + n) = true then 1 else 0)) + (cnt g lo n + (if g (lo + n) = true then 1 else 0))) % 2 = (cnt (fun x => xor (f x) (g x)) lo n + (if xor (f (lo + n)) (g (lo + n)) = true then 1 else 0)) % 2
    cases f (lo + n) <;> cases g (lo + n) <;> simp <;> omega
theorem cnt_shift (f : Int → Bool) (lo d : Int) : ∀ n, cnt f (lo + d) n = cnt (fun x => f (x + d)) lo n
  | 0 => rfl
  | n + 1 => by
    show cnt f (lo + d) n + _ = cnt _ lo n + _
    rw [cnt_shift f lo d n, show lo + d + (n : Int) = lo + n + d by omega]
/-- how many intervals hold x -/
def held : List Iv → Int → Nat
  | [], _ => 0
  | p :: L, x => held L x + (if p.1 ≤ x ∧ x < p.2 then 1 else 0)
def pos (L : List Iv) (x : Int) : Bool := decide (0 < held L x)
def odd (L : List Iv) (x : Int) : Bool := decide (held L x % 2 = 1)
def Within (L : List Iv) (lo : Int) (n : Nat) : Prop := ∀ p ∈ L, lo ≤ p.1 ∧ p.2 ≤ lo + n
def CovOf (L : List Iv) (v : Int) : Prop := ∀ lo n, Within L lo n → v = (cnt (pos L) lo n : Int)
def OddOf (L : List Iv) (v : Int) : Prop := ∀ lo n, Within L lo n → v = (cnt (odd L) lo n : Int)
/-- windows of one length -/
def win (len : Int) (ns : List Int) : List Iv := ns.map fun a => (a, a + len)
/-- how many of the numbers are at most y -/
def upto : List Int → Int → Nat
  | [], _ => 0
  | a :: l, y => upto l y + (if a ≤ y then 1 else 0)
def gaps : List Int → List Int
  | [] => []
  | [_] => []
  | a :: b :: l => (b - a) :: gaps (b :: l)
def Asc (ns : List Int) : Prop := ns.Pairwise (· < ·)
def last : Int → List Int → Int
  | a, [] => a
  | _, b :: l => last b l
theorem last_ge : ∀ {l : List Int} {a : Int}, Asc (a :: l) → a ≤ last a l
  | [], a, _ => Int.le_refl a
  | b :: l, a, h => by
    have h1 := List.pairwise_cons.mp h
    have h2 := last_ge h1.2
    have h3 := h1.1 b (List.mem_cons_self ..)
    show a ≤ last b l
    omega
theorem le_last : ∀ {l : List Int} {a : Int}, Asc (a :: l) → ∀ b ∈ a :: l, b ≤ last a l
  | [], a, _, b, hb => by
    rw [List.mem_singleton.mp hb]
    exact Int.le_refl a
  | c :: l, a, h, b, hb => by
    rcases List.mem_cons.mp hb with rfl | hb
    · exact last_ge h
    · exact le_last (List.pairwise_cons.mp h).2 b hb
theorem upto_all : ∀ {l : List Int} {y : Int}, (∀ b ∈ l, b ≤ y) → upto l y = l.length
  | [], _, _ => rfl
  | b :: l, y, h => by
    show upto l y + _ = l.length + 1
    rw [upto_all fun c hc => h c (List.mem_cons_of_mem _ hc), if_pos (h b (List.mem_cons_self ..))]
theorem upto_none : ∀ {l : List Int} {y : Int}, (∀ b ∈ l, y < b) → upto l y = 0
  | [], _, _ => rfl
  | b :: l, y, h => by
    show upto l y + _ = 0
    rw [upto_none fun c hc => h c (List.mem_cons_of_mem _ hc), if_neg (by have := h b (List.mem_cons_self ..); omega)]
theorem upto_le : ∀ (l : List Int) (y : Int), upto l y ≤ l.length
  | [], _ => Nat.le_refl _
  | b :: l, y => by
    have := upto_le l y
    show upto l y + _ ≤ l.length + 1
    split <;> omega
def ups (l : List Int) (y : Int) : Bool := decide (upto l y % 2 = 1)
def evS : List Int → Int
  | [] => 0
  | [g] => g
  | g :: _ :: l => g + evS l
theorem ev_sum : ∀ l : List Int, (ev l).sum = evS l
  | [] => rfl
  | [g] => by simp [ev, evS]
  | g :: h :: l => by
    show (g :: ev l).sum = g + evS l
    rw [List.sum_cons, ev_sum l]
def odS : List Int → Int
  | [] => 0
  | _ :: l => evS l
theorem evS_cons (g : Int) (l : List Int) : evS (g :: l) = g + odS l := by
  cases l with
  | nil => simp [evS, odS]
  | cons h l => rfl
theorem gaps_sum : ∀ (l : List Int) (a : Int), (gaps (a :: l)).sum = last a l - a
  | [], a => by simp [gaps, last]
  | b :: l, a => by
    have h := gaps_sum l b
    show ((b - a) :: gaps (b :: l)).sum = last b l - a
    rw [List.sum_cons, h]
    omega
theorem ev_od : ∀ (l : List Int), evS l + odS l = l.sum
  | [] => rfl
  | g :: l => by
    rw [evS_cons, List.sum_cons, ← ev_od l]
    show g + odS l + evS l = _
    omega
/-- where an odd number of numbers is behind -/
theorem ups_cnt : ∀ (l : List Int) (a : Int), Asc (a :: l) → (cnt (ups (a :: l)) a (last a l - a).toNat : Int) = evS (gaps (a :: l)) ∧ (cnt (fun y => !ups (a :: l) y) a (last a l - a).toNat : Int) = odS (gaps (a :: l))
  | [], a, _ => by
    have e : (last a [] - a).toNat = 0 := by show (a - a).toNat = 0; omega
    rw [e]
    exact ⟨rfl, rfl⟩
  | b :: l, a, h => by
    have h1 := List.pairwise_cons.mp h
    have hab := h1.1 b (List.mem_cons_self ..)
    have hl := last_ge h1.2
    obtain ⟨i1, i2⟩ := ups_cnt l b h1.2
    have e : (last a (b :: l) - a).toNat = (b - a).toNat + (last b l - b).toNat := by show (last b l - a).toNat = _; omega
    have ea : a + ((b - a).toNat : Int) = b := by omega
    have front : ∀ x, a ≤ x → x < a + ((b - a).toNat : Int) → ups (a :: b :: l) x = true := fun x hx1 hx2 => by
      have z : upto (b :: l) x = 0 := upto_none fun c hc => by
        rcases List.mem_cons.mp hc with rfl | hc
        · omega
        · have := (List.pairwise_cons.mp h1.2).1 c hc
          omega
      show decide ((upto (b :: l) x + (if a ≤ x then 1 else 0)) % 2 = 1) = true
      rw [z, if_pos hx1]
      rfl
    have back : ∀ x, b ≤ x → ups (a :: b :: l) x = !ups (b :: l) x := fun x hx => by
      show decide ((upto (b :: l) x + (if a ≤ x then 1 else 0)) % 2 = 1) = !decide (upto (b :: l) x % 2 = 1)
      rw [if_pos (by omega)]
      by_cases p : upto (b :: l) x % 2 = 1
      · rw [decide_eq_true p, decide_eq_false (by omega)]
        rfl
      · rw [decide_eq_false p, decide_eq_true (by omega)]
        rfl
    rw [e, cnt_add, cnt_add, ea]
    have g1 : gaps (a :: b :: l) = (b - a) :: gaps (b :: l) := rfl
    refine ⟨?_, ?_⟩
    · rw [cnt_all front, cnt_congr (g := fun y => !ups (b :: l) y) fun x hx _ => back x hx, g1, evS_cons, ← i2]
      omega
    · rw [cnt_none fun x p q => by rw [front x p q]; rfl, cnt_congr (g := ups (b :: l)) fun x hx _ => by rw [back x hx, Bool.not_not], g1]
      show ((0 + cnt (ups (b :: l)) b (last b l - b).toNat : Nat) : Int) = evS (gaps (b :: l))
      rw [Nat.zero_add, i1]
theorem held_win_mid : ∀ (l : List Int) {len x : Int}, (∀ a ∈ l, x < a + len) → held (win len l) x = upto l x
  | [], _, _, _ => rfl
  | a :: l, len, x, h => by
    show held (win len l) x + (if a ≤ x ∧ x < a + len then 1 else 0) = upto l x + (if a ≤ x then 1 else 0)
    rw [held_win_mid l fun b hb => h b (List.mem_cons_of_mem _ hb)]
    have := h a (List.mem_cons_self ..)
    by_cases p : a ≤ x
    · rw [if_pos ⟨p, this⟩, if_pos p]
    · rw [if_neg fun q => p q.1, if_neg p]
theorem held_win_end : ∀ (l : List Int) {len x : Int}, (∀ a ∈ l, a ≤ x) → held (win len l) x + upto l (x - len) = l.length
  | [], _, _, _ => rfl
  | a :: l, len, x, h => by
    have ih := held_win_end l (len := len) (x := x) fun b hb => h b (List.mem_cons_of_mem _ hb)
    have := h a (List.mem_cons_self ..)
    show (held (win len l) x + (if a ≤ x ∧ x < a + len then 1 else 0)) + (upto l (x - len) + (if a ≤ x - len then 1 else 0)) = l.length + 1
    by_cases p : a ≤ x - len
    · rw [if_neg (by omega), if_pos p]
      omega
    · rw [if_pos (by omega), if_neg p]
      omega
theorem within_win {a : Int} {l : List Int} {len : Int} (h : Asc (a :: l)) (hl : 0 ≤ len) : Within (win len (a :: l)) a (last a l - a + len).toNat := by
  have hg := last_ge h
  intro p hp
  obtain ⟨b, hb, rfl⟩ := List.mem_map.mp hp
  have h1 := le_last h b hb
  have h2 : a ≤ b := by
    rcases List.mem_cons.mp hb with rfl | hb
    · exact Int.le_refl _
    · have := (List.pairwise_cons.mp h).1 b hb
      omega
  show a ≤ b ∧ b + len ≤ _
  omega
/-- long windows -/
theorem odd_long {a : Int} {l : List Int} {len v : Int} (h : Asc (a :: l)) (h1 : 1 ≤ len) (h2 : last a l - a ≤ len) (hv : OddOf (win len (a :: l)) v) : v = if (a :: l).length % 2 = 1 then len else 2 * evS (gaps (a :: l)) := by
  have hg := last_ge h
  have e := hv a _ (within_win h (by omega))
  obtain ⟨u1, u2⟩ := ups_cnt l a h
  have es : evS (gaps (a :: l)) + odS (gaps (a :: l)) = last a l - a := by rw [ev_od, gaps_sum]
  have en : (last a l - a + len).toNat = ((last a l - a).toNat + (len - (last a l - a)).toNat) + (last a l - a).toNat := by omega
  rw [en, cnt_add, cnt_add] at e
  have ge : ∀ b ∈ a :: l, a ≤ b := fun b hb => by
    rcases List.mem_cons.mp hb with rfl | hb
    · exact Int.le_refl _
    · have := (List.pairwise_cons.mp h).1 b hb
      omega
  have c1 : cnt (odd (win len (a :: l))) a (last a l - a).toNat = cnt (ups (a :: l)) a (last a l - a).toNat := cnt_congr fun x p q => by
    show decide (held (win len (a :: l)) x % 2 = 1) = decide (upto (a :: l) x % 2 = 1)
    rw [held_win_mid (a :: l) fun b hb => by have := ge b hb; omega]
  have c3 : ∀ d, d = a + (((last a l - a).toNat + (len - (last a l - a)).toNat : Nat) : Int) → cnt (odd (win len (a :: l))) d (last a l - a).toNat = cnt (fun y => decide (((a :: l).length - upto (a :: l) y) % 2 = 1)) a (last a l - a).toNat := fun d hd => by
    have e2 : d = a + len := by omega
    subst e2
    rw [cnt_shift]
    refine cnt_congr fun x p q => ?_
    show decide (held (win len (a :: l)) (x + len) % 2 = 1) = decide (((a :: l).length - upto (a :: l) x) % 2 = 1)
    have h3 := held_win_end (a :: l) (len := len) (x := x + len) fun b hb => by have := le_last h b hb; omega
    rw [show x + len - len = x by omega] at h3
    rw [show held (win len (a :: l)) (x + len) = (a :: l).length - upto (a :: l) x by omega]
  have mid : ∀ x, a + ((last a l - a).toNat : Int) ≤ x → x < a + ((last a l - a).toNat : Int) + ((len - (last a l - a)).toNat : Int) → odd (win len (a :: l)) x = decide ((a :: l).length % 2 = 1) := fun x p q => by
    show decide (held (win len (a :: l)) x % 2 = 1) = _
    rw [held_win_mid (a :: l) fun b hb => by have := ge b hb; omega, upto_all fun b hb => by have := le_last h b hb; omega]
  rw [c1, c3 _ rfl] at e
  by_cases hn : (a :: l).length % 2 = 1
  · rw [if_pos hn]
    have c2 : cnt (odd (win len (a :: l))) (a + ((last a l - a).toNat : Int)) (len - (last a l - a)).toNat = (len - (last a l - a)).toNat := cnt_all fun x p q => by rw [mid x p q, decide_eq_true hn]
    have c4 : cnt (fun y => decide (((a :: l).length - upto (a :: l) y) % 2 = 1)) a (last a l - a).toNat = cnt (fun y => !ups (a :: l) y) a (last a l - a).toNat := cnt_congr fun x _ _ => by
      have := upto_le (a :: l) x
      show decide _ = !decide (upto (a :: l) x % 2 = 1)
      by_cases p : upto (a :: l) x % 2 = 1
      · rw [decide_eq_true p, decide_eq_false (by omega)]
        rfl
      · rw [decide_eq_false p, decide_eq_true (by omega)]
        rfl
    rw [c2, c4] at e
    omega
  · rw [if_neg hn]
    have c2 : cnt (odd (win len (a :: l))) (a + ((last a l - a).toNat : Int)) (len - (last a l - a)).toNat = 0 := cnt_none fun x p q => by rw [mid x p q, decide_eq_false hn]
    have c4 : cnt (fun y => decide (((a :: l).length - upto (a :: l) y) % 2 = 1)) a (last a l - a).toNat = cnt (ups (a :: l)) a (last a l - a).toNat := cnt_congr fun x _ _ => by
      have := upto_le (a :: l) x
      show decide _ = decide (upto (a :: l) x % 2 = 1)
      by_cases p : upto (a :: l) x % 2 = 1
      · rw [decide_eq_true p, decide_eq_true (by omega)]
      · rw [decide_eq_false p, decide_eq_false (by omega)]
    rw [c2, c4] at e
    omega
def minS (len : Int) : List Int → Int
  | [] => 0
  | g :: l => (if len < g then len else g) + minS len l
theorem pos_win (l : List Int) (len x : Int) : pos (win len l) x = true ↔ ∃ b ∈ l, b ≤ x ∧ x < b + len := by
  induction l with
  | nil => exact ⟨fun h => by simp [pos, win, held] at h, fun ⟨b, hb, _⟩ => by cases hb⟩
  | cons a l ih =>
    show decide (0 < held (win len l) x + (if a ≤ x ∧ x < a + len then 1 else 0)) = true ↔ _
    rw [decide_eq_true_eq]
    have ih' : 0 < held (win len l) x ↔ ∃ b ∈ l, b ≤ x ∧ x < b + len := by
      rw [← ih]
      exact (decide_eq_true_iff).symm
    constructor
    · intro h
      by_cases p : a ≤ x ∧ x < a + len
      · exact ⟨a, List.mem_cons_self .., p⟩
      · rw [if_neg p] at h
        obtain ⟨b, hb, q⟩ := ih'.mp (by omega)
        exact ⟨b, List.mem_cons_of_mem _ hb, q⟩
    · rintro ⟨b, hb, q⟩
      rcases List.mem_cons.mp hb with rfl | hb
      · rw [if_pos q]
        omega
      · have := ih'.mpr ⟨b, hb, q⟩
        omega
theorem cov_cnt : ∀ (l : List Int) (a len : Int), Asc (a :: l) → 0 ≤ len → (cnt (pos (win len (a :: l))) a (last a l - a + len).toNat : Int) = len + minS len (gaps (a :: l))
  | [], a, len, _, hl => by
    have e : (last a [] - a + len).toNat = len.toNat := by show (a - a + len).toNat = _; omega
    rw [e, cnt_all fun x p q => (pos_win [a] len x).mpr ⟨a, List.mem_singleton.mpr rfl, by omega⟩]
    show ((len.toNat : Nat) : Int) = len + 0
    omega
  | b :: l, a, len, h, hl => by
    have h1 := List.pairwise_cons.mp h
    have hab := h1.1 b (List.mem_cons_self ..)
    have hg := last_ge h1.2
    have ih := cov_cnt l b len h1.2 hl
    have e : (last a (b :: l) - a + len).toNat = (b - a).toNat + (last b l - b + len).toNat := by show (last b l - a + len).toNat = _; omega
    have ea : a + ((b - a).toNat : Int) = b := by omega
    have ge : ∀ c ∈ b :: l, b ≤ c := fun c hc => by
      rcases List.mem_cons.mp hc with rfl | hc
      · exact Int.le_refl _
      · have := (List.pairwise_cons.mp h1.2).1 c hc
        omega
    rw [e, cnt_add, ea]
    have back : cnt (pos (win len (a :: b :: l))) b (last b l - b + len).toNat = cnt (pos (win len (b :: l))) b (last b l - b + len).toNat := cnt_congr fun x p _ => by
      rw [Bool.eq_iff_iff, pos_win, pos_win]
      constructor
      · rintro ⟨c, hc, q1, q2⟩
        rcases List.mem_cons.mp hc with rfl | hc
        · exact ⟨b, List.mem_cons_self .., p, by omega⟩
        · exact ⟨c, hc, q1, q2⟩
      · rintro ⟨c, hc, q⟩
        exact ⟨c, List.mem_cons_of_mem _ hc, q⟩
    have front : ∀ x, a ≤ x → x < b → pos (win len (a :: b :: l)) x = decide (x < a + len) := fun x p q => by
      rw [Bool.eq_iff_iff, pos_win, decide_eq_true_eq]
      constructor
      · rintro ⟨c, hc, q1, q2⟩
        rcases List.mem_cons.mp hc with rfl | hc
        · exact q2
        · have := ge c hc
          omega
      · intro r
        exact ⟨a, List.mem_cons_self .., p, r⟩
    rw [back]
    have g1 : minS len (gaps (a :: b :: l)) = (if len < b - a then len else b - a) + minS len (gaps (b :: l)) := rfl
    rw [g1]
    by_cases p : len < b - a
    · have e2 : (b - a).toNat = len.toNat + (b - a - len).toNat := by omega
      rw [if_pos p, e2, cnt_add, cnt_all fun x p1 p2 => by rw [front x p1 (by omega), decide_eq_true (by omega)], cnt_none fun x p1 p2 => by rw [front x (by omega) (by omega), decide_eq_false (by omega)]]
      omega
    · rw [if_neg p, cnt_all fun x p1 p2 => by rw [front x p1 (by omega), decide_eq_true (by omega)]]
      omega
theorem cov_win {a : Int} {l : List Int} {len v : Int} (h : Asc (a :: l)) (h1 : 0 ≤ len) (hv : CovOf (win len (a :: l)) v) : v = len + minS len (gaps (a :: l)) := by
  rw [hv a _ (within_win h h1)]
  exact cov_cnt l a len h h1
theorem gap_le : ∀ {l : List Int} {a : Int}, Asc (a :: l) → ∀ g ∈ gaps (a :: l), 1 ≤ g ∧ g ≤ last a l - a
  | [], _, _, g, hg => by cases hg
  | b :: l, a, h, g, hg => by
    have h1 := List.pairwise_cons.mp h
    have hab := h1.1 b (List.mem_cons_self ..)
    have hl := last_ge h1.2
    rcases List.mem_cons.mp (show g ∈ (b - a) :: gaps (b :: l) from hg) with rfl | hg
    · show 1 ≤ b - a ∧ b - a ≤ last b l - a
      omega
    · have := gap_le h1.2 g hg
      show 1 ≤ g ∧ g ≤ last b l - a
      omega
theorem minS_long {len : Int} : ∀ {gs : List Int}, (∀ g ∈ gs, g ≤ len) → minS len gs = gs.sum
  | [], _ => rfl
  | g :: gs, h => by
    show (if len < g then len else g) + minS len gs = _
    have := h g (List.mem_cons_self ..)
    rw [if_neg (by omega), minS_long fun x hx => h x (List.mem_cons_of_mem _ hx), List.sum_cons]
theorem cov_long {a : Int} {l : List Int} {len v : Int} (h : Asc (a :: l)) (h1 : 1 ≤ len) (h2 : last a l - a ≤ len) (hv : CovOf (win len (a :: l)) v) : v = (last a l - a) + len := by
  rw [cov_win h (by omega) hv, minS_long fun g hg => Int.le_trans (gap_le h g hg).2 h2, gaps_sum]
  omega
/-- parity -/
theorem odd_par (lo : Int) (n : Nat) : ∀ L : List Iv, Within L lo n → (∀ p ∈ L, p.1 ≤ p.2) → (cnt (odd L) lo n : Int) % 2 = (L.map fun p => p.2 - p.1).sum % 2
  | [], _, _ => by
    rw [cnt_none (f := odd []) fun x _ _ => rfl]
    rfl
  | p :: L, h, h2 => by
    have ih := odd_par lo n L (fun q hq => h q (List.mem_cons_of_mem _ hq)) fun q hq => h2 q (List.mem_cons_of_mem _ hq)
    have hp := h p (List.mem_cons_self ..)
    have hp2 := h2 p (List.mem_cons_self ..)
    have e : ∀ x, odd (p :: L) x = xor (odd L x) (decide (p.1 ≤ x ∧ x < p.2)) := fun x => by
      show decide ((held L x + (if p.1 ≤ x ∧ x < p.2 then 1 else 0)) % 2 = 1) = xor (decide (held L x % 2 = 1)) _
      by_cases q : p.1 ≤ x ∧ x < p.2
      · rw [if_pos q, decide_eq_true q]
        by_cases r : held L x % 2 = 1
        · rw [decide_eq_true r, decide_eq_false (by omega)]
          rfl
        · rw [decide_eq_false r, decide_eq_true (by omega)]
          rfl
      · rw [if_neg q, decide_eq_false q, Nat.add_zero]
        simp
    have c := cnt_xor (odd L) (fun x => decide (p.1 ≤ x ∧ x < p.2)) lo n
    rw [cnt_congr (f := odd (p :: L)) (g := fun x => xor (odd L x) (decide (p.1 ≤ x ∧ x < p.2))) fun x _ _ => e x]
    have c2 : cnt (fun x => decide (p.1 ≤ x ∧ x < p.2)) lo n = (p.2 - p.1).toNat := by
      have en : n = (p.1 - lo).toNat + ((p.2 - p.1).toNat + (lo + n - p.2).toNat) := by omega
      generalize hm : (lo + n - p.2).toNat = m at en
      rw [en, cnt_add, cnt_add, cnt_none fun x p1 p2 => decide_eq_false (by omega), cnt_all fun x p1 p2 => decide_eq_true (by omega), cnt_none fun x p1 p2 => decide_eq_false (by omega)]
      omega
    rw [c2] at c
    rw [List.map_cons, List.sum_cons]
    have c3 : ((cnt (fun x => xor (odd L x) (decide (p.1 ≤ x ∧ x < p.2))) lo n : Nat) : Int) % 2 = ((cnt (odd L) lo n : Int) + ((p.2 - p.1).toNat : Int)) % 2 := by omega
    rw [c3]
    omega
theorem win_sum (len : Int) : ∀ l : List Int, ((win len l).map fun p => p.2 - p.1).sum = (l.length : Int) * len
  | [] => by simp [win]
  | a :: l => by
    have ih := win_sum len l
    show ((a + len - a) :: (win len l).map fun p => p.2 - p.1).sum = ((l.length + 1 : Nat) : Int) * len
    rw [List.sum_cons, ih, show ((l.length + 1 : Nat) : Int) = (l.length : Int) + 1 by omega, Int.add_mul, Int.one_mul]
    omega
theorem odd_mod {a : Int} {l : List Int} {len v : Int} (h : Asc (a :: l)) (h1 : 0 ≤ len) (hv : OddOf (win len (a :: l)) v) : v % 2 = ((a :: l).length : Int) * len % 2 := by
  rw [hv a _ (within_win h h1), odd_par a _ _ (within_win h h1) fun p hp => ?_, win_sum]
  obtain ⟨b, hb, rfl⟩ := List.mem_map.mp hp
  show b ≤ b + len
  omega
/-- the least -/
def firstW (len a : Int) : List Int → Int
  | [] => len
  | b :: _ => if len < b - a then len else b - a
theorem odd_least {a : Int} {l : List Int} {len v : Int} (h : Asc (a :: l)) (h1 : 1 ≤ len) (hv : OddOf (win len (a :: l)) v) : firstW len a l ≤ v := by
  have e := hv a _ (within_win h (by omega))
  have hg := last_ge h
  obtain ⟨k, hk⟩ : ∃ k : Nat, k = (firstW len a l).toNat := ⟨_, rfl⟩
  have k0 : 0 ≤ firstW len a l ∧ firstW len a l ≤ last a l - a + len ∧ firstW len a l ≤ len := by
    cases l with
    | nil => exact ⟨by show 0 ≤ len; omega, by show len ≤ a - a + len; omega, Int.le_refl _⟩
    | cons b l =>
      have := (List.pairwise_cons.mp h).1 b (List.mem_cons_self ..)
      show 0 ≤ (if len < b - a then len else b - a) ∧ (if len < b - a then len else b - a) ≤ _ ∧ (if len < b - a then len else b - a) ≤ len
      split <;> omega
  have en : (last a l - a + len).toNat = k + ((last a l - a + len).toNat - k) := by omega
  rw [en, cnt_add, cnt_all fun x p q => ?_] at e
  · omega
  · show decide (held (win len (a :: l)) x % 2 = 1) = true
    have r : held (win len l) x = 0 := by
      have z : ∀ b ∈ l, x < b := by
        cases l with
        | nil => intro b hb; cases hb
        | cons b l =>
          have hb1 : x < b := by
            have : firstW len a (b :: l) = (if len < b - a then len else b - a) := rfl
            rw [this] at hk
            split at hk <;> omega
          intro c hc
          rcases List.mem_cons.mp hc with rfl | hc
          · exact hb1
          · have := (List.pairwise_cons.mp (List.pairwise_cons.mp h).2).1 c hc
            omega
      have p2 : ¬ (pos (win len l) x = true) := fun t => by
        obtain ⟨b, hb, q1, q2⟩ := (pos_win l len x).mp t
        have := z b hb
        omega
      have p3 : ¬ 0 < held (win len l) x := fun t => p2 (decide_eq_true t)
      omega
    show decide ((held (win len l) x + (if a ≤ x ∧ x < a + len then 1 else 0)) % 2 = 1) = true
    rw [r, if_pos ⟨p, by omega⟩]
    rfl
theorem held_one : ∀ {l : List Int} {x : Int}, Asc l → held (win 1 l) x ≤ 1
  | [], _, _ => Nat.zero_le _
  | a :: l, x, h => by
    have h1 := List.pairwise_cons.mp h
    have ih := held_one (x := x) h1.2
    show held (win 1 l) x + (if a ≤ x ∧ x < a + 1 then 1 else 0) ≤ 1
    by_cases p : a ≤ x ∧ x < a + 1
    · have z : ¬ (pos (win 1 l) x = true) := fun t => by
        obtain ⟨b, hb, q1, q2⟩ := (pos_win l 1 x).mp t
        have := h1.1 b hb
        omega
      have z2 : ¬ 0 < held (win 1 l) x := fun t => z (decide_eq_true t)
      rw [if_pos p]
      omega
    · rw [if_neg p]
      omega
theorem minS_one : ∀ {gs : List Int}, (∀ g ∈ gs, 1 ≤ g) → minS 1 gs = gs.length
  | [], _ => rfl
  | g :: gs, h => by
    show (if 1 < g then 1 else g) + minS 1 gs = ((gs.length + 1 : Nat) : Int)
    rw [minS_one fun x hx => h x (List.mem_cons_of_mem _ hx)]
    have := h g (List.mem_cons_self ..)
    split <;> omega
theorem gaps_len : ∀ (l : List Int) (a : Int), (gaps (a :: l)).length = l.length
  | [], _ => rfl
  | b :: l, a => by
    show (gaps (b :: l)).length + 1 = l.length + 1
    rw [gaps_len l b]
theorem odd_one {a : Int} {l : List Int} {v : Int} (h : Asc (a :: l)) (hv : OddOf (win 1 (a :: l)) v) : v = ((a :: l).length : Int) := by
  rw [hv a _ (within_win h (by omega))]
  have e : cnt (odd (win 1 (a :: l))) a (last a l - a + 1).toNat = cnt (pos (win 1 (a :: l))) a (last a l - a + 1).toNat := cnt_congr fun x _ _ => by
    have := held_one (x := x) h
    show decide (held (win 1 (a :: l)) x % 2 = 1) = decide (0 < held (win 1 (a :: l)) x)
    refine decide_eq_decide.mpr ?_
    omega
  rw [e, cov_cnt l a 1 h (by omega), minS_one fun g hg => (gap_le h g hg).1, gaps_len]
  show (1 : Int) + (l.length : Int) = ((l.length + 1 : Nat) : Int)
  omega
end SM

set_option linter.all false
set_option maxRecDepth 100000
set_option maxHeartbeats 4000000
/-! pieces between neighbouring ends -/
namespace SM
open RT
/-- the sum of the pieces at whose beginning f holds -/
def sumP (f : Int → Bool) : List Int → Int
  | [] => 0
  | [_] => 0
  | a :: b :: l => (if f a then b - a else 0) + sumP f (b :: l)
theorem cnt_pieces (f : Int → Bool) : ∀ (l : List Int) (a : Int), Asc (a :: l) → (∀ i x y, (a :: l)[i]? = some x → (a :: l)[i + 1]? = some y → ∀ z, x ≤ z → z < y → f z = f x) → (cnt f a (last a l - a).toNat : Int) = sumP f (a :: l)
  | [], a, _, _ => by
    have e : (last a [] - a).toNat = 0 := by show (a - a).toNat = 0; omega
    rw [e]
    rfl
  | b :: l, a, h, k => by
    have h1 := List.pairwise_cons.mp h
    have hab := h1.1 b (List.mem_cons_self ..)
    have hl := last_ge h1.2
    have ih := cnt_pieces f l b h1.2 fun i x y ex ey => k (i + 1) x y ex ey
    have e : (last a (b :: l) - a).toNat = (b - a).toNat + (last b l - b).toNat := by show (last b l - a).toNat = _; omega
    have ea : a + ((b - a).toNat : Int) = b := by omega
    have k0 := k 0 a b rfl rfl
    rw [e, cnt_add, ea]
    show ((cnt f a (b - a).toNat + cnt f b (last b l - b).toNat : Nat) : Int) = (if f a = true then b - a else 0) + sumP f (b :: l)
    cases hf : f a with
    | true =>
      rw [cnt_all fun x p q => by rw [k0 x p (by omega), hf], if_pos rfl, ← ih]
      omega
    | false =>
      rw [cnt_none fun x p q => by rw [k0 x p (by omega), hf], if_neg (by decide), ← ih]
      omega
/-- all ends stand in the list -/
def EndsIn (L : List Iv) (es : List Int) : Prop := ∀ p ∈ L, p.1 ∈ es ∧ p.2 ∈ es
theorem between {es : List Int} (h : Asc es) : ∀ {i : Nat} {x y : Int}, es[i]? = some x → es[i + 1]? = some y → ∀ c ∈ es, c ≤ x ∨ y ≤ c := by
  intro i x y ex ey c hc
  obtain ⟨j, hj, rfl⟩ := List.getElem_of_mem hc
  obtain ⟨hi, rfl⟩ := List.getElem?_eq_some_iff.mp ex
  obtain ⟨hi2, rfl⟩ := List.getElem?_eq_some_iff.mp ey
  have pw := List.pairwise_iff_getElem.mp h
  rcases Nat.lt_trichotomy j i with q | q | q
  · exact .inl (Int.le_of_lt (pw j i hj hi q))
  · subst q
    exact .inl (Int.le_refl _)
  · rcases Nat.lt_or_ge (i + 1) j with r | r
    · exact .inr (Int.le_of_lt (pw (i + 1) j hi2 hj r))
    · have : j = i + 1 := by omega
      subst this
      exact .inr (Int.le_refl _)
theorem held_const {es : List Int} (h : Asc es) {i : Nat} {x y : Int} (ex : es[i]? = some x) (ey : es[i + 1]? = some y) {z : Int} (z1 : x ≤ z) (z2 : z < y) : ∀ L : List Iv, EndsIn L es → held L z = held L x
  | [], _ => rfl
  | p :: L, k => by
    have ih := held_const h ex ey z1 z2 L fun q hq => k q (List.mem_cons_of_mem _ hq)
    obtain ⟨k1, k2⟩ := k p (List.mem_cons_self ..)
    have b1 := between h ex ey p.1 k1
    have b2 := between h ex ey p.2 k2
    show held L z + (if p.1 ≤ z ∧ z < p.2 then 1 else 0) = held L x + (if p.1 ≤ x ∧ x < p.2 then 1 else 0)
    rw [ih]
    by_cases q : p.1 ≤ x ∧ x < p.2
    · rw [if_pos q, if_pos (by omega)]
    · rw [if_neg q, if_neg (by omega)]
theorem within_ends {L : List Iv} {a : Int} {l : List Int} (h : Asc (a :: l)) (k : EndsIn L (a :: l)) : Within L a (last a l - a).toNat := by
  have hg := last_ge h
  intro p hp
  obtain ⟨k1, k2⟩ := k p hp
  have h1 : a ≤ p.1 := by
    rcases List.mem_cons.mp k1 with e | e
    · omega
    · have := (List.pairwise_cons.mp h).1 _ e
      omega
  have h2 := le_last h _ k2
  omega
theorem cov_pieces {L : List Iv} {es : List Int} {v : Int} (h : Asc es) (k : EndsIn L es) (hv : CovOf L v) : v = sumP (pos L) es := by
  cases es with
  | nil =>
    cases L with
    | nil => exact (hv 0 0 fun p hp => by cases hp).trans rfl
    | cons p L => exact absurd (k p (List.mem_cons_self ..)).1 (by simp)
  | cons a l =>
    rw [hv a _ (within_ends h k)]
    refine cnt_pieces (pos L) l a h fun i x y ex ey z z1 z2 => ?_
    unfold pos
    rw [held_const h ex ey z1 z2 L k]
theorem odd_pieces {L : List Iv} {es : List Int} {v : Int} (h : Asc es) (k : EndsIn L es) (hv : OddOf L v) : v = sumP (odd L) es := by
  cases es with
  | nil =>
    cases L with
    | nil => exact (hv 0 0 fun p hp => by cases hp).trans rfl
    | cons p L => exact absurd (k p (List.mem_cons_self ..)).1 (by simp)
  | cons a l =>
    rw [hv a _ (within_ends h k)]
    refine cnt_pieces (odd L) l a h fun i x y ex ey z z1 z2 => ?_
    unfold odd
    rw [held_const h ex ey z1 z2 L k]
theorem held_app (L M : List Iv) (x : Int) : held (L ++ M) x = held L x + held M x := by
  induction L with
  | nil => exact (Nat.zero_add _).symm
  | cons p L ih =>
    show held (L ++ M) x + _ = held L x + _ + held M x
    rw [ih]
    omega
theorem held_rev (L : List Iv) (x : Int) : held L.reverse x = held L x := by
  induction L with
  | nil => rfl
  | cons p L ih =>
    rw [List.reverse_cons, held_app, ih]
    show held L x + (0 + _) = held L x + _
    omega
theorem held_pos (L : List Iv) (x : Int) : 0 < held L x ↔ ∃ p ∈ L, p.1 ≤ x ∧ x < p.2 := by
  induction L with
  | nil => exact ⟨fun h => absurd h (Nat.lt_irrefl 0), fun ⟨p, hp, _⟩ => by cases hp⟩
  | cons p L ih =>
    show 0 < held L x + (if p.1 ≤ x ∧ x < p.2 then 1 else 0) ↔ _
    constructor
    · intro h
      by_cases q : p.1 ≤ x ∧ x < p.2
      · exact ⟨p, List.mem_cons_self .., q⟩
      · rw [if_neg q] at h
        obtain ⟨r, hr, e⟩ := ih.mp (by omega)
        exact ⟨r, List.mem_cons_of_mem _ hr, e⟩
    · rintro ⟨r, hr, e⟩
      rcases List.mem_cons.mp hr with rfl | hr
      · rw [if_pos e]
        omega
      · have := ih.mpr ⟨r, hr, e⟩
        omega
theorem cov_same {L M : List Iv} {v : Int} (h : ∀ p, p ∈ M ↔ p ∈ L) (hv : CovOf M v) : CovOf L v := fun lo n w => by
  rw [hv lo n fun p hp => w p ((h p).mp hp)]
  congr 1
  refine cnt_congr fun x _ _ => ?_
  unfold pos
  refine decide_eq_decide.mpr ?_
  rw [held_pos, held_pos]
  exact ⟨fun ⟨p, a, b⟩ => ⟨p, (h p).mp a, b⟩, fun ⟨p, a, b⟩ => ⟨p, (h p).mpr a, b⟩⟩
theorem odd_rev {L : List Iv} {v : Int} (hv : OddOf L.reverse v) : OddOf L v := fun lo n w => by
  rw [hv lo n fun p hp => w p (List.mem_reverse.mp hp)]
  congr 1
  refine cnt_congr fun x _ _ => ?_
  unfold odd
  rw [held_rev]
theorem span_all : ∀ L : List Iv, ∃ lo n, Within L lo n
  | [] => ⟨0, 0, fun p hp => by cases hp⟩
  | p :: L => by
    obtain ⟨lo, n, w⟩ := span_all L
    refine ⟨min lo p.1, (max (lo + n) p.2 - min lo p.1).toNat, fun q hq => ?_⟩
    rcases List.mem_cons.mp hq with rfl | hq
    · omega
    · have := w q hq
      omega
theorem odd_twice {L : List Iv} {v : Int} (hv : OddOf (L ++ L) v) : v = 0 := by
  obtain ⟨lo, n, w⟩ := span_all L
  rw [hv lo n fun p hp => w p (by rcases List.mem_append.mp hp with h | h <;> exact h), cnt_none fun x _ _ => ?_]
  · rfl
  · unfold odd
    rw [held_app]
    exact decide_eq_false (by omega)
/-- the pieces as pairs: how long, how many hold it -/
def pieces (L : List Iv) : List Int → List Iv
  | [] => []
  | [_] => []
  | a :: b :: l => (b - a, (held L a : Int)) :: pieces L (b :: l)
theorem pieces_len (L : List Iv) : ∀ es : List Int, (pieces L es).length = es.length - 1
  | [] => rfl
  | [_] => rfl
  | a :: b :: l => by
    show (pieces L (b :: l)).length + 1 = _
    rw [pieces_len L (b :: l)]
    simp
theorem pieces_at (L : List Iv) : ∀ (es : List Int) (i : Nat), (pieces L es)[i]? = (es[i]?).bind fun x => (es[i + 1]?).map fun y => (y - x, (held L x : Int))
  | [], i => by simp [pieces]
  | [a], i => by cases i <;> simp [pieces]
  | a :: b :: l, 0 => rfl
  | a :: b :: l, i + 1 => pieces_at L (b :: l) i
theorem pieces_pos (L : List Iv) : ∀ es : List Int, (((pieces L es).filter fun p => decide (p.2 > 0)).map (·.1)).sum = sumP (pos L) es
  | [] => rfl
  | [_] => rfl
  | a :: b :: l => by
    have ih := pieces_pos L (b :: l)
    show ((((b - a, (held L a : Int)) :: pieces L (b :: l)).filter fun p => decide (p.2 > 0)).map (·.1)).sum = (if pos L a = true then b - a else 0) + sumP (pos L) (b :: l)
    rw [← ih]
    by_cases q : 0 < held L a
    · rw [List.filter_cons_of_pos (by simpa using q), if_pos (by unfold pos; exact decide_eq_true q)]
      rfl
    · rw [List.filter_cons_of_neg (by simpa using q), if_neg (by unfold pos; simpa using q), Int.zero_add]
theorem pieces_odd (L : List Iv) : ∀ es : List Int, (((pieces L es).filter fun p => decide (p.2 % 2 = 1)).map (·.1)).sum = sumP (odd L) es
  | [] => rfl
  | [_] => rfl
  | a :: b :: l => by
    have ih := pieces_odd L (b :: l)
    show ((((b - a, (held L a : Int)) :: pieces L (b :: l)).filter fun p => decide (p.2 % 2 = 1)).map (·.1)).sum = (if odd L a = true then b - a else 0) + sumP (odd L) (b :: l)
    rw [← ih]
    by_cases q : held L a % 2 = 1
    · rw [List.filter_cons_of_pos (by rw [decide_eq_true_eq]; show ((held L a : Nat) : Int) % 2 = 1; omega), if_pos (by unfold odd; exact decide_eq_true q)]
      rfl
    · rw [List.filter_cons_of_neg (by rw [decide_eq_true_eq]; show ¬ ((held L a : Nat) : Int) % 2 = 1; omega), if_neg (by unfold odd; rw [decide_eq_true_eq]; exact q), Int.zero_add]
theorem held_len (L : List Iv) (x : Int) : (L.filter fun p => decide (p.1 ≤ x) && decide (x < p.2)).length = held L x := by
  induction L with
  | nil => rfl
  | cons p L ih =>
    show _ = held L x + (if p.1 ≤ x ∧ x < p.2 then 1 else 0)
    by_cases q : p.1 ≤ x ∧ x < p.2
    · rw [List.filter_cons_of_pos (by rw [decide_eq_true q.1, decide_eq_true q.2]; rfl), if_pos q, List.length_cons, ih]
    · rw [List.filter_cons_of_neg (by rw [Bool.and_eq_true, decide_eq_true_eq, decide_eq_true_eq]; exact q), if_neg q, ih]
      omega
/-- integer by integer -/
def heldL (L : List Iv) (lo : Int) (n : Nat) : List Int := (List.range n).map fun i : Nat => (held L (lo + (i : Int)) : Int)
theorem cov_small (L : List Iv) (lo : Int) : ∀ n, ((heldL L lo n).length : Int) - ((heldL L lo n).count 0 : Nat) = (cnt (pos L) lo n : Int)
  | 0 => rfl
  | n + 1 => by
    have ih := cov_small L lo n
    have e : heldL L lo (n + 1) = heldL L lo n ++ [(held L (lo + n) : Int)] := by
      unfold heldL
      rw [List.range_succ, List.map_append]
      rfl
    rw [e, List.length_append, List.count_append]
    show _ = ((cnt (pos L) lo n + (if pos L (lo + n) = true then 1 else 0) : Nat) : Int)
    have c : (List.count (0 : Int) [(held L (lo + n) : Int)]) = if 0 < held L (lo + n) then 0 else 1 := by
      by_cases q : 0 < held L (lo + n)
      · rw [if_pos q, List.count_eq_zero]
        intro z
        have := List.mem_singleton.mp z
        omega
      · rw [if_neg q, show held L (lo + n) = 0 by omega]
        rfl
    rw [c]
    by_cases q : 0 < held L (lo + n)
    · rw [if_pos q, if_pos (by unfold pos; exact decide_eq_true q)]
      simp only [List.length_singleton]
      omega
    · rw [if_neg q, if_neg (by unfold pos; rw [decide_eq_true_eq]; exact q)]
      simp only [List.length_singleton]
      omega
theorem odd_small (L : List Iv) (lo : Int) : ∀ n, ((heldL L lo n).map fun x => x % 2).sum = (cnt (odd L) lo n : Int)
  | 0 => rfl
  | n + 1 => by
    have ih := odd_small L lo n
    have e : heldL L lo (n + 1) = heldL L lo n ++ [(held L (lo + n) : Int)] := by
      unfold heldL
      rw [List.range_succ, List.map_append]
      rfl
    rw [e, List.map_append, List.sum_append, ih]
    show (cnt (odd L) lo n : Int) + ([(held L (lo + n) : Int) % 2]).sum = ((cnt (odd L) lo n + (if odd L (lo + n) = true then 1 else 0) : Nat) : Int)
    rw [List.sum_singleton]
    by_cases q : held L (lo + n) % 2 = 1
    · rw [if_pos (by unfold odd; exact decide_eq_true q)]
      omega
    · rw [if_neg (by unfold odd; rw [decide_eq_true_eq]; exact q)]
      omega
end SM

set_option Elab.async false
set_option linter.all false
set_option maxRecDepth 100000
set_option maxHeartbeats 4000000
/-! sorted(set(xs)) of a list of ints, any number of them below the bound of scans -/
namespace RT
open PySem PySem.Spec PyProof.Rows L2
abbrev fresh0 (w : World) : Obj := { cls := .type "set", dict := none, data := .set #[] 0 (.fresh 0 0 (!w.params.followText "set-order")) }
section
variable {P : Program} {w : World} {A : Around} {E : Value → Shared → Prop} {u : Shared} {l : Addr} {arr : Array Value} {ks : List Int}
theorem arr_len (are : IntsAre arr.toList ks) : arr.size = ks.length := by
  have e := IntsAre.length are
  rwa [Array.length_toList] at e
theorem arr_val (are : IntsAre arr.toList ks) (i : Nat) (v : Value) (hv : arr[i]? = some v) : ∃ k t, ks[i]? = some k ∧ v = .int k t := by
  have lt : i < ks.length := (arr_len are) ▸ (Array.getElem?_eq_some_iff.mp hv).1
  obtain ⟨t, e⟩ := PyProof.Rows.IntsAre.int_at are i v ((Array.getElem?_toList ..).trans hv)
  exact ⟨ks[i], t, List.getElem?_eq_getElem lt, e.trans (by rw [List.getD_eq_getElem?_getD, List.getElem?_eq_getElem lt]; rfl)⟩
/-- the loop that puts a list's ints into a new set -/
theorem fill_list {R : Result → Shared → Prop} (calm : A.handled = none) (pl : u.heap.IsList l arr) (are : IntsAre arr.toList ks) (few : ks.length + 1 < scanBound)
    (fin : ∀ (h' : Heap) (tk c : Nat), SetR w h' u.heap.objs.size (fun j => decide (j ∈ ks)) c → (∀ b o, u.heap.get? b = some o → h'.get? b = some o) → R (.ok (.ret .none)) { u with heap := h', toks := tk }) :
    codeAny (model P w) A (.builtin "set.update.loop" ⟨[.ref u.heap.objs.size, .ref (u.heap.push (fresh0 w)).objs.size], []⟩) R { u with heap := (u.heap.push (fresh0 w)).push { cls := .type "list_iterator", data := .fields #[.ref l, .int 0 0] } } := by
  obtain ⟨ob, at_, rest⟩ := id pl
  have lt : l < u.heap.objs.size := Heap.lt_size at_
  have sz : (u.heap.push (fresh0 w)).objs.size = u.heap.objs.size + 1 := Heap.size_push ..
  have pl1 : (u.heap.push (fresh0 w)).IsList l arr := pl.push _
  have apart : l ≠ (u.heap.push (fresh0 w)).objs.size := Nat.ne_of_lt (by rw [sz]; exact Nat.lt_succ_of_lt lt)
  have outside : u.heap.objs.size ∉ [(u.heap.push (fresh0 w)).objs.size, l] := by
    intro z
    rcases List.mem_cons.mp z with z | z
    · exact absurd z (Nat.ne_of_lt (by rw [sz]; exact Nat.lt_succ_self _))
    · exact absurd (List.mem_singleton.mp z) (Nat.ne_of_gt lt)
  have begun : ((u.heap.push (fresh0 w)).push { cls := .type "list_iterator", data := .fields #[.ref l, .int 0 0] }).get? u.heap.objs.size = some (fresh0 w) := Heap.get?_push_of_some _ (Heap.get?_push_size _ rfl)
  have quiet : A.in1.handled = none := by simp [calm]
  refine set_update_ints ((Walks.list quiet _ l apart arr).toS) u.heap.objs.size outside ks (arr_len are) few (arr_val are) (arr.size - 0) 0 _ (by omega) (Nat.zero_le _) ⟨⟨_, Heap.get?_push_size _ rfl, rfl, rfl⟩, pl1.push _⟩ ⟨0, Nat.le_refl 0, setR_new_at begun⟩ fun s' c mv _ st => ?_
  obtain ⟨h2, g2, d2, t2, o2⟩ := s'
  obtain rfl : g2 = u.gens := mv.gens
  obtain rfl : d2 = u.drawn := mv.drawn
  obtain rfl : o2 = u.os := mv.os
  refine fin h2 t2 c st fun b o hb => mv.heap b o (fun z => ?_) (Heap.get?_push_of_some _ (Heap.get?_push_of_some _ hb))
  have blt : b < u.heap.objs.size := Heap.lt_size hb
  rcases List.mem_cons.mp z with z | z
  · exact absurd z (Nat.ne_of_lt blt)
  · exact absurd (List.mem_singleton.mp z) (Nat.ne_of_lt (by rw [sz]; exact Nat.lt_succ_of_lt blt))
set_option maxHeartbeats 8000000 in
/-- set(xs) -/
theorem set_list {Q : Value → Shared → Prop} (calm : A.handled = none) (pl : u.heap.IsList l arr) (are : IntsAre arr.toList ks) (few : ks.length + 1 < scanBound)
    (fin : ∀ (h' : Heap) (tk c : Nat), SetR w h' u.heap.objs.size (fun j => decide (j ∈ ks)) c → (∀ b o, u.heap.get? b = some o → h'.get? b = some o) → Q (.ref u.heap.objs.size) { u with heap := h', toks := tk }) :
    wpAny (model P w) A (call (.type "set") [.ref l]) Q E u := by
  obtain ⟨c1, c2, c3⟩ := F.called_set.mro
  have c4 := F.called_set.made
  have c5 := F.called_set.sub
  refine wpAny_call (codeAny_of_tree ?_)
  show wpAny _ _ (callAny (.type "set") ⟨[.ref l], []⟩) _ _ u
  refine wpAny_pure ⟨Code.quiet_builtin _ (by decide +kernel), codeAny_builtin F.entry_type_call ?_⟩
  rw [Around.under_plain (weight_type_call_type "set" [.ref l] []) rfl]
  have c6 := F.called_set.notType
  have c7 := F.called_set.canCreate
  have c8 := F.typeCall_set_1 (.ref l)
  repeat (any_goals (first | assumption | wp_step))
  refine codeAny_mono (code_set_led1 (.ref l) (E := E) (Q₁ := fun o z => o = .ref u.heap.objs.size ∧ z = { u with heap := u.heap.push (fresh0 w) }) ⟨rfl, rfl⟩) fun r z hr => ?_
  match r, hr with
  | .error e, hr => exact hr
  | .ok .next, hr => exact hr.elim
  | .ok .brk, hr => exact hr.elim
  | .ok .cont, hr => exact hr.elim
  | .ok (.ret o), hr =>
    obtain ⟨rfl, rfl⟩ := hr
    have at0 : (u.heap.push (fresh0 w)).get? u.heap.objs.size = some (fresh0 w) := Heap.get?_push_size _ rfl
    have ty0 : Shared.TypeIs { u with heap := u.heap.push (fresh0 w) } (.ref u.heap.objs.size) "set" := ⟨_, at0, rfl⟩
    have c9 := F.called_set.init.lookup
    have c10 := F.called_set.init.bind (.ref u.heap.objs.size)
    repeat (any_goals (first | assumption | wp_step))
    refine codeAny_mono (codeAny_call_builtin (R := wants (fun r z => r = .none ∧ ∃ h' tk c, z = { u with heap := h', toks := tk } ∧ SetR w h' u.heap.objs.size (fun j => decide (j ∈ ks)) c ∧ (∀ b o, u.heap.get? b = some o → h'.get? b = some o)) E)
      F.called_set.init.plain F.entry_set_init (check_set_init_1 ty0 ?_)) fun r2 z2 hr2 => ?_
    · obtain ⟨⟨oc, od, dt, osl⟩, at1, hc, n1, hd⟩ := id pl
      simp only at hc hd
      subst hc hd
      have at2 : (u.heap.push (fresh0 w)).get? l = some ⟨.type "list", od, .seq arr n1, osl⟩ := Heap.get?_push_of_some _ at1
      have d1 := F.sub_list_set
      have d2 := F.sub_list_frozenset
      have d3 : (Value.type "list" == Value.type "dict") = false := by decide
      have pl1 : (u.heap.push (fresh0 w)).IsList l arr := pl.push _
      unfold Builtin.«set.__init__» noKeywords Builtin.Frozenset.updateFrom
      generalize eI : pyIter = walker
      wp_walk
      subst eI
      refine wpAny_pyIter_list pl1 (wpAny_bind (wpAny_runValue ?_))
      refine fill_list (by simp [calm]) pl are few fun h' tk c st kp => ?_
      show wpAny _ _ _ _ _ _
      refine wpAny_pure ?_
      show wpAny _ _ (ret Value.none) _ _ _
      exact wpAny_pure ⟨rfl, h', tk, c, rfl, st, kp⟩
    · match r2, hr2 with
      | .error e, hr2 => exact hr2
      | .ok .next, hr2 => exact hr2.elim
      | .ok .brk, hr2 => exact hr2.elim
      | .ok .cont, hr2 => exact hr2.elim
      | .ok (.ret r), hr2 =>
        obtain ⟨rfl, h', tk, c, rfl, st, kp⟩ := hr2
        repeat (any_goals (first | assumption | wp_step))
        exact fin _ _ _ st kp
/-- sorted(s), s a set of ints of any size -/
theorem sorted_any {a : Addr} {S : Int → Bool} {n : Nat} {Q : Value → Shared → Prop} (R : SetR w u.heap a S n) (calm : A.handled = none)
    (fin : ∀ z p (out : List Value) (c : Nat) (ns : List Int), (∀ b o, u.heap.get? b = some o → z.heap.get? b = some o) → z.gens = u.gens → z.os = u.os → u.heap.objs.size ≤ p →
      z.heap.get? p = some (seqObj "list" out.toArray c) → IntsAre out ns → ns.Pairwise (· < ·) → (∀ k, k ∈ ns ↔ S k = true) → ns.length = n → Q (.ref p) z) : wpAny (model P w) A (call (.builtin "sorted") [.ref a]) Q E u := by
  obtain ⟨ob, es, ep, tb, at0, ex, hd, good, nodup, mem, bound, fits, len, ris, led⟩ := R
  refine Calls.call_function_entry kind_sorted plain_sorted entry_sorted (args_sorted1 _) ?_
  unfold Builtin.«sorted»
  refine wpAny_bind (m := checkCount "sorted" 1 1 _) (wpAny_pure (wpAny_bind (collect_set (A := A.in1) calm ⟨ob, at0, ex.1, hd⟩ fits bound ris led fun z1 vs k1 z2 g1 o1 pm => ?_)))
  have size : vs.length = n := by
    rw [pm.length_eq, List.length_map, Array.length_toList]
    exact len
  have are : IntsAre vs (vs.map Builtin.Re.reRawOf) := ints_of vs fun v hv => by
    obtain ⟨e, he, q⟩ := List.mem_map.mp (pm.mem_iff.mp hv)
    obtain ⟨k, tk, h1, _⟩ := good e he
    exact ⟨k, tk, q.symm.trans h1⟩
  have keys : (vs.map Builtin.Re.reRawOf).Perm (es.toList.map keyOf) := by
    have q := pm.map Builtin.Re.reRawOf
    rwa [List.map_map] at q
  have le : vs.length ≤ sizeLine := by
    have b0 : es.size < 4096 := bound
    have e0 : es.size = n := len
    exact Nat.le_trans (show vs.length ≤ 4096 by omega) (by decide)
  refine wpAny_bind (wpAny_newList ?_ le)
  have atL : (z1.heap.push (seqObj "list" vs.toArray 0)).get? z1.heap.objs.size = some (seqObj "list" vs.toArray 0) := Heap.get?_push_size _ rfl
  refine wpAny_bind (wpAny_holding (wpAny_call_entry slot_list_sort ⟨_, atL, rfl⟩ entry_list_sort (SrtO.list_sort_ord SrtO.swo_int atL le (fun h2 => SrtO.ints_sortable are h2) fun out q1 q2 => ⟨_, rfl, ?_⟩) (args_list_sort _)))
  obtain ⟨i1, i2, i3⟩ := SrtO.ints_out are q1 q2
  obtain ⟨c, hc⟩ := sortedHeap_at (vs := vs) (out := out.toArray) atL
  have pn := i2.trans keys
  refine wpAny_pure ⟨_, rfl, fin _ z1.heap.objs.size out c (out.map SrtO.iv) (fun b o e => ?_) g1 o1 z2 hc i1 (lt_of_le_nodup _ i3 (pn.nodup_iff.mpr nodup)) (fun k => by rw [pn.mem_iff, ← mem k]) ?_⟩
  · have q := k1 b o e
    have lt := Heap.lt_size q
    show (sortedHeap (z1.heap.push (seqObj "list" vs.toArray 0)) z1.heap.objs.size vs out.toArray).get? b = some o
    rw [sortedHeap_old (Nat.ne_of_lt lt) (by rw [size_push']; exact Nat.lt_succ_of_lt lt)]
    exact Heap.get?_push_of_some _ q
  · rw [pn.length_eq, List.length_map, Array.length_toList]
    exact len
end
section
variable {X : Cx}
/-- set(xs) of a list of ints -/
def rSetL (K : PySem.W.Frag) (w : World) : List V → Hp → VK → Prop := fun vs H Q => ∃ (a : Addr) (ks : List Int), vs = [V.ref a] ∧ SqL K H a (ks.map V.int) ∧ ks.length ≤ 4000 ∧ ∀ p c, H p = none → Q (.ref p) (upd H p (SetO w p (fun j => decide (j ∈ ks)) c))
theorem cr_setL (hc : X.calm = true) : CallR X (.type "set") (rSetL X.K X.w) := by
  intro pins s σ H vs us Q I r h
  obtain ⟨a, ks, rfl, hs, few, q⟩ := h
  obtain ⟨its, rv, pl, hz⟩ := I.list hs
  rw [Vals.ref1 r]
  refine set_list (I.ok.hd hc) pl.isList (show IntsAre its.toArray.toList ks from rv.ints) (by unfold scanBound; omega) fun h' tk c st kp => ?_
  have free := I.hok.fresh (Nat.le_refl s.heap.objs.size)
  exact ⟨.ref _, upd H s.heap.objs.size (SetO X.w s.heap.objs.size (fun j => decide (j ∈ ks)) c), I.laid (t' := tk) kp (Nat.le_refl _) (setO_new st), rfl, q _ c free⟩
/-- sorted(s) -/
def rSortS (w : World) : List V → Hp → VK → Prop := fun vs H Q => ∃ (a : Addr) (S : Int → Bool) (n : Nat), vs = [V.ref a] ∧ H a = some (SetO w a S n) ∧
  ∀ (ns : List Int) (p : Addr), ns.Pairwise (· < ·) → (∀ k : Int, k ∈ ns ↔ S k = true) → ns.length = n → H p = none → Q (.ref p) (upd H p (.lst (ns.map V.int)))
theorem cr_sortS (hc : X.calm = true) : CallR X (.builtin "sorted") (rSortS X.w) := by
  intro pins s σ H vs us Q I r h
  obtain ⟨a, S, n, rfl, ha, q⟩ := h
  have R := setO_get I ha
  have few : n < 4096 := by
    obtain ⟨_, es, _, _, _, _, _, _, _, _, b, _, e, _⟩ := R
    have b0 : es.size < 4096 := b
    omega
  rw [Vals.ref1 r]
  refine sorted_any R (I.ok.hd hc) fun z p out c ns k g o hp hg hi hs hm hl => ?_
  have size : (ns.map V.int).length ≤ sizeLine := by
    rw [List.length_map, hl]
    exact Nat.le_trans (show n ≤ 4096 by omega) (by decide)
  have free : H p = none := I.hok.fresh hp
  have J : Inv X pins σ (upd H p (.lst (ns.map V.int))) { s with heap := z.heap, gens := z.gens, drawn := z.drawn, toks := z.toks } :=
    I.call (ch := []) (Un.laid k hp free) (I.hok.laid k hp ⟨size, out, c, vals_of_ints hi, hg⟩) (by rw [g]; exact I.bare) (fun _ z => nomatch z)
  obtain ⟨z1, z2, z3, z4, z5⟩ := z
  obtain rfl : z5 = s.os := o
  exact ⟨.ref p, _, J, rfl, q ns p hs hm hl free⟩
end
end RT

set_option Elab.async false
set_option linter.all false
set_option maxRecDepth 100000
set_option maxHeartbeats 4000000
set_option exponentiation.threshold 600
namespace K22
open PySem PySem.Spec PyProof.Rows L2 RT SM
/-- a def of the module, with its promise -/
structure DefO (P : Program) (w : World) (K : PySem.W.Frag) (mg : Str → Option Value) (base : Heap) (nm : Str) (sp : Sp) where
  f : Addr
  fd : FuncData
  ps : List Str
  g : mg nm = some (.ref f)
  kp : PySem.W.keepIn K (.ref f) = true
  F : FnOk P w K mg base CX0 12 f fd ps sp
  b : Binds K fd ps []
/-- an interval -/
def IvAt (H : Hp) (v : V) (p : Iv) : Prop := ∃ t, v = .ref t ∧ H t = some (.tup [.int p.1, .int p.2])
theorem IvAt.same {H H' : Hp} {v : V} {p : Iv} (h : IvAt H v p) (s : Same H H') : IvAt H' v p := by
  obtain ⟨t, e, h⟩ := h
  exact ⟨t, e, s _ _ h⟩
abbrev Ivs (H : Hp) : List V → List Iv → Prop := Paired (IvAt H)
theorem Ivs.same {H H' : Hp} {vs : List V} {L : List Iv} (h : Ivs H vs L) (s : Same H H') : Ivs H' vs L := Paired.mono (fun _ _ q => IvAt.same q s) h
theorem Ivs.get {H : Hp} : ∀ {vs : List V} {L : List Iv}, Ivs H vs L → ∀ {i : Nat} {v : V}, vs[i]? = some v → ∃ p, L[i]? = some p ∧ IvAt H v p
  | _, _, .nil, i, v, e => by cases e
  | _, _, .cons h r, 0, v, e => by cases e; exact ⟨_, rfl, h⟩
  | _, _, .cons h r, i + 1, v, e => Ivs.get (H := H) r e
theorem Ivs.len {H : Hp} {vs : List V} {L : List Iv} (h : Ivs H vs L) : vs.length = L.length := Paired.length h
theorem Ivs.snoc {H : Hp} {vs : List V} {L : List Iv} {v : V} {p : Iv} (h : Ivs H vs L) (k : IvAt H v p) : Ivs H (vs ++ [v]) (L ++ [p]) := Paired.snoc h k
theorem Ivs.app {H : Hp} : ∀ {vs us : List V} {L M : List Iv}, Ivs H vs L → Ivs H us M → Ivs H (vs ++ us) (L ++ M)
  | _, _, _, _, .nil, k => k
  | _, _, _, _, .cons h r, k => .cons h (Ivs.app (H := H) r k)
theorem Ivs.take {H : Hp} : ∀ {vs : List V} {L : List Iv} (n : Nat), Ivs H vs L → Ivs H (vs.take n) (L.take n)
  | _, _, 0, _ => .nil
  | _, _, n + 1, .nil => .nil
  | _, _, n + 1, .cons h r => .cons h (Ivs.take (H := H) n r)
theorem Ivs.rev {H : Hp} : ∀ {vs : List V} {L : List Iv}, Ivs H vs L → Ivs H vs.reverse L.reverse
  | _, _, .nil => .nil
  | _, _, .cons h r => by
    rw [List.reverse_cons, List.reverse_cons]
    exact Ivs.snoc (Ivs.rev (H := H) r) h
theorem Ivs.keep {D : Addr} {H H' : Hp} {vs us : List V} {L : List Iv} (h : Ivs H vs L) (eD : H D = some (.lst us)) (k : Keep D H H') : Ivs H' vs L :=
  Paired.mono (fun v p q => by
    obtain ⟨t, e, q⟩ := q
    exact ⟨t, e, k t _ (fun z => by rw [z, eD] at q; cases q) q⟩) h
def Fine (L : List Iv) : Prop := L.length ≤ 900 ∧ ∀ p ∈ L, p.1 < p.2 ∧ p.1.natAbs < 2 ^ 500 ∧ p.2.natAbs < 2 ^ 500
def spSpan (K : PySem.W.Frag) (R : List Iv → Int → Prop) : Sp := fun vs H Q _ => ∃ (a : Addr) (us : List V) (L : List Iv), vs = [.ref a] ∧ SqL K H a us ∧ Ivs H us L ∧ Fine L ∧ ∀ v H', Same H H' → R L v → Q (.int v) H'
def spDepth (K : PySem.W.Frag) : Sp := fun vs H Q _ => ∃ (a : Addr) (us : List V) (L : List Iv) (x : Int), vs = [.ref a, .int x] ∧ SqL K H a us ∧ Ivs H us L ∧ Fine L ∧ ∀ H', Same H H' → Q (.int (held L x : Int)) H'
/-- the module of intervals, by what it promises -/
structure Spans (P : Program) (w : World) (K : PySem.W.Frag) (mg : Str → Option Value) (base : Heap) where
  cov : DefO P w K mg base "covered" (spSpan K CovOf)
  odd : DefO P w K mg base "odd_covered" (spSpan K OddOf)
  dep : DefO P w K mg base "depth_at" (spDepth K)
theorem same_ne {H0 H H1 : Hp} {t : Addr} (h0 : H0 t = none) (s : Same H0 H) (k : Keep t H H1) : Same H0 H1 := fun b o h => k b o (ne_of_none h h0) (s b o h)
theorem same_sql {K : PySem.W.Frag} {H H' : Hp} {a : Addr} {xs : List V} (e : Same H H') (h : SqL K H a xs) : SqL K H' a xs := by
  rcases h with (h | ⟨o, h⟩) | h
  · exact .inl (.inl (e _ _ h))
  · exact .inl (.inr ⟨o, e _ _ h⟩)
  · exact .inr h
/-- what a comprehension over the list at a asks -/
def LcP (K : PySem.W.Frag) (a : Addr) (g : TG) (tt : TT) (te : TE) (vs : List Nat) (σ : L2.St) (H1 : Hp) (D : Addr) (Qd : Hp → Prop) : Prop := ∃ W : Nat → Nat → Hp → Prop, (∃ m, W 0 m (upd H1 D (.lst []))) ∧ ∀ i m H, W i m H → ((Itl K a).stop i H ∧ Qd H) ∨ ((Itl K a).go i H ∧ ∃ Nx : Hp → Prop, (∀ H', Nx H' → ∃ m', m' < m ∧ W (i + 1) m' H') ∧ ∀ x H', (Itl K a).yld i H x H' → g x (wipe σ vs) H' fun σ2 H2 => wipe σ2 vs = wipe σ vs ∧ tt σ2 H2 fun b H3 => if b = true then te σ2 H3 fun y H4 => ∃ acc, H4 D = some (.lst acc) ∧ acc.length < sizeLine ∧ Nx (upd H4 D (.lst (acc ++ [y]))) else Nx H3)
/-- over intervals: some of them, a number of each -/
theorem lc_ivs {K : PySem.W.Frag} {a D : Addr} {us : List V} {L : List Iv} {tt : TT} {te : TE} {vs : List Nat} {σ : L2.St} {H1 : Hp} {i j : Nat} {Qd : Hp → Prop} (b : Iv → Bool) (f : Iv → Int) (hS : SqL K H1 a us) (iv : Ivs H1 us L) (hn : L.length ≤ 2000) (hD : H1 D = none)
    (hw : ∀ x y, wipe (((wipe σ vs).set i (some x)).set j (some y)) vs = wipe σ vs)
    (htt : ∀ (p : Iv) (H : Hp) (Q : Bool → Hp → Prop), p ∈ L → Same H1 H → Q (b p) H → tt (((wipe σ vs).set i (some (.int p.1))).set j (some (.int p.2))) H Q)
    (hte : ∀ (p : Iv) (H : Hp) (Q : VK), p ∈ L → Same H1 H → Q (.int (f p)) H → te (((wipe σ vs).set i (some (.int p.1))).set j (some (.int p.2))) H Q)
    (hd : ∀ H, Same H1 H → H D = some (.lst (((L.filter b).map f).map V.int)) → Qd H) : LcP K a (gTup K 2 (gCons (gName i) (gCons (gName j) gNil))) tt te vs σ H1 D Qd := by
  have sD : ∀ {H : Hp} {o : HO}, Same H1 H → Same H1 (upd H D o) := fun {H o} s b u h => by
    rw [upd_ne (ne_of_none h hD)]
    exact s b u h
  have hl := iv.len
  refine lc_list (K := K) (a := a) (xs := us) (fun n H => Same H1 H ∧ H D = some (.lst ((((L.take n).filter b).map f).map V.int))) ⟨sD fun _ _ h => h, upd_same⟩ (fun n H hi p => same_sql p.1 hS) (fun n x H hx p => ?_) fun H p => ?_
  · obtain ⟨s, eD⟩ := p
    obtain ⟨q, hq, t, rfl, et⟩ := iv.get hx
    have hm : q ∈ L := List.mem_of_getElem? hq
    have tk : L.take (n + 1) = L.take n ++ [q] := by rw [List.take_succ, hq]; rfl
    refine ⟨t, _, rfl, tupT (s _ _ et), rfl, _, _, rfl, _, _, rfl, rfl, hw _ _, htt q H _ hm s ?_⟩
    cases hb : b q with
    | true =>
      refine hte q H _ hm s ⟨_, eD, ?_, sD s, ?_⟩
      · rw [List.length_map, List.length_map]
        have h1 : ((L.take n).filter b).length ≤ (L.take n).length := List.length_filter_le _ _
        rw [List.length_take] at h1
        exact Nat.lt_of_lt_of_le (show _ < 2001 by omega) (by decide)
      · rw [upd_same, tk, List.filter_append, List.filter_cons_of_pos hb, List.map_append, List.map_append]
        rfl
    | false =>
      refine ⟨s, ?_⟩
      rw [tk, List.filter_append, List.filter_cons_of_neg (by rw [hb]; decide), eD, List.filter_nil, List.append_nil]
  · obtain ⟨s, eD⟩ := p
    rw [hl, List.take_length] at eD
    exact hd H s eD
/-- over a list of ints: a number of each, by any road that leaves what stood -/
theorem lc_ints {K : PySem.W.Frag} {a D : Addr} {ns : List Int} {te : TE} {vs : List Nat} {σ : L2.St} {H1 : Hp} {j : Nat} {Qd : Hp → Prop} (f : Int → Int) (hS : SqL K H1 a (ns.map V.int)) (hn : ns.length ≤ 5000) (hD : H1 D = none)
    (hw : ∀ x, wipe ((wipe σ vs).set j (some x)) vs = wipe σ vs)
    (hte : ∀ (x : Int) (H : Hp) (Q : VK), x ∈ ns → Same H1 H → (∀ H', Same H H' → Q (.int (f x)) H') → te ((wipe σ vs).set j (some (.int x))) H Q)
    (hd : ∀ H, Same H1 H → H D = some (.lst ((ns.map f).map V.int)) → Qd H) : LcP K a (gName j) tYes te vs σ H1 D Qd := by
  have sD : ∀ {H : Hp} {o : HO}, Same H1 H → Same H1 (upd H D o) := fun {H o} s b u h => by
    rw [upd_ne (ne_of_none h hD)]
    exact s b u h
  refine lc_list (K := K) (a := a) (xs := ns.map V.int) (fun n H => Same H1 H ∧ H D = some (.lst (((ns.take n).map f).map V.int))) ⟨sD fun _ _ h => h, upd_same⟩ (fun n H hi p => same_sql p.1 hS) (fun n x H hx p => ?_) fun H p => ?_
  · obtain ⟨s, eD⟩ := p
    rw [List.getElem?_map] at hx
    obtain ⟨q, hq, rfl⟩ := Option.map_eq_some_iff.mp hx
    have tk : ns.take (n + 1) = ns.take n ++ [q] := by rw [List.take_succ, hq]; rfl
    refine ⟨hw _, ?_⟩
    show te ((wipe σ vs).set j (some (.int q))) H _
    refine hte q H _ (List.mem_of_getElem? hq) s fun H' s' => ⟨_, s' _ _ eD, ?_, sD (s.trans s'), ?_⟩
    · rw [List.length_map, List.length_map, List.length_take]
      exact Nat.lt_of_lt_of_le (show min n ns.length < 5001 by omega) (by decide)
    · rw [upd_same, tk, List.map_append, List.map_append]
      rfl
  · obtain ⟨s, eD⟩ := p
    rw [List.length_map, List.take_length] at eD
    exact hd H s eD
end K22

set_option Elab.async false
set_option linter.all false
set_option maxRecDepth 100000
set_option maxHeartbeats 8000000
set_option exponentiation.threshold 600
namespace K22
open PySem PySem.Spec PyProof.Rows L2 RT SM
theorem p60 : (10 : Int) ^ ((60 : Int).toNat) = 1000000000000000000000000000000000000000000000000000000000000 := by decide
theorem p59 : (10 : Int) ^ ((59 : Int).toNat) = 100000000000000000000000000000000000000000000000000000000000 := by decide
theorem p38 : (10 : Int) ^ ((38 : Int).toNat) = 100000000000000000000000000000000000000 := by decide
theorem p98 : (1000000000000000000000000000000000000000000000000000000000000 : Int) * 100000000000000000000000000000000000000 = 100000000000000000000000000000000000000000000000000000000000000000000000000000000000000000000000000 := by decide
abbrev B0 : Int := 300000000000000000000000000000000000000000000000000000000000000000000000000000000000000000000000000
theorem Keep.free {t : Addr} {H H' : Hp} {p : Addr} (e : Keep t H H') (h : H' p = none) (n : p ≠ t) : H p = none := by
  cases q : H p with
  | none => rfl
  | some o =>
    rw [e p o n q] at h
    cases h
theorem Ivs.dip {H H' : Hp} {t : Addr} {c : Nat} {vs : List V} {L : List Iv} (h : Ivs H vs L) (tk : Tk H t c) (k : Keep t H H') : Ivs H' vs L := by
  obtain ⟨A, B, e, _⟩ := tk
  exact Ivs.keep h e k
/-- what is drawn for one interval: by the way -/
theorem way_at {w v1 v2 v3 v4 v5 s1 s2 s3 s5 last M : Int} {i : Nat} (w0 : 0 ≤ w) (w6 : w < 6) (a1 : 0 ≤ v1) (b1 : v1 < 12) (a2 : 0 ≤ v2) (b2 : v2 < 1000000000000000000000000000000000000000000000000000000000000) (a3 : 0 ≤ v3) (b3 : v3 < 4)
    (a4 : 0 ≤ v4) (b4 : v4 < 3) (a5 : 0 ≤ v5) (b5 : v5 < 99) (c1 : 0 ≤ s1) (d1 : s1 < 6) (c2 : 0 ≤ s2) (d2 : s2 < 3) (c3 : 0 ≤ s3) (d3 : s3 < 1000000000000000000000000000000000000000000000000000000000000) (c5 : 1 ≤ s5) (d5 : s5 ≤ 100000000000000000000000000000000000000000000000000000000000000000000000000000000000000000000000000)
    (hi : i ≤ 1000) (l0 : -(B0 + 10 * i) ≤ last) (l1 : last ≤ B0 + 10 * i) (M0 : M = 100000000000000000000000000000000000000000000000000000000000000000000000000000000000000000000000000) :
    ∃ x s : Int, atI ([V.int v1, V.int last, V.int (v2 - 10 ^ ((59 : Int).toNat)), V.int (last + v3), V.int (0 - (0 + (i : Int)))] ++ [V.int (M * (v4 - 1) + v5)]) w = some (.int x) ∧
      atI ([V.int (1 + s1), V.int (1 + s2), V.int (1 + s3), V.int 2, V.int (1 + 2 * (0 + (i : Int)))] ++ [V.int s5]) w = some (.int s) ∧ 1 ≤ s ∧ -(B0 + 10 * (i + 1 : Nat)) ≤ x ∧ x + s ≤ B0 + 10 * (i + 1 : Nat) := by
  have e : w = 0 ∨ w = 1 ∨ w = 2 ∨ w = 3 ∨ w = 4 ∨ w = 5 := by omega
  have hM : -M ≤ M * (v4 - 1) ∧ M * (v4 - 1) ≤ M := by
    have e4 : v4 = 0 ∨ v4 = 1 ∨ v4 = 2 := by omega
    rcases e4 with rfl | rfl | rfl
    · rw [show ((0 : Int) - 1) = -1 from rfl, Int.mul_neg, Int.mul_one]
      omega
    · rw [show ((1 : Int) - 1) = 0 from rfl, Int.mul_zero]
      omega
    · rw [show ((2 : Int) - 1) = 1 from rfl, Int.mul_one]
      omega
  generalize M * (v4 - 1) = N at hM ⊢
  unfold B0 at *
  rcases e with rfl | rfl | rfl | rfl | rfl | rfl
  · exact ⟨_, _, atI_nat (j := 0) rfl, atI_nat (j := 0) rfl, by omega, by omega, by omega⟩
  · exact ⟨_, _, atI_nat (j := 1) rfl, atI_nat (j := 1) rfl, by omega, by omega, by omega⟩
  · exact ⟨_, _, atI_nat (j := 2) rfl, atI_nat (j := 2) rfl, by omega, by rw [p59]; omega, by rw [p59]; omega⟩
  · exact ⟨_, _, atI_nat (j := 3) rfl, atI_nat (j := 3) rfl, by omega, by omega, by omega⟩
  · exact ⟨_, _, atI_nat (j := 4) rfl, atI_nat (j := 4) rfl, by omega, by omega, by omega⟩
  · exact ⟨_, _, atI_nat (j := 5) rfl, atI_nat (j := 5) rfl, by omega, by omega, by omega⟩
theorem app_facts {H0 H : Hp} {t fd tp : Addr} {c : Nat} {us : List V} {L : List Iv} {x y : Int} (tk : Tk H t c) (kk : Keep t H0 H) (ef : H fd = some (.lst us)) (iv : Ivs H us L) (htp : H tp = none) (tfd : t ≠ fd) (hf0 : H0 fd = none) :
    upd H tp (.tup [.int x, .int y]) fd = some (.lst us) ∧ Ivs (upd (upd H tp (.tup [.int x, .int y])) fd (.lst (us ++ [.ref tp]))) (us ++ [.ref tp]) (L ++ [(x, y)]) ∧ Tk (upd (upd H tp (.tup [.int x, .int y])) fd (.lst (us ++ [.ref tp]))) t c ∧ Keep t H0 (upd (upd H tp (.tup [.int x, .int y])) fd (.lst (us ++ [.ref tp]))) := by
  have sG := same_new (o := .tup [.int x, .int y]) htp
  have ttp : t ≠ tp := fun z => by
    obtain ⟨Y1, Y2, e4, _⟩ := tk
    rw [z, htp] at e4
    cases e4
  have htpH : H0 tp = none := Keep.free kk htp (Ne.symm ttp)
  have efG := sG _ _ ef
  refine ⟨efG, ((Ivs.same iv sG).snoc (p := (x, y)) ⟨tp, rfl, upd_same⟩).keep efG keep_upd, ?_, fun b o hb h => ?_⟩
  · obtain ⟨Y1, Y2, ey, hy⟩ := tk.same sG
    exact ⟨Y1, Y2, (upd_ne tfd).trans ey, hy⟩
  · rw [upd_ne (ne_of_none h hf0), upd_ne (ne_of_none h htpH)]
    exact kk b o hb h
theorem two_at {a b v : Int} (h0 : 0 ≤ v) (h : v < 2) : ∃ x, atI [V.int a, V.int b] v = some (.int x) ∧ (x = a ∨ x = b) := by
  have e : v = 0 ∨ v = 1 := by omega
  rcases e with rfl | rfl
  · exact ⟨a, atI_nat (j := 0) rfl, .inl rfl⟩
  · exact ⟨b, atI_nat (j := 1) rfl, .inr rfl⟩
section
variable {P : Program} {w : World} {K : PySem.W.Frag} {mg : Str → Option Value} {base : Heap}
def spSome : Sp := fun vs H Q _ => ∃ (t : Addr) (c m : Nat), vs = [.ref t, .int (m : Int)] ∧ Tk H t c ∧ c ≤ 50000 ∧ m ≤ 400 ∧
  ∀ r us L c' H', Keep t H H' → Tk H' t c' → c ≤ c' → c' ≤ c + 2 + 12 * m → H r = none → r ≠ t → H' r = some (.lst us) → Ivs H' us L → L.length ≤ m → Fine L → (∀ p ∈ L, p.2 - p.1 ≤ 2 ^ 330) → Q (.ref r) H'
theorem ok_some (D : Ds K) (T : Tx K mg) : FnOk P w K mg base CX0 2 (d_law_some_spans.adr K) D.fd__law_some_spans ["tank", "most"] spSome := by
  have G : FnOk P w K mg base CX0 1 _ _ _ spDip := ok_dip D T
  refine D.F__law_some_spans.ok sc_law_some_spans (fun vs H Q E h => ?_) (fun cdv A outer s H vs Q E hr h => ?_)
  · obtain ⟨t, c, m, rfl, _⟩ := h
    rfl
  · obtain ⟨t, c, m, rfl, tk, hc, hm, q⟩ := h
    have nd := sc_law_some_spans.nd
    refine ⟨_, PSs.nox (pss_cons (ps_par3 (i := 2) (j := 3) (l := 4) (by rfl) nd rfl rfl rfl (by decide) (by decide) (by decide) rfl rfl rfl (pa_cons (pe_lst pa_nil) (pa_cons (pe_call G hr (by rfl) T.g__law_dip D.F__law_dip.kp (b__law_dip D) .nil pass0 (pa_cons (pv 0) (pa_cons pe_int pa_nil))) (pa_cons pe_int pa_nil))) (by rfl))
      (pss_cons (ps_for PassesOwn.never rfl (pi_range1 (by rfl) T.z_range (pa_cons (pe_call G hr (by rfl) T.g__law_dip D.F__law_dip.kp (b__law_dip D) .nil pass0 (pa_cons (pv 0) (pa_cons (pe_op op_add (pv 1) pe_int) pa_nil))) pa_nil)) (pg_name (i := 5) nd rfl (.inl rfl))
          (pss_cons (ps_set (i := 6) nd rfl (.inl rfl) (pe_lst (pa_cons (pe_call G hr (by rfl) T.g__law_dip D.F__law_dip.kp (b__law_dip D) .nil pass0 (pa_cons (pv 0) (pa_cons pe_int pa_nil))) (pa_cons (pv 4) (pa_cons (pe_op op_sub (pe_call G hr (by rfl) T.g__law_dip D.F__law_dip.kp (b__law_dip D) .nil pass0 (pa_cons (pv 0) (pa_cons (pe_op op_pow pe_int pe_int) pa_nil))) (pe_op op_pow pe_int pe_int)) (pa_cons (pe_op op_add (pv 4) (pe_call G hr (by rfl) T.g__law_dip D.F__law_dip.kp (b__law_dip D) .nil pass0 (pa_cons (pv 0) (pa_cons pe_int pa_nil)))) (pa_cons (pe_op op_sub pe_int (pv 5)) pa_nil)))))))
          (pss_cons (ps_expr (pe_bm PySem.F.plainAttrs_list PySem.F.slot_list_append PySem.F.type_list_append mt_append (pv 6) (pa_cons (pe_op op_add (pe_op op_mulW (pe_op op_mulW (pe_op op_pow pe_int pe_int) (pe_op op_pow pe_int pe_int)) (pe_op op_sub (pe_call G hr (by rfl) T.g__law_dip D.F__law_dip.kp (b__law_dip D) .nil pass0 (pa_cons (pv 0) (pa_cons pe_int pa_nil))) pe_int)) (pe_call G hr (by rfl) T.g__law_dip D.F__law_dip.kp (b__law_dip D) .nil pass0 (pa_cons (pv 0) (pa_cons pe_int pa_nil)))) pa_nil)))
          (pss_cons (ps_set (i := 7) nd rfl (.inl rfl) (pe_lst (pa_cons (pe_op op_add pe_int (pe_call G hr (by rfl) T.g__law_dip D.F__law_dip.kp (b__law_dip D) .nil pass0 (pa_cons (pv 0) (pa_cons pe_int pa_nil)))) (pa_cons (pe_op op_add pe_int (pe_call G hr (by rfl) T.g__law_dip D.F__law_dip.kp (b__law_dip D) .nil pass0 (pa_cons (pv 0) (pa_cons pe_int pa_nil)))) (pa_cons (pe_op op_add pe_int (pe_call G hr (by rfl) T.g__law_dip D.F__law_dip.kp (b__law_dip D) .nil pass0 (pa_cons (pv 0) (pa_cons (pe_op op_pow pe_int pe_int) pa_nil)))) (pa_cons pe_int (pa_cons (pe_op op_add pe_int (pe_op op_mul pe_int (pv 5))) pa_nil)))))))
          (pss_cons (ps_expr (pe_bm PySem.F.plainAttrs_list PySem.F.slot_list_append PySem.F.type_list_append mt_append (pv 7) (pa_cons (pe_ix ix_list (pe_lst (pa_cons (pe_op op_add pe_int (pe_call G hr (by rfl) T.g__law_dip D.F__law_dip.kp (b__law_dip D) .nil pass0 (pa_cons (pv 0) (pa_cons pe_int pa_nil)))) (pa_cons (pe_op op_mulW (pe_op op_pow pe_int pe_int) (pe_op op_pow pe_int pe_int)) pa_nil))) (pe_call G hr (by rfl) T.g__law_dip D.F__law_dip.kp (b__law_dip D) .nil pass0 (pa_cons (pv 0) (pa_cons pe_int pa_nil))) (fun _ _ => rfl)) pa_nil)))
          (pss_cons (ps_expr (pe_bm PySem.F.plainAttrs_list PySem.F.slot_list_append PySem.F.type_list_append mt_append (pv 2) (pa_cons (pe_tup (pa_cons (pe_ix ix_list (pv 6) (pv 3) (fun _ _ => rfl)) (pa_cons (pe_op op_add (pe_ix ix_list (pv 6) (pv 3) (fun _ _ => rfl)) (pe_ix ix_list (pv 7) (pv 3) (fun _ _ => rfl))) pa_nil))) pa_nil)))
          (pss_one (ps_set (i := 4) nd rfl (.inl rfl) (pe_ix ix_tup (pe_ix ix_list (pv 2) (pe_call G hr (by rfl) T.g__law_dip D.F__law_dip.kp (b__law_dip D) .nil pass0 (pa_cons (pv 0) (pa_cons (pe_callB call_len_seq (by rfl) T.z_len PySem.boot_len (pa_cons (pv 2) pa_nil)) pa_nil))) (fun _ _ => rfl)) (pe_call G hr (by rfl) T.g__law_dip D.F__law_dip.kp (b__law_dip D) .nil pass0 (pa_cons (pv 0) (pa_cons pe_int pa_nil))) (fun _ _ => rfl))))))))))
      (pss_one (ps_ret (pv 2))))), ?_⟩
    obtain ⟨A0, C0, et, _⟩ := id tk
    have bd : (1 : Int) ≤ 10 ^ ((60 : Int).toNat) ∧ (10 : Int) ^ ((60 : Int).toNat) ≤ 2 ^ 330 := by rw [p60]; decide
    refine ⟨by show 0 ≤ sizeLine; decide, fun fd hfd => ?_⟩
    have tfd : t ≠ fd := ne_of_none et hfd
    refine ⟨_, rfl, t, 6, c, rfl, tk.same (same_new hfd), by omega, by decide, by decide, fun wy c0 H0 k0 t0 l0 u0 a0 b0 => ⟨_, _, _, rfl, ?_⟩⟩
    dsimp only [List.set_cons_zero, List.set_cons_succ]
    refine ⟨_, rfl, _, rfl, _, _, rfl, rfl, t, (m : Int) + 1, c0, rfl, t0, by omega, by omega, ?bm, fun n1 cn Hn kn tn ln un an bn => ?_⟩
    case bm =>
      have : (400 : Int) + 1 ≤ 2 ^ 330 := by decide
      omega
    refine ⟨n1, rfl, by omega, by omega, ?_⟩
    have kn0 : Keep t H Hn := (Same.keep (same_new hfd)).trans (k0.trans kn)
    have efn : Hn fd = some (.lst []) := kn _ _ (Ne.symm tfd) (k0 _ _ (Ne.symm tfd) upd_same)
    refine for_range (lo := 0) (n := n1.toNat) (fun i σ H' => ∃ (us : List V) (L : List Iv) (c' : Nat) (la : Int) (z5 z6 z7 : Option V), Keep t H H' ∧ Tk H' t c' ∧ c ≤ c' ∧ c' ≤ c + 2 + 12 * i ∧ H' fd = some (.lst us) ∧ Ivs H' us L ∧ L.length = i ∧ (∀ p ∈ L, p.1 < p.2 ∧ -(B0 + 10 * i) ≤ p.1 ∧ p.2 ≤ B0 + 10 * i) ∧ -(B0 + 10 * i) ≤ la ∧ la ≤ B0 + 10 * i ∧
        σ = [some (.ref t), some (.int (m : Int)), some (.ref fd), some (.int wy), some (.int la), z5, z6, z7])
      ⟨[], [], cn, 0, _, _, _, kn0, tn, by omega, by omega, efn, .nil, rfl, fun p hp => by (cases hp), by unfold B0; omega, by unfold B0; omega, rfl⟩ (fun i σ' H' hi hp => ?_) fun σ' H' hp => ?_
    · obtain ⟨us, L, c1, la, z5, z6, z7, kk, tk1, lo1, up1, ef, iv, len, bnd, la0, la1, rfl⟩ := hp
      have hi400 : i < 400 := by omega
      have hfH : H fd = none := hfd
      clear k0 kn efn kn0
      -- low
      refine ⟨_, rfl, t, 12, c1, rfl, tk1, by omega, by decide, by decide, fun v1 c2 H2 k2 t2 l2 u2 a2 b2 => ?_⟩
      refine ⟨_, rfl, _, rfl, _, _, rfl, rfl, pw_ok (by decide) (by decide), t, _, c2, rfl, t2, by omega, bd.1, bd.2, fun v2 c3 H3 k3 t3 l3 u3 a3 b3 => ⟨_, _, rfl, rfl, pw_ok (by decide) (by decide), _, _, rfl, rfl, ?_⟩⟩
      rw [p60] at b3
      refine ⟨_, rfl, _, rfl, t, 4, c3, rfl, t3, by omega, by decide, by decide, fun v3 c4 H4 k4 t4 l4 u4 a4 b4 => ⟨_, _, rfl, rfl, _, rfl, _, _, rfl, rfl, by show 5 ≤ sizeLine; decide, fun lw hlw => ?_⟩⟩
      have iv4 := ((iv.dip tk1 k2).dip t2 k3).dip t3 k4
      have ef4 := k4 _ _ (Ne.symm tfd) (k3 _ _ (Ne.symm tfd) (k2 _ _ (Ne.symm tfd) ef))
      have kk4 := kk.trans (k2.trans (k3.trans k4))
      obtain ⟨LW, eLW⟩ : ∃ X : List V, X = [V.int v1, V.int la, V.int (v2 - 10 ^ ((59 : Int).toNat)), V.int (la + v3), V.int (0 - (0 + (i : Int)))] := ⟨_, rfl⟩
      have s5 := same_new (o := .lst LW) hlw
      have elw : upd H4 lw (.lst LW) lw = some (.lst LW) := upd_same
      have ivA := Ivs.same iv4 s5
      have efA := s5 _ _ ef4
      have tA := t4.same s5
      have kA := kk4.trans (Same.keep s5)
      obtain ⟨X1, X2, etA, _⟩ := id tA
      have tlw : t ≠ lw := fun z => by
        obtain ⟨Y1, Y2, e4, _⟩ := t4
        rw [z, hlw] at e4
        cases e4
      have fdlw : fd ≠ lw := ne_of_none ef4 hlw
      have hlwH : H lw = none := Keep.free kk4 hlw (Ne.symm tlw)
      obtain ⟨H5, eH5⟩ : ∃ X, X = upd H4 lw (.lst LW) := ⟨_, rfl⟩
      rw [← eLW, ← eH5]
      rw [← eH5] at elw ivA efA tA kA etA
      clear ef4 iv4 kk4 s5 eH5
      -- low.append
      refine ⟨_, rfl, .inl ⟨rfl, _, lstL elw⟩, _, _, rfl, rfl, pw_ok (by decide) (by decide), _, _, rfl, rfl, pw_ok (by decide) (by decide), _, _, rfl, rfl, wide_mul (a := 200) (b := 200) (by rw [p60]; decide) (by rw [p38]; decide) (by decide) (by decide) (by decide), ?_⟩
      refine ⟨_, rfl, t, 3, c4, rfl, tA, by omega, by decide, by decide, fun v4 c5 H6 k6 t6 l6 u6 a6 b6 => ⟨_, _, rfl, rfl, _, _, rfl, rfl, wide_mul (a := 400) (b := 10) (by rw [p60, p38]; decide) (by omega) (by decide) (by decide) (by decide), ?_⟩⟩
      refine ⟨_, rfl, t, 99, c5, rfl, t6, by omega, by decide, by decide, fun v5 c6 H7 k7 t7 l7 u7 a7 b7 => ⟨_, _, rfl, rfl, ?_⟩⟩
      have elw7 := k7 _ _ (Ne.symm tlw) (k6 _ _ (Ne.symm tlw) elw)
      have ef7 := k7 _ _ (Ne.symm tfd) (k6 _ _ (Ne.symm tfd) efA)
      have iv7 := (ivA.dip tA k6).dip t6 k7
      have kk7 := kA.trans (k6.trans k7)
      refine ⟨lw, _, _, rfl, rfl, elw7, by rw [eLW]; show 5 < sizeLine; decide, ?_⟩
      have iv8 : ∀ o, Ivs (upd H7 lw o) us L := fun o => iv7.keep elw7 keep_upd
      have ef8 : ∀ o, upd H7 lw o fd = some (.lst us) := fun o => (upd_ne fdlw).trans ef7
      have t8 : ∀ o, Tk (upd H7 lw o) t c6 := fun o => by
        obtain ⟨Y1, Y2, ey, hy⟩ := t7
        exact ⟨Y1, Y2, (upd_ne tlw).trans ey, hy⟩
      have kk8 : ∀ o, Keep t H (upd H7 lw o) := fun o b u hb h => by
        rw [upd_ne (ne_of_none h hlwH)]
        exact kk7 b u hb h
      -- size_here
      refine ⟨_, rfl, t, 6, c6, rfl, t8 _, by omega, by decide, by decide, fun s1 c7 H9 k9 t9 l9 u9 a9 b9 => ⟨_, _, rfl, rfl, ?_⟩⟩
      refine ⟨_, rfl, t, 3, c7, rfl, t9, by omega, by decide, by decide, fun s2 c8 HA kA2 tA2 lA uA aA bA => ⟨_, _, rfl, rfl, ?_⟩⟩
      refine ⟨_, rfl, _, _, rfl, rfl, pw_ok (by decide) (by decide), t, _, c8, rfl, tA2, by omega, bd.1, bd.2, fun s3 c9 HB kB tB lB uB aB bB => ⟨_, _, rfl, rfl, _, rfl, _, _, rfl, rfl, .inl ⟨by decide, by decide⟩, _, _, rfl, rfl, by show 5 ≤ sizeLine; decide, fun sw hsw => ?_⟩⟩
      rw [p60] at bB
      have ivB := (((iv8 _).dip (t8 _) k9).dip t9 kA2).dip tA2 kB
      have efB := kB _ _ (Ne.symm tfd) (kA2 _ _ (Ne.symm tfd) (k9 _ _ (Ne.symm tfd) (ef8 _)))
      have elwB := kB _ _ (Ne.symm tlw) (kA2 _ _ (Ne.symm tlw) (k9 _ _ (Ne.symm tlw) upd_same))
      have kkB := (kk8 _).trans (k9.trans (kA2.trans kB))
      have tsw : t ≠ sw := fun z => by
        obtain ⟨Y1, Y2, e4, _⟩ := tB
        rw [z, hsw] at e4
        cases e4
      have fdsw : fd ≠ sw := ne_of_none efB hsw
      have lwsw : lw ≠ sw := ne_of_none elwB hsw
      have hswH : H sw = none := Keep.free kkB hsw (Ne.symm tsw)
      have ivC : ∀ o, Ivs (upd HB sw o) us L := fun o => Ivs.same ivB (same_new hsw)
      have efC : ∀ o, upd HB sw o fd = some (.lst us) := fun o => (upd_ne fdsw).trans efB
      have elwC : ∀ o, upd HB sw o lw = _ := fun o => (upd_ne lwsw).trans elwB
      have tC2 : ∀ o, Tk (upd HB sw o) t c9 := fun o => tB.same (same_new hsw)
      have kkC : ∀ o, Keep t H (upd HB sw o) := fun o => kkB.trans (Same.keep (same_new hsw))
      -- size_here.append
      refine ⟨_, rfl, .inl ⟨rfl, _, lstL upd_same⟩, ?_⟩
      refine ⟨_, rfl, t, 50, c9, rfl, tC2 _, by omega, by decide, by decide, fun s4 cA HD kD tD lD uD aD bD => ⟨_, _, rfl, rfl, _, _, rfl, rfl, pw_ok (by decide) (by decide), _, _, rfl, rfl, pw_ok (by decide) (by decide), _, _, rfl, rfl, wide_mul (a := 200) (b := 200) (by rw [p60]; decide) (by rw [p38]; decide) (by decide) (by decide) (by decide), by show 2 ≤ sizeLine; decide, fun tw htw => ?_⟩⟩
      have ivD := (ivC _).dip (tC2 _) kD
      have efD := kD _ _ (Ne.symm tfd) (efC _)
      have elwD := kD _ _ (Ne.symm tlw) (elwC _)
      have eswD := kD _ _ (Ne.symm tsw) upd_same
      have kkD := (kkC _).trans kD
      have ttw : t ≠ tw := fun z => by
        obtain ⟨Y1, Y2, e4, _⟩ := tD
        rw [z, htw] at e4
        cases e4
      have sE : ∀ o, Same HD (upd HD tw o) := fun o => same_new htw
      refine ⟨_, rfl, t, 2, cA, rfl, tD.same (sE _), by omega, by decide, by decide, fun s6 cB HE kE tE lE uE aE bE => ?_⟩
      obtain ⟨s5, hs5, es5⟩ := two_at (a := 1 + s4) (b := 10 ^ ((60 : Int).toNat) * 10 ^ ((38 : Int).toNat)) aE bE
      refine ⟨tw, _, s6, _, rfl, rfl, lstL (kE _ _ (Ne.symm ttw) upd_same), hs5, ?_⟩
      have ivE := (Ivs.same ivD (sE _)).dip (tD.same (sE _)) kE
      have efE := kE _ _ (Ne.symm tfd) (sE _ _ _ efD)
      have elwE := kE _ _ (Ne.symm tlw) (sE _ _ _ elwD)
      have eswE := kE _ _ (Ne.symm tsw) (sE _ _ _ eswD)
      have kkE := kkD.trans ((Same.keep (sE _)).trans kE)
      refine ⟨sw, _, _, rfl, rfl, eswE, by show 5 < sizeLine; decide, ?_⟩
      have ivF : ∀ o, Ivs (upd HE sw o) us L := fun o => ivE.keep eswE keep_upd
      have efF : ∀ o, upd HE sw o fd = some (.lst us) := fun o => (upd_ne fdsw).trans efE
      have elwF : ∀ o, upd HE sw o lw = _ := fun o => (upd_ne lwsw).trans elwE
      have tF : ∀ o, Tk (upd HE sw o) t cB := fun o => by
        obtain ⟨Y1, Y2, ey, hy⟩ := tE
        exact ⟨Y1, Y2, (upd_ne tsw).trans ey, hy⟩
      have kkF : ∀ o, Keep t H (upd HE sw o) := fun o b u hb h => by
        rw [upd_ne (ne_of_none h hswH)]
        exact kkE b u hb h
      -- found.append
      obtain ⟨M, eM⟩ : ∃ M : Int, M = 10 ^ ((60 : Int).toNat) * 10 ^ ((38 : Int).toNat) := ⟨_, rfl⟩
      have M0 : M = 100000000000000000000000000000000000000000000000000000000000000000000000000000000000000000000000000 := by rw [eM, p60, p38, p98]
      obtain ⟨x, sz, ax, asz, z1, zx, zs⟩ := way_at (M := M) (v1 := v1) (v2 := v2) (v3 := v3) (v4 := v4) (v5 := v5) (s1 := s1) (s2 := s2) (s3 := s3) (s5 := s5) (i := i) a0 b0 a2 b2 a3 b3 a4 b4 a6 b6 a7 b7 a9 b9 aA bA aB bB (by rcases es5 with e | e <;> rw [e] <;> omega) (by rcases es5 with e | e <;> rw [e] <;> omega) (by omega) la0 la1 M0
      have ax' : atI (LW ++ [V.int (10 ^ ((60 : Int).toNat) * 10 ^ ((38 : Int).toNat) * (v4 - 1) + v5)]) wy = some (.int x) := by
        rw [eLW, ← eM]
        exact ax
      refine ⟨_, rfl, .inl ⟨rfl, _, lstL (efF _)⟩, ?_⟩
      refine ⟨_, rfl, _, rfl, lw, _, wy, _, rfl, rfl, lstL (elwF _), ax', _, rfl, _, rfl, lw, _, wy, _, rfl, rfl, lstL (elwF _), ax', _, rfl, _, rfl, sw, _, wy, _, rfl, rfl, lstL upd_same, asz, _, _, rfl, rfl, by show 2 ≤ sizeLine; decide, fun tp htp => ?_⟩
      have usl : us.length = i := iv.len.trans len
      obtain ⟨efG, ivG, tG, kkG⟩ := app_facts (x := x) (y := x + sz) (tF _) (kkF _) (efF _) (ivF _) htp tfd hfH
      refine ⟨fd, _, _, rfl, rfl, efG, by rw [usl]; exact Nat.lt_of_lt_of_le (show i < 500 by omega) (by decide), ?_⟩
      have len2 : (us ++ [V.ref tp]).length = i + 1 := by rw [List.length_append, usl]; rfl
      have b330 : (500 : Int) ≤ 2 ^ 330 := by decide
      refine ⟨_, rfl, _, rfl, _, rfl, fd, _, rfl, .inl (lstL upd_same), t, _, cB, rfl, tG, by omega, by rw [len2]; omega, by rw [len2]; omega, fun v7 cC HG kG tG2 lG uG aG bG => ?_⟩
      have efH := kG _ _ (Ne.symm tfd) upd_same
      have ivH := ivG.dip tG kG
      obtain ⟨j, rfl⟩ := Int.eq_ofNat_of_zero_le aG
      have hj : j < (us ++ [V.ref tp]).length := by omega
      obtain ⟨p, hp, tj, etj, htj⟩ := ivH.get (List.getElem?_eq_getElem hj)
      refine ⟨fd, _, _, _, rfl, rfl, lstL efH, atI_nat (List.getElem?_eq_getElem hj), ?_⟩
      rw [etj]
      refine ⟨_, rfl, t, 2, cC, rfl, tG2, by omega, by decide, by decide, fun v8 cD HH kH tH lH uH aH bH => ?_⟩
      have ttj : tj ≠ t := fun z => by
        obtain ⟨Y1, Y2, e4, _⟩ := tG2
        rw [z, e4] at htj
        cases htj
      obtain ⟨la2, hla2, ela2⟩ := two_at (a := p.1) (b := p.2) aH bH
      refine ⟨tj, _, v8, _, rfl, rfl, tupT (kH _ _ ttj htj), hla2, ?_⟩
      have bnd2 : ∀ p ∈ L ++ [(x, x + sz)], p.1 < p.2 ∧ -(B0 + 10 * ((i + 1 : Nat) : Int)) ≤ p.1 ∧ p.2 ≤ B0 + 10 * ((i + 1 : Nat) : Int) := fun p hp => by
        rcases List.mem_append.mp hp with hp | hp
        · have := bnd p hp
          omega
        · rw [List.mem_singleton.mp hp]
          show x < x + sz ∧ _ ≤ x ∧ x + sz ≤ _
          omega
      have bp := bnd2 p (List.mem_of_getElem? hp)
      refine ⟨us ++ [.ref tp], L ++ [(x, x + sz)], cD, la2, _, _, _, kkG.trans (kG.trans kH), tH, by omega, by omega, kH _ _ (Ne.symm tfd) efH, ivH.dip tG2 kH, by rw [List.length_append, len]; rfl, bnd2, by rcases ela2 with e | e <;> rw [e] <;> omega, by rcases ela2 with e | e <;> rw [e] <;> omega, rfl⟩
    · obtain ⟨us, L, c1, la, z5, z6, z7, kk, tk1, lo1, up1, ef, iv, len, bnd, la0, la1, rfl⟩ := hp
      refine ⟨_, rfl, q fd us L c1 H' kk tk1 lo1 (by omega) hfd (Ne.symm tfd) ef iv (by omega) ⟨by omega, fun p hp => ?_⟩ fun p hp => ?_⟩
      have h := bnd p hp
      have n400 : n1.toNat ≤ 400 := by omega
      have z : (400000000000000000000000000000000000000000000000000000000000000000000000000000000000000000000000000 : Nat) < 2 ^ 500 := by decide
      unfold B0 at h
      refine ⟨h.1, by omega, by omega⟩
      have h := bnd p hp
      have n400 : n1.toNat ≤ 400 := by omega
      have z : (1000000000000000000000000000000000000000000000000000000000000000000000000000000000000000000000000000 : Int) ≤ 2 ^ 330 := by decide
      unfold B0 at h
      omega
end
end K22

set_option linter.all false
set_option maxRecDepth 100000
set_option maxHeartbeats 4000000
/-! what a sweep over sorted intervals counts, and what sorted ends tell -/
namespace SM
open RT
theorem cnt_put {f g : Int → Bool} {lo : Int} {n : Nat} {m e : Int} (h1 : lo ≤ m) (h2 : m ≤ e) (h3 : e ≤ lo + n) (hin : ∀ x, m ≤ x → x < e → f x = false ∧ g x = true) (hout : ∀ x, x < m ∨ e ≤ x → g x = f x) :
    (cnt g lo n : Int) = cnt f lo n + (e - m) := by
  obtain ⟨a, ha⟩ : ∃ a : Nat, a = (m - lo).toNat := ⟨_, rfl⟩
  obtain ⟨b, hb⟩ : ∃ b : Nat, b = (e - m).toNat := ⟨_, rfl⟩
  obtain ⟨c, hc⟩ : ∃ c : Nat, n = a + (b + c) := ⟨n - a - b, by omega⟩
  have e1 : lo + (a : Int) = m := by omega
  have e2 : m + (b : Int) = e := by omega
  rw [hc, cnt_add, cnt_add f, e1, cnt_add, cnt_add f, e2]
  rw [cnt_congr (f := g) (g := f) (lo := lo) (n := a) fun x p q => hout x (.inl (by omega)), cnt_congr (f := g) (g := f) (lo := e) (n := c) fun x p q => hout x (.inr p),
    cnt_all (f := g) (lo := m) (n := b) fun x p q => (hin x p (by omega)).2, cnt_none (f := f) (lo := m) (n := b) fun x p q => (hin x p (by omega)).1]
  omega
theorem pos_app (L : List Iv) (p : Iv) (x : Int) : pos (L ++ [p]) x = (pos L x || decide (p.1 ≤ x ∧ x < p.2)) := by
  unfold pos
  rw [held_app]
  show decide (0 < held L x + (0 + if p.1 ≤ x ∧ x < p.2 then 1 else 0)) = _
  by_cases q : p.1 ≤ x ∧ x < p.2
  · rw [if_pos q, decide_eq_true q, Bool.or_true]
    exact decide_eq_true (by omega)
  · rw [if_neg q, decide_eq_false q, Bool.or_false]
    rfl
theorem pos_no {L : List Iv} {x b : Int} (h : ∀ q ∈ L, q.2 ≤ b) (hx : b ≤ x) : pos L x = false := by
  refine decide_eq_false fun z => ?_
  obtain ⟨q, hq, _, e⟩ := (held_pos L x).mp z
  have := h q hq
  omega
theorem within_app {L : List Iv} {p : Iv} {lo : Int} {n : Nat} (w : Within (L ++ [p]) lo n) : Within L lo n ∧ lo ≤ p.1 ∧ p.2 ≤ lo + n :=
  ⟨fun q hq => w q (List.mem_append.mpr (.inl hq)), w p (List.mem_append.mpr (.inr (List.mem_singleton.mpr rfl)))⟩
/-- an interval more, which goes beyond b -/
theorem cov_more {L : List Iv} {p : Iv} {v b : Int} (hv : CovOf L v) (h1 : p.1 ≤ b) (hle : ∀ q ∈ L, q.2 ≤ b) (hq : ∀ x, p.1 ≤ x → x < b → pos L x = true) (h2 : b < p.2) : CovOf (L ++ [p]) (v + (p.2 - b)) := fun lo n w => by
  obtain ⟨w1, w2, w3⟩ := within_app w
  rw [hv lo n w1]
  refine (cnt_put (f := pos L) (g := pos (L ++ [p])) (m := b) (e := p.2) (by omega) (by omega) w3 (fun x a c => ⟨pos_no hle a, ?_⟩) fun x hx => ?_).symm
  · rw [pos_app, decide_eq_true (show p.1 ≤ x ∧ x < p.2 by omega), Bool.or_true]
  · rw [pos_app]
    by_cases z : p.1 ≤ x ∧ x < p.2
    · rw [hq x z.1 (by omega), Bool.true_or]
    · rw [decide_eq_false z, Bool.or_false]
/-- .. which doesn't -/
theorem cov_less {L : List Iv} {p : Iv} {v b : Int} (hv : CovOf L v) (hq : ∀ x, p.1 ≤ x → x < b → pos L x = true) (h2 : p.2 ≤ b) : CovOf (L ++ [p]) v := fun lo n w => by
  obtain ⟨w1, w2, w3⟩ := within_app w
  rw [hv lo n w1]
  congr 1
  refine cnt_congr fun x _ _ => ?_
  rw [pos_app]
  by_cases z : p.1 ≤ x ∧ x < p.2
  · rw [hq x z.1 (by omega), Bool.true_or]
  · rw [decide_eq_false z, Bool.or_false]
theorem cov_zero : CovOf [] 0 := fun lo n _ => by
  rw [cnt_none (f := pos []) fun x _ _ => rfl]
  rfl
/-- every second difference -/
def alt : List Int → Int
  | a :: b :: r => (b - a) + alt r
  | _ => 0
def endsOf (L : List Iv) : List Int := L.flatMap fun p => [p.1, p.2]
theorem upto_cons (a : Int) (l : List Int) (x : Int) : upto (a :: l) x = upto l x + (if a ≤ x then 1 else 0) := rfl
theorem upto_perm {s t : List Int} (h : s.Perm t) (x : Int) : upto s x = upto t x := by
  induction h with
  | nil => rfl
  | cons a _ ih => rw [upto_cons, upto_cons, ih]
  | swap a b l =>
    rw [upto_cons, upto_cons, upto_cons, upto_cons]
    omega
  | trans _ _ h1 h2 => exact h1.trans h2
theorem held_upto : ∀ {L : List Iv}, (∀ p ∈ L, p.1 < p.2) → ∀ x : Int, held L x % 2 = upto (endsOf L) x % 2
  | [], _, x => rfl
  | p :: L, h, x => by
    have ih := held_upto (fun q hq => h q (List.mem_cons_of_mem _ hq)) x
    have hp := h p (List.mem_cons_self ..)
    show (held L x + (if p.1 ≤ x ∧ x < p.2 then 1 else 0)) % 2 = upto (p.1 :: p.2 :: endsOf L) x % 2
    rw [upto_cons, upto_cons]
    by_cases a : p.1 ≤ x
    · by_cases b : p.2 ≤ x
      · rw [if_neg (show ¬ (p.1 ≤ x ∧ x < p.2) by omega), if_pos a, if_pos b]
        omega
      · rw [if_pos (show p.1 ≤ x ∧ x < p.2 by omega), if_pos a, if_neg b]
        omega
    · rw [if_neg (show ¬ (p.1 ≤ x ∧ x < p.2) by omega), if_neg a, if_neg (show ¬ p.2 ≤ x by omega)]
      omega
theorem alt_cnt : ∀ (s : List Int) (lo : Int) (n : Nat), s.Pairwise (· ≤ ·) → s.length % 2 = 0 → (∀ x ∈ s, lo ≤ x ∧ x ≤ lo + n) → (cnt (fun x => decide (upto s x % 2 = 1)) lo n : Int) = alt s
  | [], lo, n, _, _, _ => by
    rw [cnt_none (f := fun x => decide (upto [] x % 2 = 1)) fun x _ _ => rfl]
    rfl
  | [a], lo, n, _, h, _ => by cases h
  | a :: b :: r, lo, n, hs, hl, hw => by
    have h1 := List.pairwise_cons.mp hs
    have h2 := List.pairwise_cons.mp h1.2
    have hab := h1.1 b (List.mem_cons_self ..)
    have ih := alt_cnt r lo n h2.2 (by
      have : (a :: b :: r).length = r.length + 2 := rfl
      omega) fun x hx => hw x (List.mem_cons_of_mem _ (List.mem_cons_of_mem _ hx))
    have wa := hw a (List.mem_cons_self ..)
    have wb := hw b (List.mem_cons_of_mem _ (List.mem_cons_self ..))
    show _ = (b - a) + alt r
    rw [← ih, cnt_put (f := fun x => decide (upto r x % 2 = 1)) (g := fun x => decide (upto (a :: b :: r) x % 2 = 1)) (m := a) (e := b) wa.1 hab wb.2 (fun x p q => ?_) fun x hx => ?_]
    · omega
    · have z : upto r x = 0 := upto_none fun c hc => by
        have := h2.1 c hc
        omega
      rw [upto_cons, upto_cons, z, if_pos p, if_neg (by omega)]
      exact ⟨rfl, rfl⟩
    · show decide (upto (a :: b :: r) x % 2 = 1) = decide (upto r x % 2 = 1)
      refine decide_eq_decide.mpr ?_
      rw [upto_cons, upto_cons]
      rcases hx with hx | hx
      · rw [if_neg (by omega), if_neg (by omega)]
        omega
      · rw [if_pos hx, if_pos (by omega)]
        omega
theorem endsOf_len (L : List Iv) : (endsOf L).length = 2 * L.length := by
  induction L with
  | nil => rfl
  | cons p L ih =>
    show (p.1 :: p.2 :: endsOf L).length = _
    rw [List.length_cons, List.length_cons, ih, List.length_cons]
    omega
theorem odd_alt {L : List Iv} {s : List Int} (h : ∀ p ∈ L, p.1 < p.2) (hp : s.Perm (endsOf L)) (hs : s.Pairwise (· ≤ ·)) : OddOf L (alt s) := fun lo n w => by
  rw [← alt_cnt s lo n hs (by rw [hp.length_eq, endsOf_len]; omega) fun x hx => ?_]
  · congr 1
    refine cnt_congr fun x _ _ => ?_
    unfold odd
    rw [held_upto h, upto_perm hp]
  · obtain ⟨p, hpL, hxp⟩ := List.mem_flatMap.mp (hp.mem_iff.mp hx)
    have h1 := w p hpL
    have h2 := h p hpL
    rcases List.mem_cons.mp hxp with rfl | hxp
    · omega
    · rw [List.mem_singleton.mp hxp]
      omega
theorem alt_zip : ∀ s : List Int, s.length % 2 = 0 → (List.zipWith (fun a b => b - a) (ev s) (ev s.tail)).sum = alt s
  | [], _ => rfl
  | [a], h => by cases h
  | a :: b :: r, h => by
    have ih := alt_zip r (by
      have : (a :: b :: r).length = r.length + 2 := rfl
      omega)
    cases r with
    | nil => rfl
    | cons c r =>
      show (List.zipWith (fun a b => b - a) (a :: ev (c :: r)) (b :: ev r)).sum = (b - a) + alt (c :: r)
      rw [List.zipWith_cons_cons, List.sum_cons, ← ih]
      rfl
end SM

set_option Elab.async false
set_option linter.all false
set_option maxRecDepth 100000
set_option maxHeartbeats 4000000
set_option exponentiation.threshold 600
namespace K22
open PySem PySem.Spec PyProof.Rows L2 RT SM
theorem filter_true {α : Type} (L : List α) : L.filter (fun _ => true) = L := List.filter_eq_self.mpr fun _ _ => rfl
theorem free_same {H H' : Hp} {p : Addr} (s : Same H H') (h : H' p = none) : H p = none := by
  cases e : H p with
  | none => rfl
  | some o =>
    rw [s _ _ e] at h
    cases h
theorem dec_i (a b : Int) : decide (V.int a = V.int b) = decide (a = b) := by
  rw [dec_int]
  rfl
theorem ite_t {c : Bool} {A B : Prop} (e : c = true) (h : A) : if c = true then A else B := by
  rw [e]
  exact iteT h
theorem ite_f {c : Bool} {A B : Prop} (e : c = false) (h : B) : if c = true then A else B := by
  rw [e]
  exact iteF h
end K22

set_option Elab.async false
set_option linter.all false
set_option maxRecDepth 100000
set_option maxHeartbeats 4000000
set_option exponentiation.threshold 600
namespace K22
open PySem PySem.Spec PyProof.Rows L2 RT SM
section
variable {P : Program} {w : World} {K : PySem.W.Frag} {mg : Str → Option Value} {base : Heap}
theorem kit_ii {K : PySem.W.Frag} : PySem.W.kitOne K (.type "int") (.type "int") = some true := kit_ty (by decide +kernel)
theorem kit_ib {K : PySem.W.Frag} : PySem.W.kitOne K (.type "int") (.type "bool") = some false := kit_ty (by decide +kernel)
theorem kit_tt {K : PySem.W.Frag} : PySem.W.kitOne K (.type "tuple") (.type "tuple") = some true := kit_ty (by decide +kernel)
theorem kit_ll {K : PySem.W.Frag} : PySem.W.kitOne K (.type "list") (.type "list") = some true := kit_ty (by decide +kernel)
theorem ty_list {H : Hp} {a : Addr} {xs : List V} (h : SqL K H a xs) : TyY K H (.ref a) (.type "list") := by
  rcases h with (h | ⟨o, h⟩) | ⟨o, its, n, hk, hc, _⟩
  · exact .base (.base (.lst h))
  · exact .base (.base (.frz h))
  · exact .base (.kList hk hc)
def spIsInt : Sp := fun vs H Q _ => ∃ v : Int, vs = [.int v] ∧ Q (.bl true) H
theorem ok_isint (D : Ds K) (T : Tx K mg) : FnOk P w K mg base CX0 1 (dis_integer.adr K) D.fd_is_integer ["value"] spIsInt := by
  refine D.F_is_integer.ok scis_integer (fun vs H Q E h => ?_) (fun cdv A outer s H vs Q E hr h => ?_)
  · obtain ⟨v, rfl, _⟩ := h
    rfl
  · obtain ⟨v, rfl, q⟩ := h
    refine ⟨_, PSs.nox (pss_one (ps_ret (pe_and (pe_callB call_isiY (by rfl) T.z_isinstance (by decide +kernel) (pa_cons (pv 0) (pa_cons (pe_bltn (v := .ty "int") (by rfl) T.z_int (by decide +kernel) rfl) pa_nil)))
      (pe_one (pe_not (pe_callB call_isiY (by rfl) T.z_isinstance (by decide +kernel) (pa_cons (pv 0) (pa_cons (pe_bltn (v := .ty "bool") (by rfl) T.z_bool (by decide +kernel) rfl) pa_nil)))))))), ?_⟩
    refine ⟨_, rfl, _, .ty "int", _, _, true, rfl, .ty "int", .base (.base (.int v)), kit_ii, true, rfl, iteT ?_⟩
    exact ⟨_, rfl, _, .ty "bool", _, _, false, rfl, .ty "bool", .base (.base (.int v)), kit_ib, false, rfl, q⟩
def spTupOf : Sp := fun vs H Q _ => ∃ (a : Addr) (xs : List V) (n : Int), vs = [.ref a, .int n] ∧ H a = some (.tup xs) ∧ Q (.bl (decide (V.int (xs.length : Int) = V.int n))) H
theorem ok_tupof (D : Ds K) (T : Tx K mg) : FnOk P w K mg base CX0 1 (dis_tuple_of.adr K) D.fd_is_tuple_of ["value", "many"] spTupOf := by
  refine D.F_is_tuple_of.ok scis_tuple_of (fun vs H Q E h => ?_) (fun cdv A outer s H vs Q E hr h => ?_)
  · obtain ⟨a, xs, n, rfl, _⟩ := h
    rfl
  · obtain ⟨a, xs, n, rfl, ea, q⟩ := h
    refine ⟨_, PSs.nox (pss_one (ps_ret (pe_and (pe_callB call_isiY (by rfl) T.z_isinstance (by decide +kernel) (pa_cons (pv 0) (pa_cons (pe_bltn (v := .ty "tuple") (by rfl) T.z_tuple (by decide +kernel) rfl) pa_nil)))
      (pe_one (pe_cmpR op_eq (pe_callB call_len_seq (by rfl) T.z_len PySem.boot_len (pa_cons (pv 0) pa_nil)) (pv 1) (nomark _)))))), ?_⟩
    refine ⟨_, rfl, _, .ty "tuple", _, _, true, rfl, .ty "tuple", .base (.base (.tup ea)), kit_tt, true, rfl, iteT ?_⟩
    exact ⟨_, rfl, a, _, rfl, .inr (tupT ea), _, rfl, rfl, q⟩
def spIsPt : Sp := fun vs H Q _ => ∃ (a : Addr) (x y : Int), vs = [.ref a] ∧ H a = some (.tup [.int x, .int y]) ∧ Q (.bl true) H
theorem ok_ispt (D : Ds K) (T : Tx K mg) : FnOk P w K mg base CX0 2 (dis_point.adr K) D.fd_is_point ["value"] spIsPt := by
  have G1 : FnOk P w K mg base CX0 1 _ _ _ spIsInt := ok_isint D T
  have G2 : FnOk P w K mg base CX0 1 _ _ _ spTupOf := ok_tupof D T
  refine D.F_is_point.ok scis_point (fun vs H Q E h => ?_) (fun cdv A outer s H vs Q E hr h => ?_)
  · obtain ⟨a, x, y, rfl, _⟩ := h
    rfl
  · obtain ⟨a, x, y, rfl, ea, q⟩ := h
    refine ⟨_, PSs.nox (pss_one (ps_ret (pe_and (pe_call G2 hr (by rfl) T.g_is_tuple_of D.F_is_tuple_of.kp (b_is_tuple_of D) .nil pass0 (pa_cons (pv 0) (pa_cons pe_int pa_nil)))
      (pe_and (pe_call G1 hr (by rfl) T.g_is_integer D.F_is_integer.kp (b_is_integer D) .nil pass0 (pa_cons (pe_ix ix_tup (pv 0) pe_int (fun _ _ => rfl)) pa_nil))
      (pe_one (pe_call G1 hr (by rfl) T.g_is_integer D.F_is_integer.kp (b_is_integer D) .nil pass0 (pa_cons (pe_ix ix_tup (pv 0) pe_int (fun _ _ => rfl)) pa_nil))))))), ?_⟩
    refine ⟨_, rfl, a, _, _, rfl, ea, true, by rfl, iteT ?_⟩
    refine ⟨_, rfl, a, _, 0, _, rfl, rfl, tupT ea, atI_nat (j := 0) rfl, x, rfl, true, rfl, iteT ?_⟩
    exact ⟨_, rfl, a, _, 1, _, rfl, rfl, tupT ea, atI_nat (j := 1) rfl, y, rfl, q⟩
def spIsIv : Sp := fun vs H Q _ => ∃ (a : Addr) (x y : Int), vs = [.ref a] ∧ H a = some (.tup [.int x, .int y]) ∧ Q (.bl (decide (x < y))) H
theorem ok_isiv (D : Ds K) (T : Tx K mg) : FnOk P w K mg base CX0 3 (d_is_interval.adr K) D.fd__is_interval ["value"] spIsIv := by
  have G : FnOk P w K mg base CX0 2 _ _ _ spIsPt := ok_ispt D T
  refine D.F__is_interval.ok sc_is_interval (fun vs H Q E h => ?_) (fun cdv A outer s H vs Q E hr h => ?_)
  · obtain ⟨a, x, y, rfl, _⟩ := h
    rfl
  · obtain ⟨a, x, y, rfl, ea, q⟩ := h
    refine ⟨_, PSs.nox (pss_one (ps_ret (pe_and (pe_call G hr (by rfl) T.g_is_point D.F_is_point.kp (b_is_point D) .nil pass0 (pa_cons (pv 0) pa_nil))
      (pe_one (pe_cmpR op_lt (pe_ix ix_tup (pv 0) pe_int (fun _ _ => rfl)) (pe_ix ix_tup (pv 0) pe_int (fun _ _ => rfl)) (nomark _)))))), ?_⟩
    refine ⟨_, rfl, a, _, _, rfl, ea, true, rfl, iteT ?_⟩
    exact ⟨_, rfl, a, _, 0, _, rfl, rfl, tupT ea, atI_nat (j := 0) rfl, _, rfl, a, _, 1, _, rfl, rfl, tupT ea, atI_nat (j := 1) rfl, _, _, rfl, rfl, q⟩
abbrev NC : List Str := Ncheck_intervals ++ [("interval" : Str)]
theorem scC : FnScope NC ["intervals"] (defScope scheck_intervals) := ⟨rfl, rfl, rfl, by decide +kernel, rfl, by decide +kernel, by decide +kernel⟩
def spCheck (K : PySem.W.Frag) : Sp := fun vs H Q _ => ∃ (a : Addr) (us : List V) (L : List Iv), vs = [.ref a] ∧ SqL K H a us ∧ Ivs H us L ∧ Fine L ∧ ∀ H', Same H H' → Q .non H'
theorem ok_check (D : Ds K) (T : Tx K mg) : FnOk P w K mg base CX0 4 (dcheck_intervals.adr K) D.fd_check_intervals ["intervals"] (spCheck K) := by
  have G : FnOk P w K mg base CX0 3 _ _ _ spIsIv := ok_isiv D T
  refine D.F_check_intervals.ok scC (fun vs H Q E h => ?_) (fun cdv A outer s H vs Q E hr h => ?_)
  · obtain ⟨a, us, L, rfl, _⟩ := h
    rfl
  · obtain ⟨a, us, L, rfl, ss, iv, fine, q⟩ := h
    have nd := scC.nd
    refine ⟨_, PSs.nox (pss_one (ps_if (PW.pt (pw_or (pt_not (pt_val (pe_callB call_isiY (by rfl) T.z_isinstance (by decide +kernel) (pa_cons (pv 0) (pa_cons (pe_bltn (v := .ty "list") (by rfl) T.z_list (by decide +kernel) rfl) pa_nil)))))
      (pw_or1 (pt_not (pt_val (pe_callB (cr_all rfl) (by rfl) T.z_all (by decide +kernel) (pa_cons (pe_lc (own := [(("interval" : Str), 1)]) (g := gName 1) (tt := tYes) (te := tCall spIsIv [] E0 (tCons (tVar 1) tNil)) rfl nd (pi_list (pv 0))
        (blkOk_by (own := [(("interval" : Str), 1)]) (N := NC) (sc := defScope scheck_intervals) (by decide +kernel)) (fun _ _ _ _ _ => pg_name (i := 1) nd rfl (Or.inl rfl)) (fun _ _ _ _ _ => pts_nil)
        (fun _ _ _ _ _ => pe_call G hr (by rfl) T.g__is_interval D.F__is_interval.kp (b__is_interval D) .nil pass0 (pa_cons (pv 1) pa_nil))) pa_nil))))))) (pss_one ps_never) pss_nil)), ?_⟩
    refine ⟨_, rfl, _, .ty "list", _, _, true, rfl, .ty "list", ty_list ss, kit_ll, true, rfl, iteF ?_⟩
    refine ⟨_, rfl, a, rfl, ⟨_, ss⟩, fun D1 hD => ?_⟩
    refine lc_list (K := K) (a := a) (xs := us) (fun n H' => Same H H' ∧ H' D1 = some (.lst ((List.replicate n true).map V.bl))) ⟨same_new hD, upd_same⟩ (fun n H' hi p => same_sql p.1 ss) (fun n x H' hx p => ?_) fun H' p => ?_
    · obtain ⟨s, eD⟩ := p
      obtain ⟨r, hr', t, rfl, et⟩ := iv.get hx
      have hn : n < us.length := (List.getElem?_eq_some_iff.mp hx).1
      refine ⟨rfl, _, rfl, t, r.1, r.2, rfl, s _ _ et, ?_⟩
      rw [decide_eq_true (fine.2 r (List.mem_of_getElem? hr')).1]
      refine ⟨_, eD, ?_, ?_, ?_⟩
      · rw [List.length_map, List.length_replicate]
        have h1 := fine.1
        have h2 := iv.len
        exact Nat.lt_of_lt_of_le (show n < 901 by omega) (by decide)
      · intro b o h
        rw [upd_ne (ne_of_none h hD)]
        exact s _ _ h
      · rw [upd_same, List.replicate_succ', List.map_append]
        rfl
    · obtain ⟨s, eD⟩ := p
      refine ⟨D1, _, rfl, lstL eD, true, by rw [show (List.replicate us.length true).all id = true from by simp [List.all_replicate]], iteF ?_⟩
      exact q _ s
abbrev ND : List Str := Ncount_around ++ [("start" : Str), ("end" : Str)]
theorem scD : FnScope ND ["intervals", "place"] (defScope scount_around) := ⟨rfl, rfl, rfl, by decide +kernel, rfl, by decide +kernel, by decide +kernel⟩
theorem ok_around (D : Ds K) (T : Tx K mg) : FnOk P w K mg base CX0 1 (dcount_around.adr K) D.fd_count_around ["intervals", "place"] (spDepth K) := by
  refine D.F_count_around.ok scD (fun vs H Q E h => ?_) (fun cdv A outer s H vs Q E hr h => ?_)
  · obtain ⟨a, us, L, x, rfl, _⟩ := h
    rfl
  · obtain ⟨a, us, L, x, rfl, ss, iv, fine, q⟩ := h
    have nd := scD.nd
    have hn := fine.1
    refine ⟨_, PSs.nox (pss_one (ps_ret (pe_callB call_len_seq (by rfl) T.z_len PySem.boot_len (pa_cons
        (pe_lc (own := [(("start" : Str), 2), (("end" : Str), 3)]) (g := gTup K 2 (gCons (gName 2) (gCons (gName 3) gNil))) (te := tVar 2) rfl nd (pi_list (pv 0)) (blkOk_by (own := [(("start" : Str), 2), (("end" : Str), 3)]) (N := ND) (sc := defScope scount_around) (by decide +kernel))
          (fun _ _ _ _ _ => pg_tup rfl (pgs_cons (pg_name (i := 2) nd rfl (Or.inl rfl)) (pgs_cons (pg_name (i := 3) nd rfl (Or.inl rfl)) pgs_nil))) (fun _ _ _ _ _ => pts_one (pt_chain op_le op_lt (pv 2) (pv 1) (pv 3))) (fun _ _ _ _ _ => pv 2)) pa_nil)))), ?_⟩
    refine ⟨_, rfl, a, rfl, ⟨_, ss⟩, fun p6 hp6 => lc_ivs (us := us) (L := L) (fun p => decide (p.1 ≤ x) && decide (x < p.2)) (fun p => p.1) ss iv (by omega) hp6 (fun x y => rfl) (fun p H' Q _ _ h => ?_) (fun p H' Q _ _ h => ⟨_, rfl, h⟩) fun H8 s8 e8 => ?_⟩
    · refine ⟨_, rfl, _, rfl, _, _, rfl, rfl, _, rfl, ?_⟩
      by_cases hb : p.1 ≤ x
      · rw [if_pos (decide_eq_true hb)]
        rw [decide_eq_true hb, Bool.true_and] at h
        exact ⟨_, rfl, _, _, rfl, rfl, _, rfl, h⟩
      · rw [if_neg (by rw [decide_eq_true_eq]; exact hb)]
        rw [decide_eq_false hb, Bool.false_and] at h
        exact ⟨_, rfl, h⟩
    have el : ((((L.filter fun p => decide (p.1 ≤ x) && decide (x < p.2)).map fun p => p.1).map V.int).length : Int) = (held L x : Int) := by
      rw [List.length_map, List.length_map, held_len]
    refine ⟨p6, _, rfl, .inl (lstL e8), ?_⟩
    rw [el]
    exact q _ s8
theorem ok_depth (D : Ds K) (T : Tx K mg) : FnOk P w K mg base CX0 5 (ddepth_at.adr K) D.fd_depth_at ["intervals", "place"] (spDepth K) := by
  have G : FnOk P w K mg base CX0 4 _ _ _ (spCheck K) := ok_check D T
  have G1 : FnOk P w K mg base CX0 1 _ _ _ spIsInt := ok_isint D T
  have G2 : FnOk P w K mg base CX0 1 _ _ _ (spDepth K) := ok_around D T
  refine D.F_depth_at.ok scdepth_at (fun vs H Q E h => ?_) (fun cdv A outer s H vs Q E hr h => ?_)
  · obtain ⟨a, us, L, x, rfl, _⟩ := h
    rfl
  · obtain ⟨a, us, L, x, rfl, ss, iv, fine, q⟩ := h
    refine ⟨_, PSs.nox (pss_cons (ps_expr (pe_call G hr (by rfl) T.g_check_intervals D.F_check_intervals.kp (b_check_intervals D) .nil pass0 (pa_cons (pv 0) pa_nil)))
      (pss_cons (ps_if (pt_not (pt_val (pe_call G1 (hr.mono (by decide)) (by rfl) T.g_is_integer D.F_is_integer.kp (b_is_integer D) .nil pass0 (pa_cons (pv 1) pa_nil)))) (pss_one ps_never) pss_nil)
      (pss_one (ps_ret (pe_call G2 (hr.mono (by decide)) (by rfl) T.g_count_around D.F_count_around.kp (b_count_around D) .nil pass0 (pa_cons (pv 0) (pa_cons (pv 1) pa_nil))))))), ?_⟩
    refine ⟨_, rfl, a, us, L, rfl, ss, iv, fine, fun H1 s1 => ?_⟩
    refine ⟨_, rfl, x, rfl, true, rfl, iteF ?_⟩
    exact ⟨_, rfl, _, rfl, a, us, L, x, rfl, same_sql s1 ss, iv.same s1, fine, fun H' s' => q _ (s1.trans s')⟩
end
end K22

set_option Elab.async false
set_option linter.all false
set_option maxRecDepth 100000
set_option maxHeartbeats 4000000
namespace RT
open PySem PySem.Spec PyProof.Rows L2
theorem pick_gen : ∀ (m : Nat) (ys zs : List V), ys.length ≤ m → (List.range ((ys.length + 1) / 2)).filterMap (fun i => (zs ++ ys)[zs.length + 2 * i]?) = ev ys := by
  intro m
  induction m with
  | zero =>
    intro ys zs h
    have : ys = [] := List.length_eq_zero_iff.mp (by omega)
    subst this
    rfl
  | succ m ih =>
    intro ys zs h
    match ys, h with
    | [], _ => rfl
    | [x], _ =>
      have e1 : ([x].length + 1) / 2 = 1 := by simp
      rw [e1, show List.range 1 = [0] from rfl]
      simp [ev]
    | x :: y :: r, h =>
      have e1 : ((x :: y :: r).length + 1) / 2 = (r.length + 1) / 2 + 1 := by simp only [List.length_cons]; omega
      rw [e1, List.range_succ_eq_map, List.filterMap_cons_some (b := x) (by simp), List.filterMap_map]
      show x :: _ = x :: ev r
      congr 1
      have h2 := ih r (zs ++ [x, y]) (by simp only [List.length_cons] at h; omega)
      rw [← h2]
      congr 1
      funext i
      show (zs ++ x :: y :: r)[zs.length + 2 * (i + 1)]? = ((zs ++ [x, y]) ++ r)[(zs ++ [x, y]).length + 2 * i]?
      rw [List.append_assoc]
      have e2 : (zs ++ [x, y]).length = zs.length + 2 := by simp
      rw [e2, show zs.length + 2 * (i + 1) = zs.length + 2 + 2 * i by omega]
      rfl
/-- xs[1::2] -/
theorem pick_od (xs : List V) : pickV xs (some 1) none (some 2) = ev xs.tail := by
  cases xs with
  | nil => rfl
  | cons x r =>
    have h := pick_gen r.length r [x] (Nat.le_refl _)
    show pickV (x :: r) (some 1) none (some 2) = ev r
    rw [← h]
    unfold pickV
    have eb : sliceBounds (some 1) none (some 2) (x :: r).length = (1, ((x :: r).length : Int), 2) := by
      unfold sliceBounds
      simp
      omega
    rw [eb]
    show (sliceRange 1 ((x :: r).length : Int) 2).filterMap _ = _
    unfold sliceRange
    rw [if_pos (by decide : (2 : Int) > 0)]
    have ec : (if (1 : Int) < ((x :: r).length : Int) then (((x :: r).length : Int) - 1 + 2 - 1) / 2 else 0).toNat = (r.length + 1) / 2 := by
      rw [List.length_cons]
      split <;> omega
    dsimp only
    rw [ec, List.filterMap_map]
    refine congrArg (fun f => List.filterMap f (List.range ((r.length + 1) / 2))) ?_
    funext i
    show (x :: r)[((1 : Int) + 2 * (i : Int)).toNat]? = ([x] ++ r)[[x].length + 2 * i]?
    rw [show ((1 : Int) + 2 * (i : Int)).toNat = 1 + 2 * i by omega]
    rfl
end RT

set_option Elab.async false
set_option linter.all false
set_option maxRecDepth 100000
set_option maxHeartbeats 4000000
/-! list(zip(xs, ys)) of two lists -/
namespace RT
open PySem PySem.Spec PyProof.Rows L2 PySem.W
/-- what a zip holds while a list is filled from it -/
def ZSt (h : Heap) (z TI TO i1 i2 l1 l2 S : Addr) (xs ys : Array Value) (i : Nat) : Prop :=
  IsPair h TI (.ref i1) (.ref i2) ∧ h.IsListIter i1 l1 i ∧ h.IsListIter i2 l2 i ∧ h.IsList l1 xs ∧ h.IsList l2 ys ∧
    ((IsZip h z TI TO .none ∧ ∃ a b, IsPair h TO a b) ∨ ∃ T f oT, IsZipHeld h z TI TO T f ∧ h.get? T = some oT ∧ T ≠ z ∧ T ≠ i1 ∧ T ≠ i2 ∧ T ≠ S)
/-- all that a zip holds stands below S -/
structure ZLow (z TI TO i1 i2 l1 l2 S : Addr) : Prop where
  z : z < S
  TI : TI < S
  TO : TO < S
  i1 : i1 < S
  i2 : i2 < S
  l1 : l1 < S
  l2 : l2 < S
theorem ZSt.keep {h h' : Heap} {z TI TO i1 i2 l1 l2 S : Addr} {xs ys : Array Value} {i : Nat} (B : ZLow z TI TO i1 i2 l1 l2 S) (st : ZSt h z TI TO i1 i2 l1 l2 S xs ys i) (hk : ∀ b o, b ≠ S → h.get? b = some o → h'.get? b = some o) : ZSt h' z TI TO i1 i2 l1 l2 S xs ys i := by
  obtain ⟨hTI, h1, h2, hl1, hl2, hz⟩ := st
  refine ⟨hk _ _ (Nat.ne_of_lt B.TI) hTI, h1.at fun o e => hk _ o (Nat.ne_of_lt B.i1) e, h2.at fun o e => hk _ o (Nat.ne_of_lt B.i2) e, hl1.at fun o e => hk _ o (Nat.ne_of_lt B.l1) e, hl2.at fun o e => hk _ o (Nat.ne_of_lt B.l2) e, ?_⟩
  rcases hz with ⟨hz, a, b, hTO⟩ | ⟨T, f, oT, hz, hT, r1, r2, r3, r4⟩
  · exact .inl ⟨hk _ _ (Nat.ne_of_lt B.z) hz, a, b, hk _ _ (Nat.ne_of_lt B.TO) hTO⟩
  · exact .inr ⟨T, f, oT, hk _ _ (Nat.ne_of_lt B.z) hz, hk _ _ r4 hT, r1, r2, r3, r4⟩
structure ZG (xs ys : Array Value) (lo : Addr) (h : Heap) (as : List Addr) : Prop where
  rise : as.Pairwise (· < ·)
  above : ∀ a ∈ as, lo < a
  pairs : ∀ (j : Nat) (a : Addr), as[j]? = some a → ∃ x y, xs[j]? = some x ∧ ys[j]? = some y ∧ IsPair h a x y
theorem ZG.there {xs ys : Array Value} {lo : Addr} {h : Heap} {as : List Addr} (g : ZG xs ys lo h as) {a : Addr} (ha : a ∈ as) : a < h.objs.size := by
  obtain ⟨j, hj⟩ := List.mem_iff_getElem?.mp ha
  obtain ⟨_, _, _, _, e⟩ := g.pairs j a hj
  exact Heap.lt_size e
section
variable {prog : Program} {w : World} {A : Around} {E : Value → Shared → Prop} {s : Shared} {z TI TO i1 i2 l1 l2 S : Addr} {xs ys : Array Value}
theorem zl_item {i : Nat} {x y : Value} {Q : Option Value → Shared → Prop} (D : ZipApart z TI TO i1 i2 l1 l2) (B : ZLow z TI TO i1 i2 l1 l2 S) (st : ZSt s.heap z TI TO i1 i2 l1 l2 S xs ys i) (hS : S < s.heap.objs.size)
    (ex : xs[i]? = some x) (ey : ys[i]? = some y)
    (hQ : ∀ h', ZSt h' z TI TO i1 i2 l1 l2 S xs ys (i + 1) → IsPair h' s.heap.objs.size x y → (∀ b o, b ≠ z → b ≠ TO → b ≠ i1 → b ≠ i2 → s.heap.get? b = some o → h'.get? b = some o) → Q (some (.ref s.heap.objs.size)) { s with heap := h' }) :
    wpAny (model prog w) A (pyNext (.ref z)) Q E s := by
  obtain ⟨hTI, h1, h2, hl1, hl2, hz⟩ := st
  have lt : ∀ {c o}, s.heap.get? c = some o → s.heap.objs.size ≠ c := fun e => Nat.ne_of_gt (Heap.lt_size e)
  have n1 : s.heap.objs.size ≠ i1 := let ⟨_, e, _⟩ := h1; lt e
  have n2 : s.heap.objs.size ≠ i2 := let ⟨_, e, _⟩ := h2; lt e
  rcases hz with ⟨hz, a, b, hTO⟩ | ⟨T, f, oT, hz, hT, r1, r2, r3, r4⟩
  · refine wpAny_pyNext_zip_item D hz hTI hTO h1 h2 hl1 hl2 ex ey fun h' a1 a2 a3 a4 a5 a6 hk => ?_
    exact hQ h' ⟨hk _ _ D.TIz D.TITO D.TIi1 D.TIi2 hTI, a3, a4, hl1.at fun o e => hk _ o D.l1z D.l1TO D.l1i1 D.l1i2 e, hl2.at fun o e => hk _ o D.l2z D.l2TO D.l2i1 D.l2i2 e,
      .inr ⟨s.heap.objs.size, false, _, a1, a5, lt hz, n1, n2, Nat.ne_of_gt hS⟩⟩ a5 hk
  · refine wpAny_pyNext_zip_item_held D hz hT hTI h1 h2 hl1 hl2 ex ey fun h' a1 a3 a4 a5 a6 hk => ?_
    exact hQ h' ⟨hk _ _ D.TIz D.TIi1 D.TIi2 hTI, a3, a4, hl1.at fun o e => hk _ o D.l1z D.l1i1 D.l1i2 e, hl2.at fun o e => hk _ o D.l2z D.l2i1 D.l2i2 e,
      .inr ⟨T, true, oT, a1, hk _ _ r1 r2 r3 hT, r1, r2, r3, r4⟩⟩ a5 fun b o c1 _ c2 c3 e => hk b o c1 c2 c3 e
theorem zl_done {i : Nat} {Q : Option Value → Shared → Prop} (hh : A.handled = none) (D : ZipApart z TI TO i1 i2 l1 l2) (st : ZSt s.heap z TI TO i1 i2 l1 l2 S xs ys i)
    (hend : xs[i]? = none ∨ ys[i]? = none)
    (hQ : ∀ h', (∀ b o, b ≠ z → b ≠ TO → b ≠ i1 → b ≠ i2 → s.heap.get? b = some o → h'.get? b = some o) → Q none { s with heap := h' }) :
    wpAny (model prog w) A (pyNext (.ref z)) Q E s := by
  obtain ⟨hTI, h1, h2, hl1, hl2, hz⟩ := st
  rcases hz with ⟨hz, a, b, hTO⟩ | ⟨T, f, oT, hz, hT, r1, r2, r3, r4⟩
  · exact wpAny_pyNext_zip_end hh D hz hTI hTO h1 h2 hl1 hl2 hend fun h' hk => hQ h' hk
  · exact wpAny_pyNext_zip_end_held hh D hz hT hTI h1 h2 hl1 hl2 hend fun h' hk => hQ h' fun b o c1 _ c2 c3 e => hk b o c1 c2 c3 e
end
section
variable {prog : Program} {w : World} {A : Around} {s : Shared} {R : Result → Shared → Prop} {z TI TO i1 i2 l1 l2 S : Addr} {xs ys : Array Value}
theorem zl_loop (hh : A.handled = none) (D : ZipApart z TI TO i1 i2 l1 l2) (B : ZLow z TI TO i1 i2 l1 l2 S) (hn : min xs.size ys.size ≤ sizeLine) (res : Value) {h₁ : Heap}
    (hR : ∀ h' tk acc c as, (∀ b o, b ≠ S → b ≠ z → b ≠ TO → b ≠ i1 → b ≠ i2 → h₁.get? b = some o → h'.get? b = some o) → h'.get? S = some { cls := .type "list", dict := none, data := .seq acc c, slots := #[] } → as.length = min xs.size ys.size → ZG xs ys S h' as →
      acc.toList = as.map Value.ref → R (.ok (.ret res)) { s with heap := h', toks := tk }) :
    ∀ (k i : Nat) (h : Heap) (tk c : Nat) (acc : Array Value) (as : List Addr), min xs.size ys.size - i = k → i ≤ min xs.size ys.size → ZSt h z TI TO i1 i2 l1 l2 S xs ys i → (∀ b o, b ≠ S → b ≠ z → b ≠ TO → b ≠ i1 → b ≠ i2 → h₁.get? b = some o → h.get? b = some o) →
      h.get? S = some { cls := .type "list", dict := none, data := .seq acc c, slots := #[] } → acc.toList = as.map Value.ref → as.length = i → ZG xs ys S h as →
      codeAny (model prog w) A (.builtin "list.extend.loop" ⟨[.ref S, .ref z, res], []⟩) R { s with heap := h, toks := tk } := by
  have hSz : S ≠ z := Nat.ne_of_gt B.z
  have hSTO : S ≠ TO := Nat.ne_of_gt B.TO
  have hS1 : S ≠ i1 := Nat.ne_of_gt B.i1
  have hS2 : S ≠ i2 := Nat.ne_of_gt B.i2
  have off : ∀ b, S < b → b ≠ z ∧ b ≠ TO ∧ b ≠ i1 ∧ b ≠ i2 := fun b hb => ⟨Nat.ne_of_gt (Nat.lt_trans B.z hb), Nat.ne_of_gt (Nat.lt_trans B.TO hb), Nat.ne_of_gt (Nat.lt_trans B.i1 hb), Nat.ne_of_gt (Nat.lt_trans B.i2 hb)⟩
  intro k
  induction k with
  | zero =>
    intro i h tk c acc as hk hi hst hkeep hS hacc hal hG
    have hin : i = min xs.size ys.size := by omega
    have hend : xs[i]? = none ∨ ys[i]? = none := by
      rcases Nat.le_total xs.size ys.size with q | q
      · exact .inl (Array.getElem?_eq_none (by rw [hin, Nat.min_eq_left q]; exact Nat.le_refl _))
      · exact .inr (Array.getElem?_eq_none (by rw [hin, Nat.min_eq_right q]; exact Nat.le_refl _))
    refine codeAny_builtin PySem.F.entry_extend_loop ?_
    rw [Around.under_plainId PySem.F.plain_extend_loop _]
    show wpAny _ A.in1 (pyNext (.ref z) >>= _) _ _ _
    refine wpAny_bind (zl_done (s := { s with heap := h, toks := tk }) (A := A.in1) hh D hst hend fun h' he => ?_)
    refine wpAny_pure (hR h' tk acc c as (fun b o h1 h2 h3 h4 h5 e => he b o h2 h3 h4 h5 (hkeep b o h1 h2 h3 h4 h5 e)) (he S _ hSz hSTO hS1 hS2 hS) (by omega) ⟨hG.rise, hG.above, fun j a hj => ?_⟩ hacc)
    obtain ⟨x, y, e1, e2, e3⟩ := hG.pairs j a hj
    obtain ⟨o1, o2, o3, o4⟩ := off a (hG.above a (List.mem_of_getElem? hj))
    exact ⟨x, y, e1, e2, he a _ o1 o2 o3 o4 e3⟩
  | succ k ih =>
    intro i h tk c acc as hk hi hst hkeep hS hacc hal hG
    have hlt : i < min xs.size ys.size := by omega
    have ex : xs[i]? = some xs[i] := Array.getElem?_eq_getElem (by omega)
    have ey : ys[i]? = some ys[i] := Array.getElem?_eq_getElem (by omega)
    have hsz : acc.size = i := by rw [← Array.length_toList, hacc, List.length_map, hal]
    refine codeAny_builtin PySem.F.entry_extend_loop ?_
    rw [Around.under_plainId PySem.F.plain_extend_loop _]
    show wpAny _ A.in1 (pyNext (.ref z) >>= _) _ _ _
    refine wpAny_bind (zl_item (s := { s with heap := h, toks := tk }) D B hst (Heap.lt_size hS) ex ey fun h' hst' ht hkp => ?_)
    dsimp only at ht hkp ⊢
    have hS' := hkp S _ hSz hSTO hS1 hS2 hS
    have up : ∀ b o, b ≠ S → h'.get? b = some o → (h'.update S (Obj.mapSeq (·.push (Value.ref h.objs.size)))).get? b = some o := fun b o hb e => (Heap.get?_update_other _ _ (Ne.symm hb)).trans e
    have hSl : S < h.objs.size := Heap.lt_size hS
    show wpAny _ A.in1 (updateSeq S (·.push (Value.ref h.objs.size)) >>= _) _ _ _
    refine wpAny_bind ?_
    refine wpAny_updateSeq hS' rfl (wpAny_pure ⟨plainId_quiet PySem.F.plain_extend_loop _, ih (i + 1) _ tk _ (acc.push (Value.ref h.objs.size)) (as ++ [h.objs.size]) (by omega) hlt (hst'.keep B up)
      (fun b o h1 h2 h3 h4 h5 e => up b o h1 (hkp b o h2 h3 h4 h5 (hkeep b o h1 h2 h3 h4 h5 e))) (Heap.get?_update_self _ hS' rfl) (by rw [Array.toList_push, hacc, List.map_append]; rfl) (by rw [List.length_append, hal]; rfl) ⟨?_, ?_, ?_⟩⟩) (by rw [hsz]; omega) (by show (acc.push (Value.ref h.objs.size)).size ≤ sizeLine + 1; rw [Array.size_push, hsz]; omega)
    · refine List.pairwise_append.mpr ⟨hG.rise, List.pairwise_singleton _ _, fun a ha b hb => ?_⟩
      rw [List.mem_singleton.mp hb]
      exact hG.there ha
    · intro a ha
      rcases List.mem_append.mp ha with ha | ha
      · exact hG.above a ha
      · rw [List.mem_singleton.mp ha]; exact hSl
    · intro j b hj
      rcases Nat.lt_trichotomy j as.length with h1 | h1 | h1
      · rw [List.getElem?_append_left h1] at hj
        obtain ⟨x', y', e1, e2, e3⟩ := hG.pairs j b hj
        have hb := hG.above b (List.mem_of_getElem? hj)
        obtain ⟨o1, o2, o3, o4⟩ := off b hb
        exact ⟨x', y', e1, e2, up b _ (Nat.ne_of_gt hb) (hkp b _ o1 o2 o3 o4 e3)⟩
      · subst h1
        have hb : h.objs.size = b := by simpa using hj
        subst hb
        exact ⟨_, _, by rw [hal]; exact ex, by rw [hal]; exact ey, up _ _ (Nat.ne_of_gt hSl) ht⟩
      · have hnone : (as ++ [h.objs.size])[j]? = none := List.getElem?_eq_none (by rw [List.length_append, List.length_singleton]; omega)
        rw [hnone] at hj; cases hj
end
theorem zip_nolen : typeLookup (.type "zip") "__len__" = pure none := by rw [typeLookup_type, builtinLookup_eq_fast]; kernel_rfl
theorem zip_nohint : typeLookup (.type "zip") "__length_hint__" = pure none := by rw [typeLookup_type, builtinLookup_eq_fast]; kernel_rfl
section
variable {prog : Program} {w : World} {A : Around} {s : Shared} {z TI TO i1 i2 l1 l2 S : Addr} {xs ys : Array Value}
theorem zl_extend {R : Result → Shared → Prop} (hh : A.handled = none) (D : ZipApart z TI TO i1 i2 l1 l2) (B : ZLow z TI TO i1 i2 l1 l2 S) (hz : IsZip s.heap z TI TO .none) (st : ZSt s.heap z TI TO i1 i2 l1 l2 S xs ys 0) (res : Value) (c₀ : Nat) (hS : s.heap.get? S = some { cls := .type "list", data := .seq #[] c₀ })
    (hR : ∀ h' tk acc c as, (∀ b o, b ≠ S → b ≠ z → b ≠ TO → b ≠ i1 → b ≠ i2 → s.heap.get? b = some o → h'.get? b = some o) → h'.get? S = some { cls := .type "list", dict := none, data := .seq acc c, slots := #[] } → as.length = min xs.size ys.size → ZG xs ys S h' as →
      acc.toList = as.map Value.ref → R (.ok (.ret res)) { s with heap := h', toks := tk }) (hn : min xs.size ys.size ≤ sizeLine) :
    wpAny (model prog w) A.in1 (Builtin.List.listExtendWith (.ref S) (.ref z) res)
      (fun fin s' => match fin with | .done f => R (.ok f) s' | .again c' => c'.quiet = true ∧ codeAny (model prog w) A c' R s') (fun e s' => R (.error e) s') s := by
  have hT : s.TypeIs (.ref z) "zip" := ⟨_, hz, rfl⟩
  have key : ∀ (h : Heap) (c₁ tk : Nat), (∀ b o, b ≠ S → s.heap.get? b = some o → h.get? b = some o) →
      h.get? S = some { cls := .type "list", data := .seq #[] c₁ } → codeAny (model prog w) A (.builtin "list.extend.loop" ⟨[.ref S, .ref z, res], []⟩) R { s with heap := h, toks := tk } := by
    intro h c₁ tk hk hS₁
    exact zl_loop (s := s) (h₁ := s.heap) hh D B hn res hR
      (min xs.size ys.size) 0 h tk c₁ #[] [] (Nat.sub_zero _) (Nat.zero_le _) (st.keep B hk) (fun b o hb _ _ _ _ e => hk b o hb e) hS₁ rfl rfl
      ⟨List.Pairwise.nil, (fun _ ha => nomatch ha), (fun j a hj => by simp at hj)⟩
  unfold Builtin.List.listExtendWith
  refine wpAny_bind (wpAny_typeOf hT ?_)
  have h1 : Builtin.List.listSameRef (.ref S) (.ref z) = false := by
    have := Nat.ne_of_gt B.z
    simp [Builtin.List.listSameRef, this]
  have h2 : (Value.type "zip" == Value.type "list") = false := by decide
  have h3 : (Value.type "zip" == Value.type "tuple") = false := by decide
  simp only [h1, h2, h3, Bool.or_false, Bool.false_eq_true, if_false]
  refine wpAny_bind (wpAny_pyIter_zip hz ?_)
  refine wpAny_bind (wpAny_holding ?_)
  unfold Builtin.List.listLengthHint
  refine wpAny_bind (wpAny_specialOf hT zip_nolen ?_)
  show wpAny _ A.in1 (specialOf (Value.ref z) (Str.ofString "__length_hint__") >>= _) _ _ _
  refine wpAny_bind (wpAny_specialOf hT zip_nohint ?_)
  refine wpAny_pure ?_
  refine wpAny_ite_split (fun _ => ?_) (fun _ => wpAny_pure ⟨plainId_quiet PySem.F.plain_extend_loop _, key _ c₀ _ (fun b o _ e => e) hS⟩)
  refine wpAny_bind (wpAny_rule ?_)
  refine wpAny_bind ?_
  show wpAny _ _ (updateSeq S (·.push .none) >>= fun _ => updateSeq S (·.pop)) _ _ _
  refine wpAny_bind (wpAny_updateSeq hS rfl ?_)
  have hS₂ := Heap.get?_update_self (Obj.mapSeq (·.push Value.none)) hS rfl
  refine wpAny_updateSeq (hz := by seq_fits) hS₂ rfl ?_
  have hS₃ := Heap.get?_update_self (Obj.mapSeq (·.pop)) hS₂ rfl
  refine wpAny_pure ⟨plainId_quiet PySem.F.plain_extend_loop _, key _ _ _ (fun b o hb e => ?_) hS₃⟩
  exact (Heap.get?_update_other _ _ (Ne.symm hb)).trans ((Heap.get?_update_other _ _ (Ne.symm hb)).trans e)
theorem zl_init {R : Result → Shared → Prop} (hh : A.handled = none) (D : ZipApart z TI TO i1 i2 l1 l2) (B : ZLow z TI TO i1 i2 l1 l2 S) (hz : IsZip s.heap z TI TO .none) (st : ZSt s.heap z TI TO i1 i2 l1 l2 S xs ys 0) (hS : s.heap.get? S = some { cls := .type "list", data := .seq #[] })
    (hR : ∀ h' tk acc c as, (∀ b o, b ≠ S → b ≠ z → b ≠ TO → b ≠ i1 → b ≠ i2 → s.heap.get? b = some o → h'.get? b = some o) → h'.get? S = some { cls := .type "list", dict := none, data := .seq acc c, slots := #[] } → as.length = min xs.size ys.size → ZG xs ys S h' as →
      acc.toList = as.map Value.ref → R (.ok (.ret .none)) { s with heap := h', toks := tk }) (hn : min xs.size ys.size ≤ sizeLine) :
    wpAny (model prog w) A.in1 (Builtin.«list.__init__» ⟨[.ref S, .ref z], []⟩)
      (fun fin s' => match fin with | .done f => R (.ok f) s' | .again c' => c'.quiet = true ∧ codeAny (model prog w) A c' R s') (fun e s' => R (.error e) s') s := by
  show wpAny _ _ (do let old ← Builtin.List.listItems (.ref S); Builtin.List.listUpdate (.ref S) (fun _ => #[]); letGo old.toList.reverse; Builtin.List.listExtendWith (.ref S) (.ref z) .none) _ _ s
  refine wpAny_bind ?_
  unfold Builtin.List.listItems
  refine wpAny_bind (wpAny_seqItems hS rfl (wpAny_pure ?_))
  show wpAny _ _ (updateSeq S (fun _ => #[]) >>= fun _ => letGo (#[] : Array Value).toList.reverse >>= fun _ => Builtin.List.listExtendWith (.ref S) (.ref z) .none) _ _ s
  refine wpAny_bind (wpAny_updateSeq hS rfl ?_)
  have hS₂ := Heap.get?_update_self (Obj.mapSeq (fun _ => (#[] : Array Value))) hS rfl
  have oth : ∀ b o, b ≠ S → s.heap.get? b = some o → (s.heap.update S (Obj.mapSeq (fun _ => (#[] : Array Value)))).get? b = some o :=
    fun b o hb e => (Heap.get?_update_other _ _ (Ne.symm hb)).trans e
  refine wpAny_bind (wpAny_letGo ?_)
  refine zl_extend (s := { s with heap := s.heap.update S (Obj.mapSeq (fun _ => (#[] : Array Value))) }) hh D B (oth z _ (Nat.ne_of_lt B.z) hz) (st.keep B oth) .none _ hS₂ (fun h' tk acc c as hk hS' hl hG hacc => ?_) hn
  exact hR h' tk acc c as (fun b o hb b2 b3 b4 b5 e => hk b o hb b2 b3 b4 b5 (oth b o hb e)) hS' hl hG hacc
theorem zl_call {E : Value → Shared → Prop} {Q : Value → Shared → Prop} (hh : A.handled = none) (D : ZipApart z TI TO i1 i2 l1 l2) (B : ZLow z TI TO i1 i2 l1 l2 s.heap.objs.size) (hz : IsZip s.heap z TI TO .none)
    (hTI : IsPair s.heap TI (.ref i1) (.ref i2)) (hTO : ∃ a b, IsPair s.heap TO a b) (h1 : s.heap.IsListIter i1 l1 0) (h2 : s.heap.IsListIter i2 l2 0) (hl1 : s.heap.IsList l1 xs) (hl2 : s.heap.IsList l2 ys) (hn : min xs.size ys.size ≤ sizeLine)
    (hQ : ∀ h' tk acc c as, (∀ b o, b ≠ z → b ≠ TO → b ≠ i1 → b ≠ i2 → s.heap.get? b = some o → h'.get? b = some o) → h'.get? s.heap.objs.size = some { cls := .type "list", dict := none, data := .seq acc c, slots := #[] } → as.length = min xs.size ys.size → ZG xs ys s.heap.objs.size h' as →
      acc.toList = as.map Value.ref → Q (.ref s.heap.objs.size) { s with heap := h', toks := tk }) :
    wpAny (model prog w) A (call (.type "list") [.ref z]) Q E s := by
  refine callType_codes (Q₁ := fun obj s₁ => obj = .ref s.heap.objs.size ∧ s₁ = { s with heap := s.heap.push { cls := .type "list", data := .seq #[] } }) PySem.F.called_list (PySem.F.typeCall_list_1 _) PySem.F.entry_list_init
    (code_list_new _ ⟨rfl, rfl⟩) fun obj s₁ h₁ => ?_
  obtain ⟨rfl, rfl⟩ := h₁
  have hS : (s.heap.push { cls := .type "list", data := .seq #[] }).get? s.heap.objs.size = some { cls := .type "list", data := .seq #[] } := Heap.get?_push_size _ rfl
  have pu : ∀ {b o}, s.heap.get? b = some o → (s.heap.push { cls := .type "list", data := .seq #[] }).get? b = some o := fun e => Heap.get?_push_of_some _ e
  obtain ⟨a, b, hTO⟩ := hTO
  refine ⟨⟨_, hS, rfl⟩, PySem.F.args_list_init_2 _ _, zl_init (A := A.in1) (s := { s with heap := s.heap.push { cls := .type "list", data := .seq #[] } }) hh D B (pu hz) ⟨pu hTI, h1.at fun o e => pu e, h2.at fun o e => pu e, hl1.at fun o e => pu e, hl2.at fun o e => pu e, .inl ⟨pu hz, a, b, pu hTO⟩⟩ hS (fun h' tk acc c as hk hS' hl hG hacc => ?_) hn⟩
  exact ⟨rfl, hQ h' tk acc c as (fun b o b2 b3 b4 b5 e => hk b o (Nat.ne_of_lt (Heap.lt_size e)) b2 b3 b4 b5 (pu e)) hS' hl hG hacc⟩
end
end RT
namespace RT
open PySem PySem.Spec PyProof.Rows L2
/-- the pairs tracked at their addresses -/
def putP : Hp → List Addr → List (V × V) → Hp
  | H, a :: as, p :: ps => putP (upd H a (.tup [p.1, p.2])) as ps
  | H, _, _ => H
theorem putP_off {b : Addr} : ∀ (as : List Addr) (ps : List (V × V)) (H : Hp), b ∉ as → putP H as ps b = H b
  | [], _, _, _ => rfl
  | _ :: _, [], _, _ => rfl
  | a :: as, p :: ps, H, h => by
    show putP (upd H a (.tup [p.1, p.2])) as ps b = H b
    rw [putP_off as ps _ (fun z => h (List.mem_cons_of_mem _ z)), upd_ne (fun z => h (by rw [z]; exact List.mem_cons_self))]
theorem putP_at : ∀ (as : List Addr) (ps : List (V × V)) (H : Hp), as.Nodup → ∀ (j : Nat) (a : Addr) (p : V × V), as[j]? = some a → ps[j]? = some p → putP H as ps a = some (.tup [p.1, p.2])
  | [], _, _, _, j, a, p, h, _ => by cases h
  | _ :: _, [], _, _, j, a, p, _, h => by cases h
  | a :: as, q :: ps, H, hn, 0, b, p, h1, h2 => by
    have hn' := List.nodup_cons.mp hn
    have e1 : a = b := Option.some.inj h1
    have e2 : q = p := Option.some.inj h2
    subst e1 e2
    show putP (upd H a (.tup [q.1, q.2])) as ps a = some (.tup [q.1, q.2])
    rw [putP_off as ps _ hn'.1, upd_same]
  | a :: as, q :: ps, H, hn, j + 1, b, p, h1, h2 => by
    have hn' := List.nodup_cons.mp hn
    exact putP_at as ps _ hn'.2 j b p h1 h2
theorem vals_refs : ∀ as : List Addr, Vals (as.map V.ref) (as.map Value.ref)
  | [] => .nil
  | _ :: as => .cons rfl (vals_refs as)
section
variable {X : Cx} {pins : List (Addr × Obj)} {σ : L2.St} {H : Hp} {s : Shared}
theorem pairs_laid {h' : Heap} {tk : Nat} {S : Addr} {ps : List (V × V)} {acc : Array Value} {c : Nat} {as : List Addr} (I : Inv X pins σ H s) (hz : ps.length ≤ sizeLine) (hSz : s.heap.objs.size ≤ S)
    (hk : ∀ b o, s.heap.get? b = some o → h'.get? b = some o) (hS : h'.get? S = some { cls := .type "list", dict := none, data := .seq acc c, slots := #[] }) (hl : as.length = ps.length) (rise : as.Pairwise (· < ·)) (above : ∀ a ∈ as, S < a)
    (hp : ∀ (j : Nat) (a : Addr) (p : V × V), as[j]? = some a → ps[j]? = some p → ∃ u v, RelV p.1 u ∧ RelV p.2 v ∧ IsPair h' a u v) (hacc : acc.toList = as.map Value.ref) :
    ∃ H' : Hp, (∀ b o, H b = some o → H' b = some o) ∧ H S = none ∧ (∀ t ∈ as, H t = none) ∧ S ∉ as ∧ H' S = some (.lst (as.map V.ref)) ∧ (∀ (j : Nat) (a : Addr) (p : V × V), as[j]? = some a → ps[j]? = some p → H' a = some (.tup [p.1, p.2])) ∧ Inv X pins σ H' { s with heap := h', toks := tk } := by
  have hSn : S ∉ as := fun z => Nat.lt_irrefl _ (above _ z)
  have nd : as.Nodup := List.Pairwise.imp (fun {a b} (h : a < b) => Nat.ne_of_lt h) rise
  have new : ∀ t ∈ as, H t = none := fun t ht => I.hok.fresh (Nat.le_of_lt (Nat.lt_of_le_of_lt hSz (above t ht)))
  have newS : H S = none := I.hok.fresh hSz
  have atP := putP_at as ps (upd H S (.lst (as.map V.ref))) nd
  have off : ∀ b, b ∉ as → b ≠ S → putP (upd H S (.lst (as.map V.ref))) as ps b = H b := fun b h1 h2 => by rw [putP_off as ps _ h1, upd_ne h2]
  have low : ∀ b o, s.heap.get? b = some o → b ∉ as ∧ b ≠ S := fun b o e => ⟨fun z => absurd (Heap.lt_size e) (Nat.not_lt.mpr (Nat.le_of_lt (Nat.lt_of_le_of_lt hSz (above b z)))), Nat.ne_of_lt (Nat.lt_of_lt_of_le (Heap.lt_size e) hSz)⟩
  have kp : ∀ b u, H b = some u → (putP (upd H S (.lst (as.map V.ref))) as ps) b = some u := fun b u e => by
    rw [off b (fun z => by rw [new b z] at e; cases e) (fun z => by rw [z, newS] at e; cases e)]
    exact e
  have eS : putP (upd H S (.lst (as.map V.ref))) as ps S = some (.lst (as.map V.ref)) := by rw [putP_off as ps _ hSn, upd_same]
  refine ⟨putP (upd H S (.lst (as.map V.ref))) as ps, kp, newS, new, hSn, eS, atP, ?_⟩
  refine I.call' (ch := []) rfl ⟨fun b o q _ _ _ => hk b o q, fun b o q _ _ _ => ⟨o.slots, hk b o q⟩, fun b o q n _ => ?_, fun b o q _ => ⟨o, hk b o q⟩, fun b xs q => kp b _ q, fun b o u q => kp b _ q, fun b ps q => ⟨#[], by rw [kp b _ q]; simp⟩⟩ (fun b u q => ?_) I.bare fun b z => by simp at z
  · obtain ⟨z1, z2⟩ := low b o q
    rw [off b z1 z2]
    exact n
  · by_cases hb : b ∈ as
    · obtain ⟨j, ej⟩ := List.mem_iff_getElem?.mp hb
      have hj : j < ps.length := by
        have := (List.getElem?_eq_some_iff.mp ej).1
        omega
      have e2 : ps[j]? = some ps[j] := List.getElem?_eq_getElem hj
      rw [atP j b _ ej e2] at q
      cases q
      obtain ⟨x, y, r1, r2, f3⟩ := hp j b _ ej e2
      exact ⟨by show 2 ≤ sizeLine; decide, [x, y], .cons r1 (.cons r2 .nil), ⟨_, f3, rfl, _, rfl⟩⟩
    · by_cases hb2 : b = S
      · rw [hb2] at q ⊢
        rw [eS] at q
        cases q
        refine ⟨by rw [List.length_map]; omega, acc.toList, c, by rw [hacc]; exact vals_refs as, ?_⟩
        rw [Array.toArray_toList]
        exact hS
      · rw [off b hb hb2] at q
        exact (I.hok b u q).stay (fun d v _ y => hk d v y) (fun d y => kp d _ y) fun d xs y => kp d _ y
end
/-- list(zip(xs, ys)): a new list of new pairs -/
def tListZip (K : PySem.W.Frag) (ta : TA) : TE := fun σ H Q => ta σ H fun vs H1 => ∃ (a b : Addr) (xs ys : List V), vs = [.ref a, .ref b] ∧ SqL K H1 a xs ∧ SqL K H1 b ys ∧
  ∀ (H' : Hp) (p : Addr) (ts : List Addr), (∀ b o, H1 b = some o → H' b = some o) → H1 p = none → (∀ t ∈ ts, H1 t = none) → p ∉ ts → H' p = some (.lst (ts.map V.ref)) → ts.length = (xs.zip ys).length →
    (∀ (j : Nat) (t : Addr) (q : V × V), ts[j]? = some t → (xs.zip ys)[j]? = some q → H' t = some (.tup [q.1, q.2])) → Q (.ref p) H'
section
variable {X : Cx} {e e2 : Expr} {ta : TA} {p p2 pos pos2 : Pos}
theorem pe_listZip (hc : X.calm = true) (hgl : Gl X "list") (hml : X.mg "list" = none) (hg : Gl X "zip") (hm : X.mg "zip" = none) (ha : PA X [e, e2] ta)
    (hs1 : starEach [.Call (.Name "zip" p) [e, e2] [] pos] X.env = (false, eval (.Call (.Name "zip" p) [e, e2] [] pos) X.env) :: starEach [] X.env := by rfl)
    (hs : starEach [e, e2] X.env = (false, eval e X.env) :: starEach [e2] X.env := by rfl) (hpl : (backTo pos (starEach [e2] X.env)).any (·.1) = false := by rfl) :
    PE X (.Call (.Name "list" p2) [.Call (.Name "zip" p) [e, e2] [] pos] [] pos2) (tListZip X.K ta) := by
  refine ⟨fun pins s σ H Q I h => ?_⟩
  refine wpAny_Call_Name_kw (ld_blt I hgl hml boot_list ?_)
  refine PyProof.Rows.callWith_type1 ?_ hs1 rfl
  rw [hs1]
  show wpAny _ _ (spliced ((false, eval (.Call (.Name "zip" p) [e, e2] [] pos) X.env) :: backTo pos2 (starEach [] X.env))) _ _ s
  refine Calls.spliced_cons ?_
  refine Call_ (ld_blt I hg hm PyProof.Rows.boot_zip (PyProof.Rows.callWith_type1 (thn (ha.run pos pins s σ H _ I h) fun us s1 ⟨vs, H1, I1, r1, q1⟩ => ?_) hs hpl))
  obtain ⟨a, b, xs, ys, ex, hqx, hqy, q⟩ := q1
  subst ex
  cases r1 with
  | cons r rr =>
    cases rr with
    | cons r' rr =>
      cases rr
      cases r
      cases r'
      obtain ⟨its, rv, pl1, hz1⟩ := I1.list hqx
      obtain ⟨its2, rv2, pl2, hz2⟩ := I1.list hqy
      have la := pl1.lt
      have lb := pl2.lt
      refine call_zip_2 pl1.isList pl2.isList fun h' hz hTI hTO h1 h2 hsz hk => ?_
      refine Calls.spliced_nil ?_
      have len1 : its.toArray.size = xs.length := by rw [List.size_toArray, ← rv.length]
      have len2 : its2.toArray.size = ys.length := by rw [List.size_toArray, ← rv2.length]
      have B : ZLow (s1.heap.objs.size + 4) (s1.heap.objs.size + 2) (s1.heap.objs.size + 3) s1.heap.objs.size (s1.heap.objs.size + 1) a b h'.objs.size := by
        rw [hsz]
        refine ⟨?_, ?_, ?_, ?_, ?_, ?_, ?_⟩
        all_goals first | (exact Nat.lt_of_lt_of_le la (Nat.le_add_right _ _)) | (exact Nat.lt_of_lt_of_le lb (Nat.le_add_right _ _)) | (show _ < s1.heap.objs.size + 5; omega)
      refine zl_call (s := { s1 with heap := h' }) (I1.ok.hd hc) (PySem.W.ktu_apart s1.heap.objs.size a b la lb) B hz hTI ⟨_, _, hTO⟩ h1 h2 (pl1.isList.at fun o e => hk _ o e) (pl2.isList.at fun o e => hk _ o e) (by rw [len1, len2]; omega) fun h'' tk acc c as hk2 hS hl hG hacc => ?_
      have kept : ∀ b o, s1.heap.get? b = some o → h''.get? b = some o := fun b o e => by
        have lt := Heap.lt_size e
        refine hk2 b o ?_ ?_ ?_ ?_ (hk b o e)
        all_goals (intro z; rw [z] at lt; first | exact absurd lt (Nat.not_lt.mpr (Nat.le_add_right _ _)) | exact absurd lt (Nat.lt_irrefl _))
      have hlen : as.length = (xs.zip ys).length := by rw [hl, len1, len2, List.length_zip]
      obtain ⟨H', k1, k2, k3, k4, k5, k6, J⟩ := pairs_laid (tk := tk) (ps := xs.zip ys) I1 (by rw [List.length_zip]; omega) (by show s1.heap.objs.size ≤ h'.objs.size; rw [hsz]; exact Nat.le_add_right _ _) kept hS hlen hG.rise hG.above (fun j t q ej eq => by
        obtain ⟨u, v, e1, e2, e3⟩ := hG.pairs j t ej
        obtain ⟨g1, g2⟩ := List.getElem?_zip_eq_some.mp eq
        obtain ⟨u', hu', ru⟩ := rv.get g1
        obtain ⟨v', hv', rv'⟩ := rv2.get g2
        have eu : u' = u := by
          have : its.toArray[j]? = some u' := by simpa using hu'
          exact Option.some.inj (this.symm.trans e1)
        have ev : v' = v := by
          have : its2.toArray[j]? = some v' := by simpa using hv'
          exact Option.some.inj (this.symm.trans e2)
        subst eu ev
        exact ⟨_, _, ru, rv', e3⟩) hacc
      exact ⟨.ref _, H', J, rfl, q H' _ as k1 k2 k3 k4 k5 hlen k6⟩
end
end RT

set_option Elab.async false
set_option linter.all false
set_option maxRecDepth 100000
set_option maxHeartbeats 4000000
set_option exponentiation.threshold 600
namespace K22
open PySem PySem.Spec PyProof.Rows L2 RT SM
abbrev NO : List Str := Nodd_pieces ++ [("interval" : Str), ("end" : Str)]
theorem scO : FnScope NO ["intervals"] (defScope sodd_pieces) := ⟨rfl, rfl, rfl, by decide +kernel, rfl, by decide +kernel, by decide +kernel⟩
/-- every second end with the one behind it -/
def EvPieces (L : List Iv) (M : List Iv) : Prop := ∃ es : List Int, es.Perm (endsOf L) ∧ es.Pairwise (· ≤ ·) ∧ M = (ev es).zip (ev es.tail)
def spOddPieces (K : PySem.W.Frag) : Sp := fun vs H Q _ => ∃ (a : Addr) (us : List V) (L : List Iv), vs = [.ref a] ∧ SqL K H a us ∧ Ivs H us L ∧ Fine L ∧ ∀ (H' : Hp) (p : Addr) (ts : List V) (M : List Iv), Same H H' → H' p = some (.lst ts) → Ivs H' ts M → EvPieces L M → Q (.ref p) H'
theorem ivs_of_get {H : Hp} : ∀ {ts : List Addr} {M : List Iv}, ts.length = M.length → (∀ (j : Nat) (t : Addr) (q : Iv), ts[j]? = some t → M[j]? = some q → H t = some (.tup [.int q.1, .int q.2])) → Ivs H (ts.map V.ref) M
  | [], [], _, _ => .nil
  | [], _ :: _, h, _ => by cases h
  | _ :: _, [], h, _ => by cases h
  | t :: ts, q :: M, h, f => .cons ⟨t, rfl, f 0 t q rfl rfl⟩ (ivs_of_get (Nat.succ.inj h) fun j t' q' h1 h2 => f (j + 1) t' q' h1 h2)
section
variable {P : Program} {w : World} {K : PySem.W.Frag} {mg : Str → Option Value} {base : Heap}
theorem ok_oddpieces (D : Ds K) (T : Tx K mg) : FnOk P w K mg base CX0 1 (dodd_pieces.adr K) D.fd_odd_pieces ["intervals"] (spOddPieces K) := by
  refine D.F_odd_pieces.ok scO (fun vs H Q E h => ?_) (fun cdv A outer s H vs Q E hr h => ?_)
  · obtain ⟨a, us, L, rfl, _⟩ := h
    rfl
  · obtain ⟨a, us, L, rfl, ss, iv, fine, q⟩ := h
    have nd := scO.nd
    have hn := fine.1
    refine ⟨_, PSs.nox (pss_cons (ps_set (i := 1) nd rfl (.inl rfl) (pe_callB cr_sortedI (by rfl) T.z_sorted (by decide +kernel) (pa_cons
          (pe_lc2 (own := [(("interval" : Str), 2), (("end" : Str), 3)]) (vs1 := [3]) (g := gName 2) (tt := tYes) (wi1 := iTup K (tVar 2)) (g1 := gName 3) (tt1 := tYes) (te := tVar 3) rfl nd (pi_list (pv 0))
            (blkOk_by (own := [(("interval" : Str), 2), (("end" : Str), 3)]) (N := NO) (sc := defScope sodd_pieces) (by decide +kernel)) (by decide) (fun _ _ _ _ _ => pg_name (i := 2) nd rfl (Or.inl rfl)) (fun _ _ _ _ _ => pts_nil)
            (fun _ _ _ _ _ => pi_tup (pv 2)) (fun _ _ _ _ _ => pg_name (i := 3) nd rfl (Or.inl rfl)) (fun _ _ _ _ _ => pts_nil) (fun _ _ _ _ _ => pv 3)) pa_nil)))
      (pss_one (ps_ret (pe_listZip rfl (by rfl) T.z_list (by rfl) T.z_zip (pa_cons (pe_step (pv 1) po_none po_none (po_some pe_int)) (pa_cons (pe_step (pv 1) (po_some pe_int) po_none (po_some pe_int)) pa_nil)))))), ?_⟩
    have hl := iv.len
    refine ⟨_, rfl, a, rfl, ⟨_, ss⟩, fun D1 hD => ?_⟩
    have sD : ∀ {H' : Hp} {o : HO}, Same H H' → Same H (upd H' D1 o) := fun {H' o} s b u h => by
      rw [upd_ne (ne_of_none h hD)]
      exact s b u h
    have hs : ∀ i : Nat, i < us.length → ∃ (p : Iv) (t : Addr), L[i]? = some p ∧ us[i]? = some (.ref t) ∧ H t = some (.tup [.int p.1, .int p.2]) := fun i hi => by
      obtain ⟨p, hp, t, et, ht⟩ := iv.get (List.getElem?_eq_getElem hi)
      exact ⟨p, t, hp, by rw [List.getElem?_eq_getElem hi, et], ht⟩
    refine ⟨fun i m H' => m = us.length - i ∧ i ≤ us.length ∧ Same H H' ∧ H' D1 = some (.lst ((endsOf (L.take i)).map V.int)), ⟨us.length, by simp, Nat.zero_le _, sD fun _ _ h => h, upd_same⟩, ?_⟩
    rintro i m H2 ⟨rfl, hi, s2, e2⟩
    have ss2 := same_sql s2 ss
    by_cases hlt : i < us.length
    · obtain ⟨p, t, hp, ht, et⟩ := hs i hlt
      have el : (endsOf (L.take i)).length = 2 * i := by rw [endsOf_len, List.length_take, Nat.min_eq_left (by omega)]
      refine .inr ⟨(walk_list (xs := us)).goes i H2 hlt ss2, fun H' => Same H H' ∧ H' D1 = some (.lst ((endsOf (L.take (i + 1))).map V.int)), fun H' h => ⟨us.length - (i + 1), by omega, rfl, hlt, h⟩, fun x H' y => ?_⟩
      obtain ⟨rfl, hx⟩ := (walk_list (xs := us)).yields i H2 x H' hlt ss2 y
      rw [ht] at hx
      cases hx
      refine ⟨rfl, _, rfl, t, rfl, ⟨_, tupT (s2 _ _ et)⟩, ?_⟩
      have tk : endsOf (L.take (i + 1)) = endsOf (L.take i) ++ [p.1, p.2] := by
        rw [List.take_succ, hp]
        unfold endsOf
        rw [List.flatMap_append]
        rfl
      refine ⟨fun j k H3 => k = 2 - j ∧ j ≤ 2 ∧ Same H H3 ∧ H3 D1 = some (.lst ((endsOf (L.take i) ++ [p.1, p.2].take j).map V.int)), ⟨2, rfl, by decide, s2, by rw [List.take_zero, List.append_nil]; exact e2⟩, ?_⟩
      rintro j k H3 ⟨rfl, hj, s3, e3⟩
      have st3 : SqT K H3 t ([p.1, p.2].map V.int) := tupT (s3 _ _ et)
      by_cases hj2 : j < 2
      · refine .inr ⟨(walk_tup (xs := [p.1, p.2].map V.int)).goes j H3 hj2 st3, fun H' => Same H H' ∧ H' D1 = some (.lst ((endsOf (L.take i) ++ [p.1, p.2].take (j + 1)).map V.int)), fun H' h => ⟨2 - (j + 1), by omega, rfl, hj2, h⟩, fun x H' y => ?_⟩
        obtain ⟨rfl, hx⟩ := (walk_tup (xs := [p.1, p.2].map V.int)).yields j H3 x H' hj2 st3 y
        rw [List.getElem?_map] at hx
        obtain ⟨n, hn2, rfl⟩ := Option.map_eq_some_iff.mp hx
        refine ⟨rfl, _, rfl, _, e3, ?_, sD s3, ?_⟩
        · rw [List.length_map, List.length_append, List.length_take, el]
          exact Nat.lt_of_lt_of_le (show 2 * i + min j 2 < 2000 by omega) (by decide)
        · simp only [upd_same, List.take_succ, hn2, List.map_append, List.append_assoc, Option.toList, List.map_cons, List.map_nil]
      · have ej : j = 2 := by omega
        subst ej
        exact .inl ⟨(walk_tup (xs := [p.1, p.2].map V.int)).stops H3 st3, s3, by rw [tk]; exact e3⟩
    · have ei : i = us.length := by omega
      subst ei
      rw [hl, List.take_length] at e2
      refine .inl ⟨(walk_list (xs := us)).stops H2 ss2, ?_⟩
      refine ⟨D1, endsOf L, rfl, lstL e2, fun es p1 hperm hsort hp1 => ?_⟩
      have s3 := same_new (o := .lst (es.map V.int)) hp1
      have e3 : upd H2 p1 (.lst (es.map V.int)) p1 = some (.lst (es.map V.int)) := upd_same
      have even : es.length % 2 = 0 := by
        rw [hperm.length_eq, endsOf_len]
        omega
      have few : es.length ≤ 1800 := by
        rw [hperm.length_eq, endsOf_len]
        omega
      refine ⟨_, rfl, p1, _, rfl, 2, rfl, by decide, lstL e3, fun p2 hp2 => ?_⟩
      have s4 := same_new (o := .lst (pickV (es.map V.int) none none (some 2))) hp2
      refine ⟨_, rfl, p1, _, rfl, 1, rfl, 2, rfl, by decide, lstL (s4 _ _ e3), fun p3 hp3 => ?_⟩
      have s5 := same_new (o := .lst (pickV (es.map V.int) (some 1) none (some 2))) hp3
      have q2 : pickV (es.map V.int) none none (some 2) = (ev es).map V.int := by rw [pick_ev, ev_map]
      have q3 : pickV (es.map V.int) (some 1) none (some 2) = (ev es.tail).map V.int := by rw [pick_od, ← List.map_tail, ev_map]
      rw [q2] at s4 hp3 s5 ⊢
      rw [q3] at s5 ⊢
      have sX := s3.trans (s4.trans s5)
      refine ⟨p2, p3, _, _, rfl, lstL (s5 _ _ upd_same), lstL upd_same, fun H9 p9 ts k1 k2 k3 k4 k5 k6 k7 => ?_⟩
      have ez : ((ev es).map V.int).zip ((ev es.tail).map V.int) = ((ev es).zip (ev es.tail)).map (Prod.map V.int V.int) := List.zip_map ..
      rw [ez] at k6 k7
      refine q H9 p9 _ ((ev es).zip (ev es.tail)) (s2.trans (sX.trans k1)) k5 (ivs_of_get (by rw [k6, List.length_map]) fun j t r h1 h2 => ?_) ⟨es, hperm, hsort, rfl⟩
      exact k7 j t (V.int r.1, V.int r.2) h1 (by rw [List.getElem?_map, h2]; rfl)
abbrev NQ : List Str := Ncount_odd_in ++ [("start" : Str), ("end" : Str)]
theorem scQ : FnScope NQ ["intervals"] (defScope scount_odd_in) := ⟨rfl, rfl, rfl, by decide +kernel, rfl, by decide +kernel, by decide +kernel⟩
theorem zip_sum : ∀ (xs ys : List Int), ((xs.zip ys).map fun p => p.2 - p.1) = List.zipWith (fun a b => b - a) xs ys
  | [], _ => rfl
  | _ :: _, [] => rfl
  | x :: xs, y :: ys => by
    show (y - x) :: ((xs.zip ys).map fun p => p.2 - p.1) = (y - x) :: List.zipWith (fun a b => b - a) xs ys
    rw [zip_sum xs ys]
theorem filter_true' {α : Type} (l : List α) : (l.filter fun _ => true) = l := List.filter_eq_self.mpr fun _ _ => rfl
theorem ok_oddin (D : Ds K) (T : Tx K mg) : FnOk P w K mg base CX0 2 (dcount_odd_in.adr K) D.fd_count_odd_in ["intervals"] (spSpan K OddOf) := by
  have G : FnOk P w K mg base CX0 1 _ _ _ (spOddPieces K) := ok_oddpieces D T
  refine D.F_count_odd_in.ok scQ (fun vs H Q E h => ?_) (fun cdv A outer s H vs Q E hr h => ?_)
  · obtain ⟨a, us, L, rfl, _⟩ := h
    rfl
  · obtain ⟨a, us, L, rfl, ss, iv, fine, q⟩ := h
    have nd := scQ.nd
    have hn := fine.1
    refine ⟨_, PSs.nox (pss_one (ps_ret (pe_callB (cr_sum rfl) (by rfl) T.z_sum (by decide +kernel) (pa_cons
          (pe_lc (own := [(("start" : Str), 1), (("end" : Str), 2)]) (g := gTup K 2 (gCons (gName 1) (gCons (gName 2) gNil))) (tt := tYes) (te := tOp (rI0 fun i j => .int (i - j)) (tVar 2) (tVar 1)) rfl nd
            (pi_list (pe_call G hr (by rfl) T.g_odd_pieces D.F_odd_pieces.kp (b_odd_pieces D) .nil pass0 (pa_cons (pv 0) pa_nil)))
            (blkOk_by (own := [(("start" : Str), 1), (("end" : Str), 2)]) (N := NQ) (sc := defScope scount_odd_in) (by decide +kernel))
            (fun _ _ _ _ _ => pg_tup rfl (pgs_cons (pg_name (i := 1) nd rfl (Or.inl rfl)) (pgs_cons (pg_name (i := 2) nd rfl (Or.inl rfl)) pgs_nil))) (fun _ _ _ _ _ => pts_nil) (fun _ _ _ _ _ => pe_op op_sub (pv 2) (pv 1))) pa_nil)))), ?_⟩
    refine ⟨_, rfl, a, us, L, rfl, ss, iv, fine, fun H1 p ts M s1 e1 ivM pc => ?_⟩
    obtain ⟨es, hperm, hsort, rfl⟩ := pc
    have evl : ∀ l : List Int, (ev l).length ≤ l.length := fun l => by
      induction l using ev.induct with
      | case1 => exact Nat.le_refl _
      | case2 x => exact Nat.le_refl _
      | case3 x y r ih =>
        show (ev r).length + 1 ≤ r.length + 1 + 1
        omega
    have few : es.length ≤ 1800 := by
      rw [hperm.length_eq, endsOf_len]
      omega
    have even : es.length % 2 = 0 := by
      rw [hperm.length_eq, endsOf_len]
      omega
    have many : ((ev es).zip (ev es.tail)).length ≤ 2000 := by
      have := evl es
      rw [List.length_zip]
      omega
    refine ⟨p, rfl, ⟨_, lstL e1⟩, fun p6 hp6 => lc_ivs (us := ts) (fun _ => true) (fun p => p.2 - p.1) (lstL e1) ivM many hp6 (fun x y => rfl) (fun p H' Q _ _ h => h) (fun p H' Q _ _ h => ⟨_, rfl, _, rfl, _, _, rfl, rfl, h⟩) fun H8 s8 e8 => ?_⟩
    refine ⟨p6, _, rfl, lstL e8, ?_⟩
    refine q _ _ (s1.trans s8) ?_
    rw [filter_true', zip_sum, alt_zip es even]
    exact odd_alt (fun p hp => (fine.2 p hp).1) hperm hsort
theorem ok_odd (D : Ds K) (T : Tx K mg) : FnOk P w K mg base CX0 5 (dodd_covered.adr K) D.fd_odd_covered ["intervals"] (spSpan K OddOf) := by
  have G : FnOk P w K mg base CX0 4 _ _ _ (spCheck K) := ok_check D T
  have G2 : FnOk P w K mg base CX0 2 _ _ _ (spSpan K OddOf) := ok_oddin D T
  refine D.F_odd_covered.ok scodd_covered (fun vs H Q E h => ?_) (fun cdv A outer s H vs Q E hr h => ?_)
  · obtain ⟨a, us, L, rfl, _⟩ := h
    rfl
  · obtain ⟨a, us, L, rfl, ss, iv, fine, q⟩ := h
    refine ⟨_, PSs.nox (pss_cons (ps_expr (pe_call G hr (by rfl) T.g_check_intervals D.F_check_intervals.kp (b_check_intervals D) .nil pass0 (pa_cons (pv 0) pa_nil)))
      (pss_one (ps_ret (pe_call G2 (hr.mono (by decide)) (by rfl) T.g_count_odd_in D.F_count_odd_in.kp (b_count_odd_in D) .nil pass0 (pa_cons (pv 0) pa_nil))))), ?_⟩
    refine ⟨_, rfl, a, us, L, rfl, ss, iv, fine, fun H1 s1 => ?_⟩
    exact ⟨_, rfl, a, us, L, rfl, same_sql s1 ss, iv.same s1, fine, fun v H' s' h => q v H' (s1.trans s') h⟩
end
end K22

set_option Elab.async false
set_option linter.all false
set_option maxRecDepth 100000
set_option maxHeartbeats 4000000
set_option exponentiation.threshold 600
namespace K22
open PySem PySem.Spec PyProof.Rows L2 RT SM
theorem ite_t' {c : Bool} {A B : Prop} (e : c = true) (h : A) : if c = true then A else B := by
  rw [e]
  exact iteT h
/-- the two ints of a pair -/
def pairAt (H : Hp) : V → Int × Int
  | .ref t => match H t with
    | some (.tup [.int i, .int j]) => (i, j)
    | _ => (0, 0)
  | _ => (0, 0)
theorem pairAt_of {H : Hp} {v : V} {p : Iv} (h : IvAt H v p) : pairAt H v = p := by
  obtain ⟨t, rfl, e⟩ := h
  show (match H t with
    | some (.tup [.int i, .int j]) => (i, j)
    | _ => (0, 0)) = p
  rw [e]
theorem ivs_map {H : Hp} : ∀ {us : List V} {L : List Iv}, Ivs H us L → L = us.map (pairAt H)
  | _, _, .nil => rfl
  | _, _, .cons h r => by rw [List.map_cons, pairAt_of h, ← ivs_map (H := H) r]
theorem ivs_all {H : Hp} : ∀ {us : List V} {L : List Iv}, Ivs H us L → ∀ x ∈ us, ∃ t, x = .ref t ∧ H t = some (.tup [.int (pairAt H x).1, .int (pairAt H x).2])
  | _, _, .cons h r, x, hx => by
    rcases List.mem_cons.mp hx with rfl | hx
    · have e := pairAt_of h
      obtain ⟨t, rfl, h⟩ := h
      exact ⟨t, rfl, by rw [e]; exact h⟩
    · exact ivs_all (H := H) r x hx
theorem ivs_of_all {H : Hp} : ∀ {ys : List V}, (∀ x ∈ ys, ∃ t, x = .ref t ∧ H t = some (.tup [.int (pairAt H x).1, .int (pairAt H x).2])) → Ivs H ys (ys.map (pairAt H))
  | [], _ => .nil
  | y :: ys, h => .cons (h y (List.mem_cons_self ..)) (ivs_of_all fun x hx => h x (List.mem_cons_of_mem _ hx))
section
variable {P : Program} {w : World} {K : PySem.W.Frag} {mg : Str → Option Value} {base : Heap}
theorem ok_covin (D : Ds K) (T : Tx K mg) : FnOk P w K mg base CX0 1 (dcount_covered_in.adr K) D.fd_count_covered_in ["intervals"] (spSpan K CovOf) := by
  refine D.F_count_covered_in.ok sccount_covered_in (fun vs H Q E h => ?_) (fun cdv A outer s H vs Q E hr h => ?_)
  · obtain ⟨a, us, L, rfl, _⟩ := h
    rfl
  · obtain ⟨a, us, L, rfl, ss, iv, fine, q⟩ := h
    have nd := sccount_covered_in.nd
    have hn := fine.1
    refine ⟨_, PSs.nox (pss_cons (ps_set (i := 1) nd rfl (.inl rfl) pe_int)
      (pss_cons (ps_set (i := 2) nd rfl (.inl rfl) pe_non)
      (pss_cons (ps_for PassesOwn.never rfl (pi_list (pe_callB cr_sortedPO (by rfl) T.z_sorted (by decide +kernel) (pa_cons (pv 0) pa_nil))) (pg_tup rfl (pgs_cons (pg_name (i := 3) nd rfl (.inl rfl)) (pgs_cons (pg_name (i := 4) nd rfl (.inl rfl)) pgs_nil)))
          (pss_cons (ps_set (i := 5) nd rfl (.inl rfl) (pe_ifExp (pt_cmpR op_isN (pv 2) pe_non (nomark _)) (pv 3) (pe_callB (call_max2 rfl) (by rfl) T.z_max (by decide +kernel) (pa_cons (pv 3) (pa_cons (pv 2) pa_nil)))))
          (pss_one (ps_if (pt_cmpR op_lt (pv 5) (pv 4) (nomark _)) (pss_cons (ps_set (i := 1) nd rfl (.inl rfl) (pe_op op_sub (pe_op op_add (pv 1) (pv 4)) (pv 5))) (pss_one (ps_set (i := 2) nd rfl (.inl rfl) (pv 4)))) pss_nil))))
      (pss_one (ps_ret (pv 1)))))), ?_⟩
    have eL := ivs_map iv
    have al := ivs_all iv
    refine ⟨_, rfl, a, us, pairAt H, rfl, ss, al, fun ys p srt stb hp => ?_⟩
    obtain ⟨M, eM⟩ : ∃ M, M = ys.map (pairAt H) := ⟨_, rfl⟩
    have perm : M.Perm L := by
      rw [eM, eL]
      exact stb.perm.map _
    have ivM : Ivs H ys M := by
      rw [eM]
      exact ivs_of_all fun x hx => al x (stb.perm.mem_iff.mp hx)
    have sM : M.Pairwise fun p q => p.1 ≤ q.1 := by
      rw [eM, List.pairwise_map]
      refine List.Pairwise.imp (fun {x y} h => ?_) srt
      have := SrtO.lexB_no.mp h
      omega
    have fM : ∀ p ∈ M, p.1 < p.2 := fun p hp => (fine.2 p (perm.mem_iff.mp hp)).1
    have sp := same_new (o := .lst ys) hp
    have ep : upd H p (.lst ys) p = some (.lst ys) := upd_same
    have ivP := ivM.same sp
    have s2 := sp
    generalize upd H p (.lst ys) = H2 at ep ivP s2 ⊢
    clear sp hp srt stb al eL eM ivM
    have hl := ivP.len
    refine ⟨p, rfl, ⟨_, lstL ep⟩, for_list (xs := ys) (fun i σ H' => ∃ (v : Int) (zb : V) (z3 z4 z5 : Option V), Same H2 H' ∧ CovOf (M.take i) v ∧ ((i = 0 ∧ zb = .non) ∨ ∃ b : Int, zb = .int b ∧ (∃ q ∈ M.take i, q.2 = b) ∧ ∀ q ∈ M.take i, q.2 ≤ b) ∧ σ = [some (.ref a), some (.int v), some zb, z3, z4, z5])
      ⟨0, .non, _, _, _, fun _ _ h => h, cov_zero, .inl ⟨rfl, rfl⟩, rfl⟩ (fun i σ H' hi hp' => ?_) (fun i x σ H' hx hp' => ?_) fun σ H' hp' => ?_⟩
    · obtain ⟨v, zb, z3, z4, z5, sm, _⟩ := hp'
      exact lstL (sm _ _ ep)
    · obtain ⟨v, zb, z3, z4, z5, sm, cv, hzb, rfl⟩ := hp'
      obtain ⟨r, hr', t, rfl, et⟩ := ivP.get hx
      have rM : r ∈ M := List.mem_of_getElem? hr'
      have r12 := fM r rM
      have tk : M.take (i + 1) = M.take i ++ [r] := by rw [List.take_succ, hr']; rfl
      have before : ∀ q ∈ M.take i, q.1 ≤ r.1 := fun q hq => by
        have h2 : (M.take i ++ [r]).Pairwise fun p q => p.1 ≤ q.1 := by
          rw [← tk]
          exact List.Pairwise.sublist (List.take_sublist _ _) sM
        exact (List.pairwise_append.mp h2).2.2 q hq r (List.mem_singleton.mpr rfl)
      refine ⟨t, _, rfl, tupT (sm _ _ et), rfl, _, _, rfl, _, _, rfl, rfl, ?_⟩
      dsimp only [List.set_cons_zero, List.set_cons_succ]
      -- what lies behind
      have go : ∀ b : Int, r.1 ≤ b → (∀ q ∈ M.take i, q.2 ≤ b) → (∀ x, r.1 ≤ x → x < b → pos (M.take i) x = true) → (b < r.2 ∨ ∃ q ∈ M.take i, q.2 = b) →
          (b < r.2 → CovOf (M.take (i + 1)) (v + r.2 - b) ∧ (∃ q ∈ M.take (i + 1), q.2 = r.2) ∧ ∀ q ∈ M.take (i + 1), q.2 ≤ r.2) ∧ (¬ b < r.2 → CovOf (M.take (i + 1)) v ∧ (∃ q ∈ M.take (i + 1), q.2 = b) ∧ ∀ q ∈ M.take (i + 1), q.2 ≤ b) := fun b h1 h2 h3 h4 => by
        rw [tk]
        refine ⟨fun h => ⟨?_, ⟨r, List.mem_append.mpr (.inr (List.mem_singleton.mpr rfl)), rfl⟩, fun q hq => ?_⟩, fun h => ⟨cov_less cv h3 (by omega), ?_, fun q hq => ?_⟩⟩
        · rw [Int.add_sub_assoc]
          exact cov_more cv h1 h2 h3 h
        · rcases List.mem_append.mp hq with hq | hq
          · have := h2 q hq
            omega
          · rw [List.mem_singleton.mp hq]
            exact Int.le_refl _
        · rcases h4 with h4 | ⟨q, hq, e⟩
          · exact absurd h4 h
          · exact ⟨q, List.mem_append.mpr (.inl hq), e⟩
        · rcases List.mem_append.mp hq with hq | hq
          · exact h2 q hq
          · rw [List.mem_singleton.mp hq]
            omega
      rcases hzb with ⟨i0, rfl⟩ | ⟨bb, rfl, hq1, hq2⟩
      · have g := go r.1 (Int.le_refl _) (fun q hq => by rw [i0] at hq; cases hq) (fun x p q => absurd p (by omega)) (.inl r12)
        refine ⟨_, rfl, rfl, _, rfl, ite_t' (decide_eq_true rfl) ⟨_, rfl, ?_⟩⟩
        refine ⟨_, rfl, _, rfl, _, _, rfl, rfl, _, rfl, ?_⟩
        refine ite_t' (decide_eq_true r12) ⟨_, rfl, _, rfl, _, _, rfl, rfl, _, rfl, _, _, rfl, rfl, _, rfl, ?_⟩
        have k := g.1 r12
        exact ⟨_, _, _, _, _, sm, k.1, .inr ⟨_, rfl, k.2⟩, rfl⟩
      · refine ⟨_, rfl, rfl, _, rfl, ite_f (decide_eq_false fun z => nomatch z) ⟨_, rfl, _, rfl, _, _, rfl, ?_⟩⟩
        by_cases hs : bb > r.1
        · have g := go bb (by omega) hq2 (fun x p q => by
            obtain ⟨y, hy, e⟩ := hq1
            have := before y hy
            exact decide_eq_true ((held_pos _ x).mpr ⟨y, hy, by omega, by omega⟩)) (.inr hq1)
          rw [if_pos hs]
          refine ⟨_, rfl, _, rfl, _, _, rfl, rfl, _, rfl, ?_⟩
          by_cases hb : bb < r.2
          · have k := g.1 hb
            refine ite_t' (decide_eq_true hb) ⟨_, rfl, _, rfl, _, _, rfl, rfl, _, rfl, _, _, rfl, rfl, _, rfl, ?_⟩
            exact ⟨_, _, _, _, _, sm, k.1, .inr ⟨_, rfl, k.2⟩, rfl⟩
          · have k := g.2 hb
            refine ite_f (decide_eq_false hb) ?_
            exact ⟨_, _, _, _, _, sm, k.1, .inr ⟨_, rfl, k.2⟩, rfl⟩
        · have g := go r.1 (Int.le_refl _) (fun q hq => by have := hq2 q hq; omega) (fun x p q => absurd p (by omega)) (.inl r12)
          rw [if_neg hs]
          refine ⟨_, rfl, _, rfl, _, _, rfl, rfl, _, rfl, ?_⟩
          have k := g.1 r12
          refine ite_t' (decide_eq_true r12) ⟨_, rfl, _, rfl, _, _, rfl, rfl, _, rfl, _, _, rfl, rfl, _, rfl, ?_⟩
          exact ⟨_, _, _, _, _, sm, k.1, .inr ⟨_, rfl, k.2⟩, rfl⟩
    · obtain ⟨v, zb, z3, z4, z5, sm, cv, hzb, rfl⟩ := hp'
      rw [hl, List.take_length] at cv
      exact ⟨_, rfl, q v H' (s2.trans sm) (cov_same (fun p => (perm.mem_iff (a := p))) cv)⟩
theorem ok_cov (D : Ds K) (T : Tx K mg) : FnOk P w K mg base CX0 5 (dcovered.adr K) D.fd_covered ["intervals"] (spSpan K CovOf) := by
  have G : FnOk P w K mg base CX0 4 _ _ _ (spCheck K) := ok_check D T
  have G2 : FnOk P w K mg base CX0 1 _ _ _ (spSpan K CovOf) := ok_covin D T
  refine D.F_covered.ok sccovered (fun vs H Q E h => ?_) (fun cdv A outer s H vs Q E hr h => ?_)
  · obtain ⟨a, us, L, rfl, _⟩ := h
    rfl
  · obtain ⟨a, us, L, rfl, ss, iv, fine, q⟩ := h
    refine ⟨_, PSs.nox (pss_cons (ps_expr (pe_call G hr (by rfl) T.g_check_intervals D.F_check_intervals.kp (b_check_intervals D) .nil pass0 (pa_cons (pv 0) pa_nil)))
      (pss_one (ps_ret (pe_call G2 (hr.mono (by decide)) (by rfl) T.g_count_covered_in D.F_count_covered_in.kp (b_count_covered_in D) .nil pass0 (pa_cons (pv 0) pa_nil))))), ?_⟩
    refine ⟨_, rfl, a, us, L, rfl, ss, iv, fine, fun H1 s1 => ?_⟩
    exact ⟨_, rfl, a, us, L, rfl, same_sql s1 ss, iv.same s1, fine, fun v H' s' h => q v H' (s1.trans s') h⟩
end
end K22

set_option Elab.async false
set_option linter.all false
set_option maxRecDepth 100000
set_option maxHeartbeats 4000000
set_option exponentiation.threshold 600
namespace K22
open PySem PySem.Spec PyProof.Rows L2 RT SM DQ
def isTn (n : Int) : PyData → Bool
  | .tuple xs => decide ((xs.length : Int) = n)
  | _ => false
def isP : PyData → Bool
  | .tuple [x, y] => isI x && isI y
  | _ => false
def isIv : PyData → Bool
  | .tuple [.int a, .int b] => decide (a < b)
  | _ => false
def fineD : PyData → Bool
  | .list ds => ds.all isIv
  | _ => false
theorem isP_off {d : PyData} (h : isTn 2 d = false) : isP d = false := by
  cases d with
  | tuple xs =>
    have h : decide ((xs.length : Int) = 2) = false := h
    match xs with
    | [] => rfl
    | [x] => rfl
    | [x, y] => cases h
    | x :: y :: z :: r => rfl
  | _ => rfl
theorem isIv_off {d : PyData} (h : isP d = false) : isIv d = false := by
  unfold isIv
  split
  · cases h
  · rfl
theorem isP_on {d : PyData} (h : isP d = true) : ∃ a b, d = .tuple [.int a, .int b] := by
  unfold isP at h
  split at h
  · rename_i x y
    rw [Bool.and_eq_true] at h
    cases x with
    | int a =>
      cases y with
      | int b => exact ⟨a, b, rfl⟩
      | _ => exact absurd h.2 Bool.false_ne_true
    | _ => exact absurd h.1 Bool.false_ne_true
  · cases h
section
variable {P : Program} {w : World} {K : PySem.W.Frag} {mg : Str → Option Value} {base : Heap}
def spIntQ : Sp := fun vs H Q _ => ∃ v d, vs = [v] ∧ Dq H v d ∧ Q (.bl (isI d)) H
theorem ok_intQ (D : Ds K) (T : Tx K mg) : FnOk P w K mg base CX0 1 (dis_integer.adr K) D.fd_is_integer ["value"] spIntQ := by
  refine D.F_is_integer.ok scis_integer (fun vs H Q E h => ?_) (fun cdv A outer s H vs Q E hr h => ?_)
  · obtain ⟨v, d, rfl, _⟩ := h
    rfl
  · obtain ⟨v, d, rfl, hd, q⟩ := h
    refine ⟨_, PSs.nox (pss_one (ps_ret (pe_and (pe_callB call_isiY (by rfl) T.z_isinstance (by decide +kernel) (pa_cons (pv 0) (pa_cons (pe_bltn (v := .ty "int") (by rfl) T.z_int (by decide +kernel) rfl) pa_nil)))
      (pe_one (pe_not (pe_callB call_isiY (by rfl) T.z_isinstance (by decide +kernel) (pa_cons (pv 0) (pa_cons (pe_bltn (v := .ty "bool") (by rfl) T.z_bool (by decide +kernel) rfl) pa_nil)))))))), ?_⟩
    refine ⟨_, rfl, _, .ty "int", _, _, _, rfl, .ty "int", hd.ty, kit_int d, _, rfl, ?_⟩
    cases e : isI d with
    | true =>
      rw [e] at q
      refine iteT ⟨_, rfl, _, .ty "bool", _, _, _, rfl, .ty "bool", hd.ty, kit_bool d, _, rfl, ?_⟩
      have : isB d = false := by cases d <;> first | rfl | cases e
      rw [this]
      exact q
    | false =>
      rw [e] at q
      cases e2 : isB d with
      | true =>
        refine iteT ⟨_, rfl, _, .ty "bool", _, _, _, rfl, .ty "bool", hd.ty, kit_bool d, _, rfl, ?_⟩
        rw [e2]
        exact q
      | false => exact iteF q
def spTupQ : Sp := fun vs H Q _ => ∃ v n d, vs = [v, .int n] ∧ Dq H v d ∧ Q (.bl (isTn n d)) H
theorem ok_tupQ (D : Ds K) (T : Tx K mg) : FnOk P w K mg base CX0 1 (dis_tuple_of.adr K) D.fd_is_tuple_of ["value", "many"] spTupQ := by
  refine D.F_is_tuple_of.ok scis_tuple_of (fun vs H Q E h => ?_) (fun cdv A outer s H vs Q E hr h => ?_)
  · obtain ⟨v, n, d, rfl, _⟩ := h
    rfl
  · obtain ⟨v, n, d, rfl, hd, q⟩ := h
    refine ⟨_, PSs.nox (pss_one (ps_ret (pe_and (pe_callB call_isiY (by rfl) T.z_isinstance (by decide +kernel) (pa_cons (pv 0) (pa_cons (pe_bltn (v := .ty "tuple") (by rfl) T.z_tuple (by decide +kernel) rfl) pa_nil)))
      (pe_one (pe_cmpR op_eq (pe_callB call_len_seq (by rfl) T.z_len PySem.boot_len (pa_cons (pv 0) pa_nil)) (pv 1) (nomark _)))))), ?_⟩
    refine ⟨_, rfl, _, .ty "tuple", _, _, _, rfl, .ty "tuple", hd.ty, kit_tuple d, _, rfl, ?_⟩
    cases hd with
    | @tup a xs ds e k =>
      refine iteT ⟨_, rfl, a, _, rfl, .inr (tupT e), _, rfl, rfl, ?_⟩
      have e1 : decide (V.int (xs.length : Int) = V.int n) = isTn n (.tuple ds) := by
        rw [dec_i, k.len]
        rfl
      rw [e1]
      exact q
    | _ => exact iteF q
def spPtQ : Sp := fun vs H Q _ => ∃ v d, vs = [v] ∧ Dq H v d ∧ Q (.bl (isP d)) H
theorem two_of {H : Hp} {v : V} {d : PyData} (h : Dq H v d) (e : isTn 2 d = true) : ∃ a x y dx dy, v = .ref a ∧ d = .tuple [dx, dy] ∧ H a = some (.tup [x, y]) ∧ Dq H x dx ∧ Dq H y dy := by
  cases h with
  | @tup a xs ds ea k =>
    have e : ((ds.length : Int) = 2) := of_decide_eq_true e
    match ds, k with
    | [dx, dy], .cons h1 (.cons h2 .nil) => exact ⟨a, _, _, dx, dy, rfl, rfl, ea, h1, h2⟩
    | [], _ => exact absurd e (show ¬ ((0 : Int) = 2) by decide)
    | [_], _ => exact absurd e (show ¬ ((1 : Int) = 2) by decide)
    | _ :: _ :: _ :: r, _ =>
      simp only [List.length_cons] at e
      omega
  | _ => cases e
theorem ok_ptQ (D : Ds K) (T : Tx K mg) : FnOk P w K mg base CX0 2 (dis_point.adr K) D.fd_is_point ["value"] spPtQ := by
  have G1 : FnOk P w K mg base CX0 1 _ _ _ spIntQ := ok_intQ D T
  have G2 : FnOk P w K mg base CX0 1 _ _ _ spTupQ := ok_tupQ D T
  refine D.F_is_point.ok scis_point (fun vs H Q E h => ?_) (fun cdv A outer s H vs Q E hr h => ?_)
  · obtain ⟨v, d, rfl, _⟩ := h
    rfl
  · obtain ⟨v, d, rfl, hd, q⟩ := h
    refine ⟨_, PSs.nox (pss_one (ps_ret (pe_and (pe_call G2 hr (by rfl) T.g_is_tuple_of D.F_is_tuple_of.kp (b_is_tuple_of D) .nil pass0 (pa_cons (pv 0) (pa_cons pe_int pa_nil)))
      (pe_and (pe_call G1 hr (by rfl) T.g_is_integer D.F_is_integer.kp (b_is_integer D) .nil pass0 (pa_cons (pe_ix ix_tup (pv 0) pe_int (fun _ _ => rfl)) pa_nil))
      (pe_one (pe_call G1 hr (by rfl) T.g_is_integer D.F_is_integer.kp (b_is_integer D) .nil pass0 (pa_cons (pe_ix ix_tup (pv 0) pe_int (fun _ _ => rfl)) pa_nil))))))), ?_⟩
    refine ⟨_, rfl, v, 2, d, rfl, hd, _, rfl, ?_⟩
    cases e : isTn 2 d with
    | false =>
      rw [isP_off e] at q
      exact iteF q
    | true =>
      obtain ⟨a, x, y, dx, dy, rfl, rfl, ea, hx, hy⟩ := two_of hd e
      refine iteT ⟨_, rfl, a, _, 0, _, rfl, rfl, tupT ea, atI_nat (j := 0) rfl, x, dx, rfl, hx, _, rfl, ?_⟩
      have q : Q (.bl (isI dx && isI dy)) H := q
      cases e1 : isI dx with
      | false =>
        rw [e1] at q
        exact iteF q
      | true =>
        rw [e1, Bool.true_and] at q
        exact iteT ⟨_, rfl, a, _, 1, _, rfl, rfl, tupT ea, atI_nat (j := 1) rfl, y, dy, rfl, hy, q⟩
def spIvQ : Sp := fun vs H Q _ => ∃ v d, vs = [v] ∧ Dq H v d ∧ Q (.bl (isIv d)) H
theorem ok_ivQ (D : Ds K) (T : Tx K mg) : FnOk P w K mg base CX0 3 (d_is_interval.adr K) D.fd__is_interval ["value"] spIvQ := by
  have G : FnOk P w K mg base CX0 2 _ _ _ spPtQ := ok_ptQ D T
  refine D.F__is_interval.ok sc_is_interval (fun vs H Q E h => ?_) (fun cdv A outer s H vs Q E hr h => ?_)
  · obtain ⟨v, d, rfl, _⟩ := h
    rfl
  · obtain ⟨v, d, rfl, hd, q⟩ := h
    refine ⟨_, PSs.nox (pss_one (ps_ret (pe_and (pe_call G hr (by rfl) T.g_is_point D.F_is_point.kp (b_is_point D) .nil pass0 (pa_cons (pv 0) pa_nil))
      (pe_one (pe_cmpR op_lt (pe_ix ix_tup (pv 0) pe_int (fun _ _ => rfl)) (pe_ix ix_tup (pv 0) pe_int (fun _ _ => rfl)) (nomark _)))))), ?_⟩
    refine ⟨_, rfl, v, d, rfl, hd, _, rfl, ?_⟩
    cases e : isP d with
    | false =>
      rw [isIv_off e] at q
      exact iteF q
    | true =>
      obtain ⟨i, j, rfl⟩ := isP_on e
      obtain ⟨a, x, y, dx, dy, rfl, e2, ea, hx, hy⟩ := two_of hd rfl
      injection e2 with e2
      injection e2 with e3 e4
      injection e4 with e4
      subst e3 e4
      cases hx
      cases hy
      exact iteT ⟨_, rfl, a, _, 0, _, rfl, rfl, tupT ea, atI_nat (j := 0) rfl, _, rfl, a, _, 1, _, rfl, rfl, tupT ea, atI_nat (j := 1) rfl, _, _, rfl, rfl, q⟩
abbrev IIv (K : PySem.W.Frag) : Value := .ref (He.ga K "InvalidIntervals")
abbrev IPv (K : PySem.W.Frag) : Value := .ref (He.ga K "InvalidPlace")
def spCheckQ (K : PySem.W.Frag) : Sp := fun vs H Q E => ∃ v d, vs = [v] ∧ Dq H v d ∧ (∀ ds, d = .list ds → ds.length ≤ 2000) ∧ (fineD d = true → ∀ H', Same H H' → Q .non H') ∧ (fineD d = false → ∀ H', Same H H' → E (IIv K) none H')
theorem ok_checkQ (D : Ds K) (T : Tx K mg) : FnOk P w K mg base (L2N.CX P w) 4 (dcheck_intervals.adr K) D.fd_check_intervals ["intervals"] (spCheckQ K) := by
  have G : FnOk P w K mg base CX0 3 _ _ _ spIvQ := ok_ivQ D T
  refine D.F_check_intervals.ok scC (fun vs H Q E h => ?_) (fun cdv A outer s H vs Q E hr h => ?_)
  · obtain ⟨v, d, rfl, _⟩ := h
    rfl
  · obtain ⟨v, d, rfl, hd, hn, q1, q2⟩ := h
    have nd := scC.nd
    obtain ⟨x1, x2, x3, x4⟩ := T.x_InvalidIntervals
    refine ⟨_, (pss_one (ps_if (PT.nox (PW.pt (pw_or (pt_not (pt_val (pe_callB call_isiY (by rfl) T.z_isinstance (by decide +kernel) (pa_cons (pv 0) (pa_cons (pe_bltn (v := .ty "list") (by rfl) T.z_list (by decide +kernel) rfl) pa_nil)))))
      (pw_or1 (pt_not (pt_val (pe_callB (cr_all rfl) (by rfl) T.z_all (by decide +kernel) (pa_cons (pe_lc (own := [(("interval" : Str), 1)]) (g := gName 1) (tt := tYes) (te := tCall spIvQ [] E0 (tCons (tVar 1) tNil)) rfl nd (pi_list (pv 0))
        (blkOk_by (own := [(("interval" : Str), 1)]) (N := NC) (sc := defScope scheck_intervals) (by decide +kernel)) (fun _ _ _ _ _ => pg_name (i := 1) nd rfl (Or.inl rfl)) (fun _ _ _ _ _ => pts_nil)
        (fun _ _ _ _ _ => pe_call G hr (by rfl) T.g__is_interval D.F__is_interval.kp (b__is_interval D) .nil pass0 (pa_cons (pv 1) pa_nil))) pa_nil)))))))) (pss_one (L2N.ps_raise rfl (L2N.takes_of rfl rfl rfl rfl) (L2N.pmk_own PySem.F.excBase_ValueError x1 T.g_InvalidIntervals x2 (raises_own x3 x4) rfl))) pss_nil)), ?_⟩
    refine ⟨_, rfl, _, .ty "list", _, _, _, rfl, .ty "list", hd.ty, kit_list d, _, rfl, ?_⟩
    cases hd with
    | @lst a xs ds e k =>
      have hl := hn ds rfl
      refine iteF ⟨_, rfl, a, rfl, ⟨_, lstL e⟩, fun D1 hD => ?_⟩
      have kl := k.len
      refine lc_list (K := K) (a := a) (xs := xs) (fun n H' => Same H H' ∧ H' D1 = some (.lst (((ds.map isIv).take n).map V.bl))) ⟨same_new hD, upd_same⟩ (fun n H' hi p => same_sql p.1 (lstL e)) (fun n x H' hx p => ?_) fun H' p => ?_
      · obtain ⟨s, eD⟩ := p
        obtain ⟨dx, hdx, kx⟩ := k.get hx
        have hn' : n < ds.length := (List.getElem?_eq_some_iff.mp hdx).1
        refine ⟨rfl, _, rfl, x, dx, rfl, kx.same s, ?_⟩
        refine ⟨_, eD, ?_, ?_, ?_⟩
        · rw [List.length_map, List.length_take, List.length_map]
          exact Nat.lt_of_lt_of_le (show min n ds.length < 2001 by omega) (by decide)
        · intro b o h
          rw [upd_ne (ne_of_none h hD)]
          exact s _ _ h
        · rw [upd_same, List.take_succ, List.getElem?_map, hdx, List.map_append]
          rfl
      · obtain ⟨s, eD⟩ := p
        rw [kl, show (ds.map isIv).take ds.length = ds.map isIv from by rw [← List.length_map (f := isIv), List.take_length]] at eD
        refine ⟨D1, _, rfl, lstL eD, ?_⟩
        have ea : (ds.map isIv).all id = fineD (.list ds) := by
          rw [List.all_map]
          rfl
        rw [ea]
        cases ef : fineD (.list ds) with
        | true => exact ⟨true, rfl, iteF (q1 ef _ s)⟩
        | false => exact ⟨false, rfl, iteT (q2 ef _ s)⟩
    | _ => exact iteT (q2 rfl H fun _ _ h => h)
end
end K22

set_option Elab.async false
set_option linter.all false
set_option maxRecDepth 100000
set_option maxHeartbeats 4000000
set_option exponentiation.threshold 600
namespace K22
open PySem PySem.Spec PyProof.Rows L2 RT SM DQ
section
variable {P : Program} {w : World} {K : PySem.W.Frag} {mg : Str → Option Value} {base : Heap}
/-- a fine value: its rows -/
def Good (K : PySem.W.Frag) (H : Hp) (v : V) : Prop := ∃ a us L, v = .ref a ∧ SqL K H a us ∧ Ivs H us L ∧ Fine L
theorem Good.same {H H' : Hp} {v : V} (h : Good K H v) (e : Same H H') : Good K H' v := by
  obtain ⟨a, us, L, rfl, h1, h2, h3⟩ := h
  exact ⟨a, us, L, rfl, same_sql e h1, h2.same e, h3⟩
def Few (d : PyData) : Prop := ∀ ds, d = .list ds → ds.length ≤ 2000
def spSpX (K : PySem.W.Frag) : Sp := fun vs H Q E => ∃ v d, vs = [v] ∧ Dq H v d ∧ Few d ∧ (fineD d = false → ∀ H', Same H H' → E (IIv K) none H') ∧ (fineD d = true → Good K H v ∧ ∀ x H', Same H H' → Q (.int x) H')
theorem ok_covX (D : Ds K) (T : Tx K mg) : FnOk P w K mg base (L2N.CX P w) 5 (dcovered.adr K) D.fd_covered ["intervals"] (spSpX K) := by
  have GC : FnOk P w K mg base (L2N.CX P w) 4 _ _ _ (spCheckQ K) := ok_checkQ D T
  have G : FnOk P w K mg base CX0 1 _ _ _ (spSpan K CovOf) := ok_covin D T
  refine D.F_covered.ok sccovered (fun vs H Q E h => ?_) (fun cdv A outer s H vs Q E hr h => ?_)
  · obtain ⟨v, d, rfl, _⟩ := h
    rfl
  · obtain ⟨v, d, rfl, hd, few, q1, q2⟩ := h
    refine ⟨_, pss_cons (ps_expr (pe_callS GC hr (by rfl) T.g_check_intervals D.F_check_intervals.kp (b_check_intervals D) (fun σ => L2N.passAt (L2N.takes_of rfl rfl rfl rfl) σ) (pa_cons (pv 0) pa_nil)))
      (pss_one (ps_ret (pe_call G (hr.mono (by decide)) (by rfl) T.g_count_covered_in D.F_count_covered_in.kp (b_count_covered_in D) .nil pass0 (pa_cons (pv 0) pa_nil)))), ?_⟩
    refine ⟨_, rfl, v, d, rfl, hd, few, fun ef H1 s1 => ?_, fun ef H1 s1 => q1 ef _ s1⟩
    obtain ⟨⟨a, us, L, rfl, ss, iv, fine⟩, q⟩ := q2 ef
    exact ⟨_, rfl, a, us, L, rfl, same_sql s1 ss, iv.same s1, fine, fun x H2 s2 _ => q x _ (s1.trans s2)⟩
theorem ok_oddX (D : Ds K) (T : Tx K mg) : FnOk P w K mg base (L2N.CX P w) 5 (dodd_covered.adr K) D.fd_odd_covered ["intervals"] (spSpX K) := by
  have GC : FnOk P w K mg base (L2N.CX P w) 4 _ _ _ (spCheckQ K) := ok_checkQ D T
  have G : FnOk P w K mg base CX0 2 _ _ _ (spSpan K OddOf) := ok_oddin D T
  refine D.F_odd_covered.ok scodd_covered (fun vs H Q E h => ?_) (fun cdv A outer s H vs Q E hr h => ?_)
  · obtain ⟨v, d, rfl, _⟩ := h
    rfl
  · obtain ⟨v, d, rfl, hd, few, q1, q2⟩ := h
    refine ⟨_, pss_cons (ps_expr (pe_callS GC hr (by rfl) T.g_check_intervals D.F_check_intervals.kp (b_check_intervals D) (fun σ => L2N.passAt (L2N.takes_of rfl rfl rfl rfl) σ) (pa_cons (pv 0) pa_nil)))
      (pss_one (ps_ret (pe_call G (hr.mono (by decide)) (by rfl) T.g_count_odd_in D.F_count_odd_in.kp (b_count_odd_in D) .nil pass0 (pa_cons (pv 0) pa_nil)))), ?_⟩
    refine ⟨_, rfl, v, d, rfl, hd, few, fun ef H1 s1 => ?_, fun ef H1 s1 => q1 ef _ s1⟩
    obtain ⟨⟨a, us, L, rfl, ss, iv, fine⟩, q⟩ := q2 ef
    exact ⟨_, rfl, a, us, L, rfl, same_sql s1 ss, iv.same s1, fine, fun x H2 s2 _ => q x _ (s1.trans s2)⟩
def spDepX (K : PySem.W.Frag) : Sp := fun vs H Q E => ∃ v p d e, vs = [v, p] ∧ Dq H v d ∧ Dq H p e ∧ Few d ∧ (fineD d = false → ∀ H', Same H H' → E (IIv K) none H') ∧ (fineD d = true → isI e = false → ∀ H', Same H H' → E (IPv K) none H') ∧
  (fineD d = true → isI e = true → Good K H v ∧ ∀ x H', Same H H' → Q (.int x) H')
theorem ok_depX (D : Ds K) (T : Tx K mg) : FnOk P w K mg base (L2N.CX P w) 5 (ddepth_at.adr K) D.fd_depth_at ["intervals", "place"] (spDepX K) := by
  have GC : FnOk P w K mg base (L2N.CX P w) 4 _ _ _ (spCheckQ K) := ok_checkQ D T
  have G1 : FnOk P w K mg base CX0 1 _ _ _ spIntQ := ok_intQ D T
  have G2 : FnOk P w K mg base CX0 1 _ _ _ (spDepth K) := ok_around D T
  refine D.F_depth_at.ok scdepth_at (fun vs H Q E h => ?_) (fun cdv A outer s H vs Q E hr h => ?_)
  · obtain ⟨v, p, d, e, rfl, _⟩ := h
    rfl
  · obtain ⟨v, p, d, e, rfl, hd, he, few, q1, q2, q3⟩ := h
    obtain ⟨x1, x2, x3, x4⟩ := T.x_InvalidPlace
    refine ⟨_, pss_cons (ps_expr (pe_callS GC hr (by rfl) T.g_check_intervals D.F_check_intervals.kp (b_check_intervals D) (fun σ => L2N.passAt (L2N.takes_of rfl rfl rfl rfl) σ) (pa_cons (pv 0) pa_nil)))
      (pss_cons (ps_if (pt_not (pt_val (pe_call G1 (hr.mono (by decide)) (by rfl) T.g_is_integer D.F_is_integer.kp (b_is_integer D) .nil pass0 (pa_cons (pv 1) pa_nil))))
        (pss_one (L2N.ps_raise rfl (L2N.takes_of rfl rfl rfl rfl) (L2N.pmk_own PySem.F.excBase_ValueError x1 T.g_InvalidPlace x2 (raises_own x3 x4) rfl))) pss_nil)
      (pss_one (ps_ret (pe_call G2 (hr.mono (by decide)) (by rfl) T.g_count_around D.F_count_around.kp (b_count_around D) .nil pass0 (pa_cons (pv 0) (pa_cons (pv 1) pa_nil)))))), ?_⟩
    refine ⟨_, rfl, v, d, rfl, hd, few, fun ef H1 s1 => ?_, fun ef H1 s1 => q1 ef _ s1⟩
    refine ⟨_, rfl, p, e, rfl, he.same s1, _, rfl, ?_⟩
    cases ei : isI e with
    | false => exact iteT (q2 ef ei _ s1)
    | true =>
      obtain ⟨⟨a, us, L, rfl, ss, iv, fine⟩, q⟩ := q3 ef ei
      cases he with
      | int i => exact iteF ⟨_, rfl, _, rfl, a, us, L, i, rfl, same_sql s1 ss, iv.same s1, fine, fun H2 s2 => q _ _ (s1.trans s2)⟩
      | _ => exact absurd ei Bool.false_ne_true
end
end K22

set_option Elab.async false
set_option linter.all false
set_option maxRecDepth 100000
set_option maxHeartbeats 4000000
set_option exponentiation.threshold 600
namespace K22
open PySem PySem.Spec PyProof.Rows L2 RT SM DQ
def clsNames : List Str := ["InvalidProgram", "InvalidTimes", "InvalidIndex", "InvalidMotion", "InvalidPose", "InvalidPoint", "InvalidEdge", "InvalidIntervals", "NotEven", "InvalidPlace", "NotDrifting", "TooLarge"]
def clsWords : List Str := ["program", "times", "index", "motion", "pose", "point", "edge", "intervals", "even", "place", "drift", "large"]
/-- a raised class: which of the twelve it is -/
structure ClsAt (K : PySem.W.Frag) (C : Addr) (j : Nat) : Prop where
  lt : j < 11
  ec : ExcC K C
  k0 : PySem.W.kitOne K (.ref C) (.ref (He.ga K "InvalidProgram")) = some (decide (0 = j))
  k1 : PySem.W.kitOne K (.ref C) (.ref (He.ga K "InvalidTimes")) = some (decide (1 = j))
  k2 : PySem.W.kitOne K (.ref C) (.ref (He.ga K "InvalidIndex")) = some (decide (2 = j))
  k3 : PySem.W.kitOne K (.ref C) (.ref (He.ga K "InvalidMotion")) = some (decide (3 = j))
  k4 : PySem.W.kitOne K (.ref C) (.ref (He.ga K "InvalidPose")) = some (decide (4 = j))
  k5 : PySem.W.kitOne K (.ref C) (.ref (He.ga K "InvalidPoint")) = some (decide (5 = j))
  k6 : PySem.W.kitOne K (.ref C) (.ref (He.ga K "InvalidEdge")) = some (decide (6 = j))
  k7 : PySem.W.kitOne K (.ref C) (.ref (He.ga K "InvalidIntervals")) = some (decide (7 = j))
  k8 : PySem.W.kitOne K (.ref C) (.ref (He.ga K "NotEven")) = some (decide (8 = j))
  k9 : PySem.W.kitOne K (.ref C) (.ref (He.ga K "InvalidPlace")) = some (decide (9 = j))
  k10 : PySem.W.kitOne K (.ref C) (.ref (He.ga K "NotDrifting")) = some (decide (10 = j))
  k11 : PySem.W.kitOne K (.ref C) (.ref (He.ga K "TooLarge")) = some (decide (11 = j))
  ve : PySem.W.kitOne K (.ref C) (.type "ValueError") = some true
  a0 : PySem.W.kitAny K (.ref C) ((["HasPen", "InvalidArt", "InvalidCommand", "InvalidCount", "InvalidFace", "InvalidFaces", "InvalidLetter"] : List Str).map fun x => .ref (He.ga K x)) = some false
  a1 : PySem.W.kitAny K (.ref C) ((["InvalidName", "InvalidOperation", "InvalidPicture", "InvalidSource", "InvalidText", "InvalidTurn"] : List Str).map fun x => .ref (He.ga K x)) = some false
  a2 : PySem.W.kitAny K (.ref C) ((["NoSteps", "NotClosed", "Nothing", "TooDeep"] : List Str).map fun x => .ref (He.ga K x)) = some false
theorem pe_never {X : Cx} {e : Expr} : PE X e (fun _ _ _ => False) := ⟨fun _ _ _ _ _ _ h => h.elim⟩
theorem big11 : 11 ≤ sizeLine := by decide
def clsRow (j : Nat) : List V := (List.range 12).map fun i => V.bl (decide (i = j))
theorem clsRow_flat (j : Nat) : (clsRow j).all flatV = true := by
  unfold clsRow
  rw [List.all_map]
  exact List.all_eq_true.mpr fun _ _ => rfl
theorem clsRow_count : ∀ j, j < 11 → (clsRow j).countP (fun z => eqV z (.bl true)) = 1 := by decide +kernel
theorem clsRow_get (j m : Nat) (z : V) (h : (clsRow j)[m]? = some z) : z = .bl (decide (m = j)) := by
  unfold clsRow at h
  rw [List.getElem?_map] at h
  cases e : (List.range 12)[m]? with
  | none => rw [e] at h; cases h
  | some i =>
    rw [e] at h
    have := (List.getElem?_eq_some_iff.mp e)
    obtain ⟨hl, hi⟩ := this
    rw [List.getElem_range] at hi
    subst hi
    exact (Option.some.inj h).symm
theorem clsRow_at : ∀ j, j < 11 → (clsRow j)[j]? = some (.bl true) := by decide +kernel
theorem clsRow_no (j : Nat) : ∀ (m : Nat) (z : V), m < j → (clsRow j)[m]? = some z → eqV z (.bl true) = false := fun m z hm h => by
  rw [clsRow_get j m z h, decide_eq_false (by omega)]
  rfl
theorem clsWords_at : ∀ j, j < 11 → (clsWords.map V.str)[j]? = some (.str (clsWords.getD j "")) := by decide +kernel
theorem big3 : 3 ≤ sizeLine := by decide
theorem TyY.same {K : PySem.W.Frag} {H H' : Hp} {a C : Addr} (h : H a = some (ExT a (.ref C) none)) (c : ExcC K C) (e : Same H H') : TyY K H' (.ref a) (.ref C) := .exc0 (e _ _ h) c
section
variable {P : Program} {w : World} {K : PySem.W.Frag} {mg : Str → Option Value} {base : Heap}
theorem cls_II (T : Tx K mg) : ClsAt K (He.ga K "InvalidIntervals") 7 := ⟨by decide, T.e_InvalidIntervals, T.q_InvalidIntervals_InvalidProgram, T.q_InvalidIntervals_InvalidTimes, T.q_InvalidIntervals_InvalidIndex, T.q_InvalidIntervals_InvalidMotion, T.q_InvalidIntervals_InvalidPose, T.q_InvalidIntervals_InvalidPoint, T.q_InvalidIntervals_InvalidEdge, T.q_InvalidIntervals_InvalidIntervals, T.q_InvalidIntervals_NotEven, T.q_InvalidIntervals_InvalidPlace, T.q_InvalidIntervals_NotDrifting, T.q_InvalidIntervals_TooLarge, T.q_InvalidIntervals_VE, T.qa0_InvalidIntervals, T.qa1_InvalidIntervals, T.qa2_InvalidIntervals⟩
theorem cls_IP (T : Tx K mg) : ClsAt K (He.ga K "InvalidPlace") 9 := ⟨by decide, T.e_InvalidPlace, T.q_InvalidPlace_InvalidProgram, T.q_InvalidPlace_InvalidTimes, T.q_InvalidPlace_InvalidIndex, T.q_InvalidPlace_InvalidMotion, T.q_InvalidPlace_InvalidPose, T.q_InvalidPlace_InvalidPoint, T.q_InvalidPlace_InvalidEdge, T.q_InvalidPlace_InvalidIntervals, T.q_InvalidPlace_NotEven, T.q_InvalidPlace_InvalidPlace, T.q_InvalidPlace_NotDrifting, T.q_InvalidPlace_TooLarge, T.q_InvalidPlace_VE, T.qa0_InvalidPlace, T.qa1_InvalidPlace, T.qa2_InvalidPlace⟩
def spClass (K : PySem.W.Frag) : Sp := fun vs H Q _ => ∃ a C j, vs = [.ref a] ∧ H a = some (ExT a (.ref C) none) ∧ ClsAt K C j ∧ ∀ H', Same H H' → Q (.str (clsWords.getD j "")) H'
theorem ok_class (D : Ds K) (T : Tx K mg) : FnOk P w K mg base CX0 1 (d_law_class.adr K) D.fd__law_class ["caught"] (spClass K) := by
  refine D.F__law_class.ok sc_law_class (fun vs H Q E h => ?_) (fun cdv A outer s H vs Q E hr h => ?_)
  · obtain ⟨a, C, j, rfl, _⟩ := h
    rfl
  · obtain ⟨a, C, j, rfl, ea, c, q⟩ := h
    have nd := sc_law_class.nd
    refine ⟨_, PSs.nox (pss_cons (ps_set (i := 1) nd rfl (.inl rfl) (pe_lst (pa_cons (pe_callB call_isiY (by rfl) T.z_isinstance (by decide +kernel) (pa_cons (pv 0) (pa_cons (pe_glob (v := .ref (He.ga K "InvalidProgram")) rfl T.g_InvalidProgram rfl) pa_nil))) (pa_cons (pe_callB call_isiY (by rfl) T.z_isinstance (by decide +kernel) (pa_cons (pv 0) (pa_cons (pe_glob (v := .ref (He.ga K "InvalidTimes")) rfl T.g_InvalidTimes rfl) pa_nil))) (pa_cons (pe_callB call_isiY (by rfl) T.z_isinstance (by decide +kernel) (pa_cons (pv 0) (pa_cons (pe_glob (v := .ref (He.ga K "InvalidIndex")) rfl T.g_InvalidIndex rfl) pa_nil))) pa_nil)))))
      (pss_cons (ps_set (i := 1) nd rfl (.inl rfl) (pe_op op_cat (pv 1) (pe_lst (pa_cons (pe_callB call_isiY (by rfl) T.z_isinstance (by decide +kernel) (pa_cons (pv 0) (pa_cons (pe_glob (v := .ref (He.ga K "InvalidMotion")) rfl T.g_InvalidMotion rfl) pa_nil))) (pa_cons (pe_callB call_isiY (by rfl) T.z_isinstance (by decide +kernel) (pa_cons (pv 0) (pa_cons (pe_glob (v := .ref (He.ga K "InvalidPose")) rfl T.g_InvalidPose rfl) pa_nil))) (pa_cons (pe_callB call_isiY (by rfl) T.z_isinstance (by decide +kernel) (pa_cons (pv 0) (pa_cons (pe_glob (v := .ref (He.ga K "InvalidPoint")) rfl T.g_InvalidPoint rfl) pa_nil))) pa_nil))))))
      (pss_cons (ps_set (i := 1) nd rfl (.inl rfl) (pe_op op_cat (pv 1) (pe_lst (pa_cons (pe_callB call_isiY (by rfl) T.z_isinstance (by decide +kernel) (pa_cons (pv 0) (pa_cons (pe_glob (v := .ref (He.ga K "InvalidEdge")) rfl T.g_InvalidEdge rfl) pa_nil))) (pa_cons (pe_callB call_isiY (by rfl) T.z_isinstance (by decide +kernel) (pa_cons (pv 0) (pa_cons (pe_glob (v := .ref (He.ga K "InvalidIntervals")) rfl T.g_InvalidIntervals rfl) pa_nil))) (pa_cons (pe_callB call_isiY (by rfl) T.z_isinstance (by decide +kernel) (pa_cons (pv 0) (pa_cons (pe_glob (v := .ref (He.ga K "NotEven")) rfl T.g_NotEven rfl) pa_nil))) pa_nil))))))
      (pss_cons (ps_set (i := 1) nd rfl (.inl rfl) (pe_op op_cat (pv 1) (pe_lst (pa_cons (pe_callB call_isiY (by rfl) T.z_isinstance (by decide +kernel) (pa_cons (pv 0) (pa_cons (pe_glob (v := .ref (He.ga K "InvalidPlace")) rfl T.g_InvalidPlace rfl) pa_nil))) (pa_cons (pe_callB call_isiY (by rfl) T.z_isinstance (by decide +kernel) (pa_cons (pv 0) (pa_cons (pe_glob (v := .ref (He.ga K "NotDrifting")) rfl T.g_NotDrifting rfl) pa_nil))) (pa_cons (pe_callB call_isiY (by rfl) T.z_isinstance (by decide +kernel) (pa_cons (pv 0) (pa_cons (pe_glob (v := .ref (He.ga K "TooLarge")) rfl T.g_TooLarge rfl) pa_nil))) pa_nil))))))
      (pss_cons (ps_if (pt_val (pe_callB call_isiTY (by rfl) T.z_isinstance (by decide +kernel) (pa_cons (pv 0) (pa_cons (pe_tup (pa_cons (pe_glob (v := .ref (He.ga K "HasPen")) rfl T.g_HasPen rfl) (pa_cons (pe_glob (v := .ref (He.ga K "InvalidArt")) rfl T.g_InvalidArt rfl) (pa_cons (pe_glob (v := .ref (He.ga K "InvalidCommand")) rfl T.g_InvalidCommand rfl) (pa_cons (pe_glob (v := .ref (He.ga K "InvalidCount")) rfl T.g_InvalidCount rfl) (pa_cons (pe_glob (v := .ref (He.ga K "InvalidFace")) rfl T.g_InvalidFace rfl) (pa_cons (pe_glob (v := .ref (He.ga K "InvalidFaces")) rfl T.g_InvalidFaces rfl) (pa_cons (pe_glob (v := .ref (He.ga K "InvalidLetter")) rfl T.g_InvalidLetter rfl) pa_nil)))))))) pa_nil)))) (pss_one (ps_ret pe_str)) pss_nil)
      (pss_cons (ps_if (pt_val (pe_callB call_isiTY (by rfl) T.z_isinstance (by decide +kernel) (pa_cons (pv 0) (pa_cons (pe_tup (pa_cons (pe_glob (v := .ref (He.ga K "InvalidName")) rfl T.g_InvalidName rfl) (pa_cons (pe_glob (v := .ref (He.ga K "InvalidOperation")) rfl T.g_InvalidOperation rfl) (pa_cons (pe_glob (v := .ref (He.ga K "InvalidPicture")) rfl T.g_InvalidPicture rfl) (pa_cons (pe_glob (v := .ref (He.ga K "InvalidSource")) rfl T.g_InvalidSource rfl) (pa_cons (pe_glob (v := .ref (He.ga K "InvalidText")) rfl T.g_InvalidText rfl) (pa_cons (pe_glob (v := .ref (He.ga K "InvalidTurn")) rfl T.g_InvalidTurn rfl) pa_nil))))))) pa_nil)))) (pss_one (ps_ret pe_str)) pss_nil)
      (pss_cons (ps_if (PW.pt (pw_or (pt_val (pe_callB call_isiTY (by rfl) T.z_isinstance (by decide +kernel) (pa_cons (pv 0) (pa_cons (pe_tup (pa_cons (pe_glob (v := .ref (He.ga K "NoSteps")) rfl T.g_NoSteps rfl) (pa_cons (pe_glob (v := .ref (He.ga K "NotClosed")) rfl T.g_NotClosed rfl) (pa_cons (pe_glob (v := .ref (He.ga K "Nothing")) rfl T.g_Nothing rfl) (pa_cons (pe_glob (v := .ref (He.ga K "TooDeep")) rfl T.g_TooDeep rfl) pa_nil))))) pa_nil)))) (pw_or1 (pt_not (pt_val (pe_callB call_isiY (by rfl) T.z_isinstance (by decide +kernel) (pa_cons (pv 0) (pa_cons (pe_bltn (v := .ty "ValueError") (by rfl) T.z_ValueError (by decide +kernel) rfl) pa_nil)))))))) (pss_one (ps_ret pe_str)) pss_nil)
      (pss_cons (ps_set (i := 2) nd rfl (.inl rfl) (pe_lst (pa_cons pe_str (pa_cons pe_str (pa_cons pe_str (pa_cons pe_str (pa_cons pe_str (pa_cons pe_str (pa_cons pe_str (pa_cons pe_str (pa_cons pe_str (pa_cons pe_str (pa_cons pe_str pa_nil)))))))))))))
      (pss_cons (ps_expr (pe_bm PySem.F.plainAttrs_list PySem.F.slot_list_append PySem.F.type_list_append mt_append (pv 2) (pa_cons (pe_ifExp (pt_val (pe_ix ix_list (pv 1) pe_int (fun _ _ => rfl))) pe_never pe_str) pa_nil)))
      (pss_one (ps_ret (pe_ifExp (pt_cmpR op_eq (pe_bm PySem.F.plainAttrs_list PySem.F.slot_list_count PySem.F.type_list_count mt_countF (pv 1) (pa_cons pe_bl pa_nil)) pe_int (nomark _)) (pe_ix ix_list (pv 2) (pe_bm PySem.F.plainAttrs_list PySem.F.slot_list_index PySem.F.type_list_index mt_index (pv 1) (pa_cons pe_bl pa_nil)) (fun _ _ => rfl)) pe_str)))))))))))), ?_⟩
    have tyF : ∀ {H'}, Same H H' → TyY K H' (.ref a) (.ref C) := fun s => .exc0 (s _ _ ea) c.ec
    have ty := tyF (fun _ _ h => h)
    refine ⟨_, rfl, _, .ref _, _, _, _, rfl, .own _, ty, c.k0, _, rfl, _, .ref _, _, _, _, rfl, .own _, ty, c.k1, _, rfl, _, .ref _, _, _, _, rfl, .own _, ty, c.k2, big3, fun a1 h1 => ?_⟩
    have SH1 : Same H (upd H a1 (.lst [.bl (decide (0 = j)), .bl (decide (1 = j)), .bl (decide (2 = j))])) := same_new h1
    have eH1 : (upd H a1 (.lst [.bl (decide (0 = j)), .bl (decide (1 = j)), .bl (decide (2 = j))])) a1 = some (.lst [.bl (decide (0 = j)), .bl (decide (1 = j)), .bl (decide (2 = j))]) := upd_same
    generalize upd H a1 (.lst [.bl (decide (0 = j)), .bl (decide (1 = j)), .bl (decide (2 = j))]) = H1 at SH1 eH1 ⊢
    have ty := tyF SH1
    refine ⟨_, rfl, _, rfl, _, .ref _, _, _, _, rfl, .own _, ty, c.k3, _, rfl, _, .ref _, _, _, _, rfl, .own _, ty, c.k4, _, rfl, _, .ref _, _, _, _, rfl, .own _, ty, c.k5, big3, fun d1 hd1 => ?_⟩
    refine ⟨a1, d1, _, _, rfl, rfl, same_new hd1 _ _ eH1, upd_same, (by show 6 ≤ sizeLine; decide), fun r1 hr1 => ?_⟩
    have SH2 : Same H (upd (upd H1 d1 (.lst [.bl (decide (3 = j)), .bl (decide (4 = j)), .bl (decide (5 = j))])) r1 (.lst ([.bl (decide (0 = j)), .bl (decide (1 = j)), .bl (decide (2 = j))] ++ [.bl (decide (3 = j)), .bl (decide (4 = j)), .bl (decide (5 = j))]))) := SH1.trans ((same_new hd1).trans (same_new hr1))
    have eH2 : (upd (upd H1 d1 (.lst [.bl (decide (3 = j)), .bl (decide (4 = j)), .bl (decide (5 = j))])) r1 (.lst ([.bl (decide (0 = j)), .bl (decide (1 = j)), .bl (decide (2 = j))] ++ [.bl (decide (3 = j)), .bl (decide (4 = j)), .bl (decide (5 = j))]))) r1 = some (.lst [.bl (decide (0 = j)), .bl (decide (1 = j)), .bl (decide (2 = j)), .bl (decide (3 = j)), .bl (decide (4 = j)), .bl (decide (5 = j))]) := upd_same
    generalize upd (upd H1 d1 (.lst [.bl (decide (3 = j)), .bl (decide (4 = j)), .bl (decide (5 = j))])) r1 (.lst ([.bl (decide (0 = j)), .bl (decide (1 = j)), .bl (decide (2 = j))] ++ [.bl (decide (3 = j)), .bl (decide (4 = j)), .bl (decide (5 = j))])) = H2 at SH2 eH2 ⊢
    have ty := tyF SH2
    refine ⟨_, rfl, _, rfl, _, .ref _, _, _, _, rfl, .own _, ty, c.k6, _, rfl, _, .ref _, _, _, _, rfl, .own _, ty, c.k7, _, rfl, _, .ref _, _, _, _, rfl, .own _, ty, c.k8, big3, fun d2 hd2 => ?_⟩
    refine ⟨r1, d2, _, _, rfl, rfl, same_new hd2 _ _ eH2, upd_same, (by show 9 ≤ sizeLine; decide), fun r2 hr2 => ?_⟩
    have SH3 : Same H (upd (upd H2 d2 (.lst [.bl (decide (6 = j)), .bl (decide (7 = j)), .bl (decide (8 = j))])) r2 (.lst ([.bl (decide (0 = j)), .bl (decide (1 = j)), .bl (decide (2 = j)), .bl (decide (3 = j)), .bl (decide (4 = j)), .bl (decide (5 = j))] ++ [.bl (decide (6 = j)), .bl (decide (7 = j)), .bl (decide (8 = j))]))) := SH2.trans ((same_new hd2).trans (same_new hr2))
    have eH3 : (upd (upd H2 d2 (.lst [.bl (decide (6 = j)), .bl (decide (7 = j)), .bl (decide (8 = j))])) r2 (.lst ([.bl (decide (0 = j)), .bl (decide (1 = j)), .bl (decide (2 = j)), .bl (decide (3 = j)), .bl (decide (4 = j)), .bl (decide (5 = j))] ++ [.bl (decide (6 = j)), .bl (decide (7 = j)), .bl (decide (8 = j))]))) r2 = some (.lst [.bl (decide (0 = j)), .bl (decide (1 = j)), .bl (decide (2 = j)), .bl (decide (3 = j)), .bl (decide (4 = j)), .bl (decide (5 = j)), .bl (decide (6 = j)), .bl (decide (7 = j)), .bl (decide (8 = j))]) := upd_same
    generalize upd (upd H2 d2 (.lst [.bl (decide (6 = j)), .bl (decide (7 = j)), .bl (decide (8 = j))])) r2 (.lst ([.bl (decide (0 = j)), .bl (decide (1 = j)), .bl (decide (2 = j)), .bl (decide (3 = j)), .bl (decide (4 = j)), .bl (decide (5 = j))] ++ [.bl (decide (6 = j)), .bl (decide (7 = j)), .bl (decide (8 = j))])) = H3 at SH3 eH3 ⊢
    have ty := tyF SH3
    refine ⟨_, rfl, _, rfl, _, .ref _, _, _, _, rfl, .own _, ty, c.k9, _, rfl, _, .ref _, _, _, _, rfl, .own _, ty, c.k10, _, rfl, _, .ref _, _, _, _, rfl, .own _, ty, c.k11, big3, fun d3 hd3 => ?_⟩
    refine ⟨r2, d3, _, _, rfl, rfl, same_new hd3 _ _ eH3, upd_same, (by show 12 ≤ sizeLine; decide), fun r3 hr3 => ?_⟩
    have SH4 : Same H (upd (upd H3 d3 (.lst [.bl (decide (9 = j)), .bl (decide (10 = j)), .bl (decide (11 = j))])) r3 (.lst ([.bl (decide (0 = j)), .bl (decide (1 = j)), .bl (decide (2 = j)), .bl (decide (3 = j)), .bl (decide (4 = j)), .bl (decide (5 = j)), .bl (decide (6 = j)), .bl (decide (7 = j)), .bl (decide (8 = j))] ++ [.bl (decide (9 = j)), .bl (decide (10 = j)), .bl (decide (11 = j))]))) := SH3.trans ((same_new hd3).trans (same_new hr3))
    have eH4 : (upd (upd H3 d3 (.lst [.bl (decide (9 = j)), .bl (decide (10 = j)), .bl (decide (11 = j))])) r3 (.lst ([.bl (decide (0 = j)), .bl (decide (1 = j)), .bl (decide (2 = j)), .bl (decide (3 = j)), .bl (decide (4 = j)), .bl (decide (5 = j)), .bl (decide (6 = j)), .bl (decide (7 = j)), .bl (decide (8 = j))] ++ [.bl (decide (9 = j)), .bl (decide (10 = j)), .bl (decide (11 = j))]))) r3 = some (.lst [.bl (decide (0 = j)), .bl (decide (1 = j)), .bl (decide (2 = j)), .bl (decide (3 = j)), .bl (decide (4 = j)), .bl (decide (5 = j)), .bl (decide (6 = j)), .bl (decide (7 = j)), .bl (decide (8 = j)), .bl (decide (9 = j)), .bl (decide (10 = j)), .bl (decide (11 = j))]) := upd_same
    generalize upd (upd H3 d3 (.lst [.bl (decide (9 = j)), .bl (decide (10 = j)), .bl (decide (11 = j))])) r3 (.lst ([.bl (decide (0 = j)), .bl (decide (1 = j)), .bl (decide (2 = j)), .bl (decide (3 = j)), .bl (decide (4 = j)), .bl (decide (5 = j)), .bl (decide (6 = j)), .bl (decide (7 = j)), .bl (decide (8 = j))] ++ [.bl (decide (9 = j)), .bl (decide (10 = j)), .bl (decide (11 = j))])) = H4 at SH4 eH4 ⊢
    have ty := tyF SH4
    refine ⟨_, rfl, (by show 7 ≤ sizeLine; decide), fun t0 ht0 => ?_⟩
    have eR4 := same_new (o := .tup [.ref (He.ga K "HasPen"), .ref (He.ga K "InvalidArt"), .ref (He.ga K "InvalidCommand"), .ref (He.ga K "InvalidCount"), .ref (He.ga K "InvalidFace"), .ref (He.ga K "InvalidFaces"), .ref (He.ga K "InvalidLetter")]) ht0 _ _ eH4
    have SH5 : Same H (upd H4 t0 (.tup [.ref (He.ga K "HasPen"), .ref (He.ga K "InvalidArt"), .ref (He.ga K "InvalidCommand"), .ref (He.ga K "InvalidCount"), .ref (He.ga K "InvalidFace"), .ref (He.ga K "InvalidFaces"), .ref (He.ga K "InvalidLetter")])) := SH4.trans (same_new ht0)
    have eH5 : (upd H4 t0 (.tup [.ref (He.ga K "HasPen"), .ref (He.ga K "InvalidArt"), .ref (He.ga K "InvalidCommand"), .ref (He.ga K "InvalidCount"), .ref (He.ga K "InvalidFace"), .ref (He.ga K "InvalidFaces"), .ref (He.ga K "InvalidLetter")])) t0 = some (.tup [.ref (He.ga K "HasPen"), .ref (He.ga K "InvalidArt"), .ref (He.ga K "InvalidCommand"), .ref (He.ga K "InvalidCount"), .ref (He.ga K "InvalidFace"), .ref (He.ga K "InvalidFaces"), .ref (He.ga K "InvalidLetter")]) := upd_same
    generalize upd H4 t0 (.tup [.ref (He.ga K "HasPen"), .ref (He.ga K "InvalidArt"), .ref (He.ga K "InvalidCommand"), .ref (He.ga K "InvalidCount"), .ref (He.ga K "InvalidFace"), .ref (He.ga K "InvalidFaces"), .ref (He.ga K "InvalidLetter")]) = H5 at eR4 SH5 eH5 ⊢
    have ty := tyF SH5
    refine ⟨_, t0, _, _, _, _, rfl, eH5, (.cons (.own _) (.cons (.own _) (.cons (.own _) (.cons (.own _) (.cons (.own _) (.cons (.own _) (.cons (.own _) .nil))))))), ty, c.a0, _, rfl, iteF ?_⟩
    refine ⟨_, rfl, (by show 6 ≤ sizeLine; decide), fun t1 ht1 => ?_⟩
    have eR5 := same_new (o := .tup [.ref (He.ga K "InvalidName"), .ref (He.ga K "InvalidOperation"), .ref (He.ga K "InvalidPicture"), .ref (He.ga K "InvalidSource"), .ref (He.ga K "InvalidText"), .ref (He.ga K "InvalidTurn")]) ht1 _ _ eR4
    have SH6 : Same H (upd H5 t1 (.tup [.ref (He.ga K "InvalidName"), .ref (He.ga K "InvalidOperation"), .ref (He.ga K "InvalidPicture"), .ref (He.ga K "InvalidSource"), .ref (He.ga K "InvalidText"), .ref (He.ga K "InvalidTurn")])) := SH5.trans (same_new ht1)
    have eH6 : (upd H5 t1 (.tup [.ref (He.ga K "InvalidName"), .ref (He.ga K "InvalidOperation"), .ref (He.ga K "InvalidPicture"), .ref (He.ga K "InvalidSource"), .ref (He.ga K "InvalidText"), .ref (He.ga K "InvalidTurn")])) t1 = some (.tup [.ref (He.ga K "InvalidName"), .ref (He.ga K "InvalidOperation"), .ref (He.ga K "InvalidPicture"), .ref (He.ga K "InvalidSource"), .ref (He.ga K "InvalidText"), .ref (He.ga K "InvalidTurn")]) := upd_same
    generalize upd H5 t1 (.tup [.ref (He.ga K "InvalidName"), .ref (He.ga K "InvalidOperation"), .ref (He.ga K "InvalidPicture"), .ref (He.ga K "InvalidSource"), .ref (He.ga K "InvalidText"), .ref (He.ga K "InvalidTurn")]) = H6 at eR5 SH6 eH6 ⊢
    have ty := tyF SH6
    refine ⟨_, t1, _, _, _, _, rfl, eH6, (.cons (.own _) (.cons (.own _) (.cons (.own _) (.cons (.own _) (.cons (.own _) (.cons (.own _) .nil)))))), ty, c.a1, _, rfl, iteF ?_⟩
    refine ⟨_, rfl, (by show 4 ≤ sizeLine; decide), fun t2 ht2 => ?_⟩
    have eR6 := same_new (o := .tup [.ref (He.ga K "NoSteps"), .ref (He.ga K "NotClosed"), .ref (He.ga K "Nothing"), .ref (He.ga K "TooDeep")]) ht2 _ _ eR5
    have SH7 : Same H (upd H6 t2 (.tup [.ref (He.ga K "NoSteps"), .ref (He.ga K "NotClosed"), .ref (He.ga K "Nothing"), .ref (He.ga K "TooDeep")])) := SH6.trans (same_new ht2)
    have eH7 : (upd H6 t2 (.tup [.ref (He.ga K "NoSteps"), .ref (He.ga K "NotClosed"), .ref (He.ga K "Nothing"), .ref (He.ga K "TooDeep")])) t2 = some (.tup [.ref (He.ga K "NoSteps"), .ref (He.ga K "NotClosed"), .ref (He.ga K "Nothing"), .ref (He.ga K "TooDeep")]) := upd_same
    generalize upd H6 t2 (.tup [.ref (He.ga K "NoSteps"), .ref (He.ga K "NotClosed"), .ref (He.ga K "Nothing"), .ref (He.ga K "TooDeep")]) = H7 at eR6 SH7 eH7 ⊢
    have ty := tyF SH7
    refine ⟨_, t2, _, _, _, _, rfl, eH7, (.cons (.own _) (.cons (.own _) (.cons (.own _) (.cons (.own _) .nil)))), ty, c.a2, _, rfl, iteF ⟨_, rfl, _, .ty "ValueError", _, _, _, rfl, .ty "ValueError", ty, c.ve, _, rfl, iteF ?_⟩⟩
    refine ⟨big11, fun nm hnm => ?_⟩
    have eL := same_new (o := .lst [.str "program", .str "times", .str "index", .str "motion", .str "pose", .str "point", .str "edge", .str "intervals", .str "even", .str "place", .str "drift"]) hnm _ _ eR6
    have SA := SH7.trans (same_new (o := .lst [.str "program", .str "times", .str "index", .str "motion", .str "pose", .str "point", .str "edge", .str "intervals", .str "even", .str "place", .str "drift"]) hnm)
    have nn : r3 ≠ nm := fun z => by
      rw [z, hnm] at eR6
      cases eR6
    have j11 : decide (11 = j) = false := decide_eq_false (by have := c.lt; omega)
    refine ⟨_, rfl, .inl ⟨rfl, _, lstL upd_same⟩, _, rfl, r3, _, 11, _, rfl, rfl, lstL eL, atI_nat (j := 11) rfl, _, rfl, ite_f j11 ⟨nm, _, _, rfl, rfl, upd_same, (by show 11 < sizeLine; decide), ?_⟩⟩
    have eL2 : (upd (upd H7 nm (.lst [.str "program", .str "times", .str "index", .str "motion", .str "pose", .str "point", .str "edge", .str "intervals", .str "even", .str "place", .str "drift"])) nm (.lst ([.str "program", .str "times", .str "index", .str "motion", .str "pose", .str "point", .str "edge", .str "intervals", .str "even", .str "place", .str "drift"] ++ [.str "large"]))) r3 = some (.lst (clsRow j)) := (upd_ne nn).trans eL
    have eN : (upd (upd H7 nm (.lst [.str "program", .str "times", .str "index", .str "motion", .str "pose", .str "point", .str "edge", .str "intervals", .str "even", .str "place", .str "drift"])) nm (.lst ([.str "program", .str "times", .str "index", .str "motion", .str "pose", .str "point", .str "edge", .str "intervals", .str "even", .str "place", .str "drift"] ++ [.str "large"]))) nm = some (.lst (clsWords.map V.str)) := upd_same
    have SB : Same H (upd (upd H7 nm (.lst [.str "program", .str "times", .str "index", .str "motion", .str "pose", .str "point", .str "edge", .str "intervals", .str "even", .str "place", .str "drift"])) nm (.lst ([.str "program", .str "times", .str "index", .str "motion", .str "pose", .str "point", .str "edge", .str "intervals", .str "even", .str "place", .str "drift"] ++ [.str "large"]))) := fun b o h => by
      have h7 := SH7 _ _ h
      have nb : b ≠ nm := fun z => by rw [z, hnm] at h7; cases h7
      rw [upd_ne nb, upd_ne nb]
      exact h7
    generalize (upd (upd H7 nm (.lst [.str "program", .str "times", .str "index", .str "motion", .str "pose", .str "point", .str "edge", .str "intervals", .str "even", .str "place", .str "drift"])) nm (.lst ([.str "program", .str "times", .str "index", .str "motion", .str "pose", .str "point", .str "edge", .str "intervals", .str "even", .str "place", .str "drift"] ++ [.str "large"]))) = H8 at eL2 eN SB ⊢
    refine ⟨_, rfl, .inl ⟨rfl, _, lstL eL2⟩, r3, _, .bl true, rfl, rfl, lstL eL2, rfl, clsRow_flat j, rfl, true, ?_, iteT ?_⟩
    · rw [clsRow_count j c.lt]
      rfl
    refine ⟨_, rfl, _, rfl, .inl ⟨rfl, _, lstL eL2⟩, r3, _, .bl true, j, .bl true, rfl, rfl, lstL eL2, rfl, clsRow_flat j, clsRow_at j c.lt, rfl, clsRow_no j, ?_⟩
    exact ⟨nm, _, _, _, rfl, rfl, lstL eN, atI_nat (clsWords_at j c.lt), q _ SB⟩
end
end K22

set_option Elab.async false
set_option linter.all false
set_option maxRecDepth 100000
set_option maxHeartbeats 4000000
set_option exponentiation.threshold 600
namespace K22
open PySem PySem.Spec PyProof.Rows L2 RT SM DQ
theorem takesN0 {X : Cx} : L2N.Takes X (fun _ _ _ _ => False) := fun u s' x => by
  obtain ⟨_, _, _, _, _, _, _, _, _, _, _, _, _, _, _, _, w⟩ := x
  exact w.elim
theorem seq_via {A B : TS} {D : Ends} {σ : L2.St} {H : Hp} (Good : L2.St → Hp → Prop) (h1 : ∀ D' : Ends, (∀ σ' H', Good σ' H' → D'.nx σ' H') → A D' σ H) (h2 : ∀ σ' H', Good σ' H' → B D σ' H') : tSeq A B D σ H := h1 _ h2
theorem seq_via2 {A B C : TS} {D : Ends} {σ : L2.St} {H : Hp} (G0 Good : L2.St → Hp → Prop) (h0 : ∀ D' : Ends, (∀ σ' H', G0 σ' H' → D'.nx σ' H') → A D' σ H) (h1 : ∀ σ' H', G0 σ' H' → ∀ D' : Ends, (∀ σ'' H'', Good σ'' H'' → D'.nx σ'' H'') → B D' σ' H')
    (h2 : ∀ σ' H', Good σ' H' → C D σ' H') : tSeq A (tSeq B C) D σ H := h0 _ fun σ' H' g => h1 σ' H' g _ h2
section
variable {P : Program} {w : World} {K : PySem.W.Frag} {mg : Str → Option Value} {base : Heap}
def told (door : Int) (d e : PyData) : Str := if fineD d = false then "intervals" else if door = 2 ∧ isI e = false then "place" else "fine"
def Shows (d e : PyData) : Prop := (PyData.list [d, e]).showable = true ∧ (PyData.list [d, e]).depth ≤ 40 ∧ (PyData.list [d, e]).shown.length ≤ sizeLine
def spTold (K : PySem.W.Frag) : Sp := fun vs H Q _ => ∃ door v p d e, vs = [.int door, v, p] ∧ (door = 0 ∨ door = 1 ∨ door = 2) ∧ Dq H v d ∧ Dq H p e ∧ Few d ∧ Shows d e ∧ (fineD d = true → Good K H v) ∧ ∀ H', Same H H' → Q (.str (told door d e)) H'
/-- what stands in caught behind the try -/
def Caught (K : PySem.W.Frag) (H : Hp) (c : V) (r : Str) : Prop := (c = .non ∧ r = "fine") ∨ ∃ a C j, c = .ref a ∧ H a = some (ExT a (.ref C) none) ∧ ClsAt K C j ∧ r = clsWords.getD j ""
theorem ok_told (D : Ds K) (T : Tx K mg) : FnG P w K mg base CX0 6 (d_law_told.adr K) D.fd__law_told ["door", "value", "place"] (spTold K) := by
  have GV : FnOk P w K mg base (L2N.CX P w) 5 _ _ _ (spSpX K) := ok_covX D T
  have GO : FnOk P w K mg base (L2N.CX P w) 5 _ _ _ (spSpX K) := ok_oddX D T
  have GD : FnOk P w K mg base (L2N.CX P w) 5 _ _ _ (spDepX K) := ok_depX D T
  have GC : FnOk P w K mg base CX0 1 _ _ _ (spClass K) := ok_class D T
  refine okG D.F__law_told sc_law_told (fun vs H Q E h => ?_) (fun cdv A outer s H vs Q E hG hr h => ?_)
  · obtain ⟨door, v, p, d, e, rfl, _⟩ := h
    rfl
  · obtain ⟨door, v, p, d, e, rfl, hdoor, hd, he, few, ⟨sh1, sh2, sh3⟩, good, q⟩ := h
    have nd := sc_law_told.nd
    have hu : ∀ X : Cx, X.A = A.deeper (envOfC (Str.ofString "_law_told") (defScope s_law_told) s.heap.objs.size (d_law_told.adr K) cdv) → X.A.units + 64 < cLine := fun X e => by rw [e]; exact hr.units
    refine ⟨_, PSs.nox (pss_cons (ps_par (i := 3) (j := 4) (by rfl) nd rfl rfl (by decide) rfl rfl (pa_cons (pe_callB (call_reprQ T.sm hG hr.units) (by rfl) T.z_repr (by decide +kernel) (pa_cons (pe_lst (pa_cons (pv 1) (pa_cons (pv 2) pa_nil))) pa_nil)) (pa_cons pe_non pa_nil)) (by rfl))
      (pss_cons (ps_try_asT (i := 5) rfl rfl rfl nd rfl rfl ⟨rfl, by decide, .inl T.g_PlotError⟩ takesN0
        (fun W pn xe tk _ => pss_one (ps_if (pt_cmpR op_eq (pv 0) pe_int (nomark _)) (pss_one (ps_expr (pe_callS GV hr (by rfl) T.g_covered D.F_covered.kp (b_covered D) (fun σ => L2N.passAt tk σ) (pa_cons (pv 1) pa_nil))))
          (pss_one (ps_if (pt_cmpR op_eq (pv 0) pe_int (nomark _)) (pss_one (ps_expr (pe_callS GO hr (by rfl) T.g_odd_covered D.F_odd_covered.kp (b_odd_covered D) (fun σ => L2N.passAt tk σ) (pa_cons (pv 1) pa_nil))))
            (pss_one (ps_expr (pe_callS GD hr (by rfl) T.g_depth_at D.F_depth_at.kp (b_depth_at D) (fun σ => L2N.passAt tk σ) (pa_cons (pv 1) (pa_cons (pv 2) pa_nil)))))))))
        (fun a oe cls d pn hz hf => pss_one (ps_set (i := 4) nd rfl (.inl rfl) (pv 5))))
      (pss_cons (ps_if (pt_cmpR op_ne (pe_callB (call_reprQ T.sm hG hr.units) (by rfl) T.z_repr (by decide +kernel) (pa_cons (pe_lst (pa_cons (pv 1) (pa_cons (pv 2) pa_nil))) pa_nil)) (pv 3) (nomark _)) (pss_one (ps_ret pe_str)) pss_nil)
      (pss_one (ps_ret (pe_ifExp (pt_cmpR op_isN (pv 4) pe_non (nomark _)) pe_str (pe_call GC (hr.mono (by decide)) (by rfl) T.g__law_class D.F__law_class.kp (b__law_class D) .nil pass0 (pa_cons (pv 4) pa_nil)))))))), ?_⟩
    refine seq_via2 (G0 := fun σ H' => σ = [some (.int door), some v, some p, some (.str (PyData.list [d, e]).shown), some .non, none] ∧ Same H H') (Good := fun σ H' => ∃ c, σ = [some (.int door), some v, some p, some (.str (PyData.list [d, e]).shown), some c, none] ∧ Same H H' ∧ Caught K H' c (told door d e)) (fun D' hD => ?_) (fun σ H1 g0 D' hD => ?_) (fun σ H' g => ?_)
    · refine ⟨_, rfl, _, rfl, (by show 2 ≤ sizeLine; decide), fun l hl => ?_⟩
      have s0 := same_new (o := .lst [v, p]) hl
      exact ⟨l, .list [d, e], rfl, .lst upd_same (.cons (hd.same s0) (.cons (he.same s0) .nil)), sh1, sh2, sh3, _, _, rfl, hD _ _ ⟨rfl, s0⟩⟩
    · obtain ⟨rfl, s0⟩ := g0
      have tI : fineD d = false → told door d e = clsWords.getD 7 "" := fun z => by unfold told; rw [if_pos z]; rfl
      have tP : fineD d = true → door = 2 → isI e = false → told door d e = clsWords.getD 9 "" := fun z1 z2 z3 => by unfold told; rw [if_neg (by rw [z1]; exact Bool.false_ne_true.symm), if_pos ⟨z2, z3⟩]; rfl
      have tF : fineD d = true → ¬ (door = 2 ∧ isI e = false) → told door d e = "fine" := fun z1 z2 => by unfold told; rw [if_neg (by rw [z1]; exact Bool.false_ne_true.symm), if_neg z2]
      have sx : ∀ {H' : Hp} {a : Addr} {o : HO}, Same H1 H' → H' a = none → Same H (upd H' a o) := fun s' ha => s0.trans (s'.trans (same_new ha))
      rcases hdoor with rfl | rfl | rfl
      · refine ⟨_, rfl, rfl, true, rfl, iteT ⟨_, rfl, v, d, rfl, hd.same s0, few, fun ef H' s' => ⟨true, T.pe_InvalidIntervals, fun _ a ha => ⟨_, rfl, hD _ _ ⟨.ref a, rfl, sx s' ha, .inr ⟨a, _, 7, rfl, upd_same, cls_II T, tI ef⟩⟩⟩, fun z => nomatch z⟩, fun ef => ⟨(good ef).same s0, fun x H' s' => hD _ _ ⟨.non, rfl, s0.trans s', .inl ⟨rfl, tF ef (fun z => absurd z.1 (by decide))⟩⟩⟩⟩⟩
      · refine ⟨_, rfl, rfl, false, rfl, iteF ⟨_, rfl, rfl, true, rfl, iteT ⟨_, rfl, v, d, rfl, hd.same s0, few, fun ef H' s' => ⟨true, T.pe_InvalidIntervals, fun _ a ha => ⟨_, rfl, hD _ _ ⟨.ref a, rfl, sx s' ha, .inr ⟨a, _, 7, rfl, upd_same, cls_II T, tI ef⟩⟩⟩, fun z => nomatch z⟩, fun ef => ⟨(good ef).same s0, fun x H' s' => hD _ _ ⟨.non, rfl, s0.trans s', .inl ⟨rfl, tF ef (fun z => absurd z.1 (by decide))⟩⟩⟩⟩⟩⟩
      · refine ⟨_, rfl, rfl, false, rfl, iteF ⟨_, rfl, rfl, false, rfl, iteF ⟨_, rfl, _, rfl, v, p, d, e, rfl, hd.same s0, he.same s0, few, fun ef H' s' => ⟨true, T.pe_InvalidIntervals, fun _ a ha => ⟨_, rfl, hD _ _ ⟨.ref a, rfl, sx s' ha, .inr ⟨a, _, 7, rfl, upd_same, cls_II T, tI ef⟩⟩⟩, fun z => nomatch z⟩,
          fun ef ei H' s' => ⟨true, T.pe_InvalidPlace, fun _ a ha => ⟨_, rfl, hD _ _ ⟨.ref a, rfl, sx s' ha, .inr ⟨a, _, 9, rfl, upd_same, cls_IP T, tP ef rfl ei⟩⟩⟩, fun z => nomatch z⟩,
          fun ef ei => ⟨(good ef).same s0, fun x H' s' => hD _ _ ⟨.non, rfl, s0.trans s', .inl ⟨rfl, tF ef (fun z => by rw [ei] at z; cases z.2)⟩⟩⟩⟩⟩⟩
    · obtain ⟨c, rfl, s1, hc⟩ := g
      refine ⟨_, rfl, _, rfl, (by show 2 ≤ sizeLine; decide), fun l2 hl2 => ?_⟩
      have s2 := same_new (o := .lst [v, p]) hl2
      have s3 := s1.trans s2
      refine ⟨l2, .list [d, e], rfl, .lst upd_same (.cons (hd.same s3) (.cons (he.same s3) .nil)), sh1, sh2, sh3, _, rfl, rfl, _, rfl, ite_f (by rw [decide_eq_true rfl]; rfl) ?_⟩
      rcases hc with ⟨rfl, er⟩ | ⟨a, C, j, rfl, ea, cj, er⟩
      · rw [er] at q
        exact ⟨_, rfl, rfl, true, rfl, iteT (q _ s3)⟩
      · rw [er] at q
        exact ⟨_, rfl, rfl, false, rfl, iteF ⟨_, rfl, a, C, j, rfl, s2 _ _ ea, cj, fun H' s' => q _ (s3.trans s')⟩⟩
end
end K22

set_option Elab.async false
set_option linter.all false
set_option maxRecDepth 100000
set_option maxHeartbeats 4000000
set_option exponentiation.threshold 600
/-! how long data are when shown -/
namespace DQ
open PySem PySem.Spec PyProof.Rows L2 RT
def Sz (n c : Nat) (d : PyData) : Prop := d.showable = true ∧ d.depth ≤ n ∧ d.shown.length ≤ c
theorem Sz.mono {n c m b : Nat} {d : PyData} (h : Sz n c d) (h1 : n ≤ m) (h2 : c ≤ b) : Sz m b d := ⟨h.1, Nat.le_trans h.2.1 h1, Nat.le_trans h.2.2 h2⟩
theorem sz_int {i : Int} (h : i.natAbs < 2 ^ 600) : Sz 0 1921 (.int i) := by
  have hl : i.natAbs.log2 < 1920 := by
    have := (Nat.log2_lt (n := i.natAbs) (k := 600))
    by_cases z : i.natAbs = 0
    · rw [z]; decide
    · have := (Nat.log2_lt z).mpr h
      omega
  refine ⟨?_, Nat.le_refl _, ?_⟩
  · show decide (i.natAbs.log2 < 1920) = true
    exact decide_eq_true hl
  · show (Str.ofString (toString i)).length ≤ 1921
    exact int_text_len_1921 hl
theorem textFrom_le (c : Nat) : ∀ (ts : List Str) (k : Nat) (acc : Str), (∀ t ∈ ts, t.length ≤ c) → (textFrom k acc ts).length ≤ acc.length + ts.length * (c + 2)
  | [], _, _, _ => by show _ ≤ _ + 0 * _; rw [Nat.zero_mul]; exact Nat.le_refl _
  | t :: r, k, acc, h => by
    have ih := textFrom_le c r (k + 1) (acc ++ (if k > 0 then ", " else "" : String) ++ t) fun u hu => h u (List.mem_cons_of_mem _ hu)
    have e : (acc ++ (if k > 0 then ", " else "" : String) ++ t).length = acc.length + (if k > 0 then 2 else 0) + t.length := by
      rw [strLen_append, strLen_append]
      split <;> rfl
    rw [e] at ih
    have ht := h t (List.mem_cons_self ..)
    show (textFrom (k + 1) _ r).length ≤ acc.length + (r.length + 1) * (c + 2)
    rw [Nat.add_mul, Nat.one_mul]
    have d : (if k > 0 then 2 else 0 : Nat) ≤ 2 := by split <;> omega
    omega
theorem listText_le (c : Nat) (ts : List Str) (h : ∀ t ∈ ts, t.length ≤ c) : (listText ts).length ≤ 2 + ts.length * (c + 2) := by
  have h1 := textFrom_le c ts 0 "[" h
  have l1 : (("[" : String) : Str).length = 1 := rfl
  have l3 : (("]" : String) : Str).length = 1 := rfl
  show (textFrom 0 "[" ts ++ "]").length ≤ _
  rw [strLen_append]
  omega
theorem piled_le (c : Nat) : ∀ (ts : List Str), (∀ t ∈ ts, t.length ≤ c) → piled ts ≤ ts.length * (c + 2)
  | [], _ => Nat.zero_le _
  | t :: r, h => by
    have ih := piled_le c r fun u hu => h u (List.mem_cons_of_mem _ hu)
    have ht := h t (List.mem_cons_self ..)
    rw [piled_cons]
    show _ ≤ (r.length + 1) * (c + 2)
    rw [Nat.add_mul, Nat.one_mul]
    omega
theorem tupleText_le (c : Nat) (ts : List Str) (h : ∀ t ∈ ts, t.length ≤ c) : (tupleText ts).length ≤ 3 + ts.length * (c + 2) := by
  unfold tupleText
  rw [strLen_append, strLen_append]
  have l1 : (("(" : String) : Str).length = 1 := rfl
  have l2 : ((if ts.length == 1 then ",)" else ")" : String) : Str).length ≤ 2 := by
    split <;> decide
  have l3 : (Str.join ", " ts).length ≤ ts.length * (c + 2) := by
    by_cases z : ts = []
    · subst z
      exact Nat.zero_le _
    · have h1 := join_length_add ts z
      have h2 := piled_le c ts h
      omega
  omega
theorem shownAll_map : ∀ ds : List PyData, PyData.shownAll ds = ds.map PyData.shown
  | [] => by rw [PyData.shownAll]; rfl
  | d :: ds => by rw [PyData.shownAll, shownAll_map ds]; rfl
theorem showableAll_of : ∀ {ds : List PyData}, (∀ d ∈ ds, d.showable = true) → PyData.showableAll ds = true
  | [], _ => by rw [PyData.showableAll]
  | d :: ds, h => by rw [PyData.showableAll, h d (List.mem_cons_self ..), showableAll_of fun e he => h e (List.mem_cons_of_mem _ he)]; rfl
theorem depthAll_of {n : Nat} : ∀ {ds : List PyData}, (∀ d ∈ ds, d.depth ≤ n) → PyData.depthAll ds ≤ n
  | [], _ => by rw [PyData.depthAll]; exact Nat.zero_le _
  | d :: ds, h => by
    rw [PyData.depthAll]
    exact Nat.max_le.mpr ⟨h d (List.mem_cons_self ..), depthAll_of fun e he => h e (List.mem_cons_of_mem _ he)⟩
theorem sz_list {n c m : Nat} {ds : List PyData} (h : ∀ d ∈ ds, Sz n c d) (hn : ds.length ≤ m) : Sz (n + 1) (3 + m * (c + 2)) (.list ds) := by
  refine ⟨?_, ?_, ?_⟩
  · rw [PyData.showable]
    exact showableAll_of fun d hd => (h d hd).1
  · rw [PyData.depth]
    exact Nat.succ_le_succ (depthAll_of fun d hd => (h d hd).2.1)
  · rw [PyData.shown, shownAll_map]
    have h1 := listText_le c (ds.map PyData.shown) fun t ht => by
      obtain ⟨d, hd, rfl⟩ := List.mem_map.mp ht
      exact (h d hd).2.2
    rw [List.length_map] at h1
    have h2 : ds.length * (c + 2) ≤ m * (c + 2) := Nat.mul_le_mul_right _ hn
    omega
theorem sz_tuple {n c m : Nat} {ds : List PyData} (h : ∀ d ∈ ds, Sz n c d) (hn : ds.length ≤ m) : Sz (n + 1) (3 + m * (c + 2)) (.tuple ds) := by
  refine ⟨?_, ?_, ?_⟩
  · rw [PyData.showable]
    exact showableAll_of fun d hd => (h d hd).1
  · rw [PyData.depth]
    exact Nat.succ_le_succ (depthAll_of fun d hd => (h d hd).2.1)
  · rw [PyData.shown, shownAll_map]
    have h1 := tupleText_le c (ds.map PyData.shown) fun t ht => by
      obtain ⟨d, hd, rfl⟩ := List.mem_map.mp ht
      exact (h d hd).2.2
    rw [List.length_map] at h1
    have h2 : ds.length * (c + 2) ≤ m * (c + 2) := Nat.mul_le_mul_right _ hn
    omega
/-! ### data that hold no row of three numbers stay while the draws' state changes -/
def is3 : List PyData → Bool
  | [.int _, .int _, .int _] => true
  | _ => false
mutual
def noT : PyData → Bool
  | .none | .bool _ | .int _ | .str _ => true
  | .list xs => !is3 xs && noTA xs
  | .tuple xs => noTA xs
  | .dict kvs => noTK kvs
def noTA : List PyData → Bool
  | [] => true
  | x :: xs => noT x && noTA xs
def noTK : List (PyData × PyData) → Bool
  | [] => true
  | (_, v) :: r => noT v && noTK r
end
mutual
theorem Dq.keep {H H' : Hp} {t : Addr} {x y z : Int} (et : H t = some (.lst [.int x, .int y, .int z])) (k : ∀ b o, b ≠ t → H b = some o → H' b = some o) : ∀ {v : V} {d : PyData}, Dq H v d → noT d = true → Dq H' v d
  | _, _, .non, _ => .non
  | _, _, .bl b, _ => .bl b
  | _, _, .int i, _ => .int i
  | _, _, .str x, _ => .str x
  | _, _, .lst (a := a) (xs := xs) (ds := ds) h q, n => by
    rw [noT, Bool.and_eq_true] at n
    refine .lst (k a _ (fun e => ?_) h) (DqA.keep et k q n.2)
    rw [e, et] at h
    injection h with h
    injection h with h
    subst h
    cases q with
    | cons h1 q => cases h1; cases q with
      | cons h2 q => cases h2; cases q with
        | cons h3 q => cases h3; cases q; exact absurd n.1 (by simp [is3])
  | _, _, .tup (a := a) h q, n => by
    rw [noT] at n
    exact .tup (k a _ (fun e => by rw [e, et] at h; cases h) h) (DqA.keep et k q n)
  | _, _, .d0 (a := a) h, _ => .d0 (k a _ (fun e => by rw [e, et] at h; cases h) h)
  | _, _, .d1 (a := a) h q, n => by
    rw [noT, noTK, Bool.and_eq_true] at n
    exact .d1 (k a _ (fun e => by rw [e, et] at h; cases h) h) (Dq.keep et k q n.1)
theorem DqA.keep {H H' : Hp} {t : Addr} {x y z : Int} (et : H t = some (.lst [.int x, .int y, .int z])) (k : ∀ b o, b ≠ t → H b = some o → H' b = some o) : ∀ {vs : List V} {ds : List PyData}, DqA H vs ds → noTA ds = true → DqA H' vs ds
  | _, _, .nil, _ => .nil
  | _, _, .cons h q, n => by
    rw [noTA, Bool.and_eq_true] at n
    exact .cons (Dq.keep et k h n.1) (DqA.keep et k q n.2)
end
theorem DqA.cut {H : Hp} {vs : List V} {ds : List PyData} (h : DqA H vs ds) (lo hi : Option Int) : ∃ es, DqA H (cutV vs lo hi) es ∧ (∀ e ∈ es, e ∈ ds) ∧ es.length ≤ ds.length := by
  refine ⟨(ds.drop (HT.sIx vs.length 0 lo)).take (HT.sIx vs.length vs.length hi - HT.sIx vs.length 0 lo), (h.drop _).take _, fun e he => List.mem_of_mem_drop (List.mem_of_mem_take he), ?_⟩
  rw [List.length_take, List.length_drop]
  omega
end DQ

set_option Elab.async false
set_option linter.all false
set_option maxRecDepth 100000
set_option maxHeartbeats 4000000
set_option exponentiation.threshold 600
namespace K22
open PySem PySem.Spec PyProof.Rows L2 RT SM DQ
abbrev NNo : List Str := N_law_no_intervals ++ [("odd" : Str)]
theorem scNo : FnScope NNo ["tank", "good"] (defScope s_law_no_intervals) := ⟨rfl, rfl, rfl, by decide +kernel, rfl, by decide +kernel, by decide +kernel⟩
theorem upd_twice {H : Hp} {p : Addr} {o o' : HO} : upd (upd H p o) p o' = upd H p o' := by
  funext b
  by_cases h : b = p
  · subst h
    rw [upd_same, upd_same]
  · rw [upd_ne h, upd_ne h, upd_ne h]
def ivD (p : Iv) : PyData := .tuple [.int p.1, .int p.2]
theorem dq_ivs {H : Hp} : ∀ {us : List V} {L : List Iv}, Ivs H us L → DqA H us (L.map ivD)
  | _, _, .nil => .nil
  | _, _, .cons h r => by
    obtain ⟨t, rfl, et⟩ := h
    exact .cons (.tup et (.cons (.int _) (.cons (.int _) .nil))) (dq_ivs r)
theorem sz_iv {p : Iv} (h1 : p.1.natAbs < 2 ^ 500) (h2 : p.2.natAbs < 2 ^ 500) : Sz 4 4000 (ivD p) := by
  have l : (2 : Nat) ^ 500 ≤ 2 ^ 600 := Nat.pow_le_pow_right (by decide) (by decide)
  refine (sz_tuple (n := 0) (c := 1921) (m := 2) (fun d hd => ?_) (show [PyData.int p.1, PyData.int p.2].length ≤ 2 from Nat.le_refl 2)).mono (by decide) (by decide)
  rcases List.mem_cons.mp hd with rfl | hd
  · exact sz_int (by omega)
  · rcases List.mem_cons.mp hd with rfl | hd
    · exact sz_int (by omega)
    · cases hd
def Bad (d : PyData) : Prop := fineD d = false ∧ Few d ∧ Sz 8 1000000 d
/-- a row with one odd item -/
def BadL (ds : List PyData) : Prop := ds.all isIv = false ∧ ds.length ≤ 100 ∧ ∀ e ∈ ds, Sz 4 4000 e
theorem BadL.bad {ds : List PyData} (h : BadL ds) : Bad (.list ds) := ⟨h.1, fun es e => by injection e with e; subst e; have := h.2.1; omega, (sz_list h.2.2 h.2.1).mono (by decide) (by decide)⟩
theorem badL_of {es fs : List PyData} {d : PyData} (hd : isIv d = false) (sd : Sz 4 4000 d) (h1 : ∀ e ∈ es, Sz 4 4000 e) (h2 : ∀ e ∈ fs, Sz 4 4000 e) (l1 : es.length ≤ 40) (l2 : fs.length ≤ 40) : BadL (es ++ [d] ++ fs) := by
  refine ⟨?_, ?_, fun e he => ?_⟩
  · rw [List.all_append, List.all_append, List.all_cons, hd]
    simp
  · simp only [List.length_append, List.length_cons, List.length_nil]
    omega
  · rcases List.mem_append.mp he with he | he
    · rcases List.mem_append.mp he with he | he
      · exact h1 e he
      · rcases List.mem_cons.mp he with rfl | he
        · exact sd
        · cases he
    · exact h2 e he
theorem tkne {H : Hp} {t p : Addr} {c : Nat} (h : Tk H t c) (hp : H p = none) : t ≠ p := fun z => by
  obtain ⟨_, _, e, _⟩ := h
  rw [z, hp] at e
  cases e
/-- rows that were made one by one: ps, in the list at D -/
def Rows (HE : Hp) (D : Addr) (ps : List (Addr × List V)) (H' : Hp) : Prop := Same HE H' ∧ H' D = some (.lst (ps.map fun q => V.ref q.1)) ∧ ∀ q ∈ ps, q.1 ≠ D ∧ H' q.1 = some (.lst q.2) ∧ ∃ ds, DqA HE q.2 ds ∧ BadL ds
theorem rows_nil {HE : Hp} {D : Addr} (hD : HE D = none) : Rows HE D [] (upd HE D (.lst [])) := ⟨same_new hD, upd_same, fun q hq => by cases hq⟩
theorem rows_snoc {HE H' H4 : Hp} {D p : Addr} {ps : List (Addr × List V)} {xs : List V} {ds : List PyData} (hD : HE D = none) (h : Rows HE D ps H') (s : Same H' H4) (np : p ≠ D) (e : H4 p = some (.lst xs)) (q : DqA HE xs ds) (b : BadL ds) :
    H4 D = some (.lst (ps.map fun q => V.ref q.1)) ∧ Rows HE D (ps ++ [(p, xs)]) (upd H4 D (.lst ((ps.map fun q => V.ref q.1) ++ [.ref p]))) := by
  obtain ⟨h1, h2, h3⟩ := h
  refine ⟨s _ _ h2, fun a o ha => ?_, ?_, fun r hr => ?_⟩
  · rw [upd_ne (ne_of_none ha hD)]
    exact s _ _ (h1 _ _ ha)
  · rw [upd_same, List.map_append]
    rfl
  · rcases List.mem_append.mp hr with hr | hr
    · obtain ⟨n, e1, w⟩ := h3 r hr
      exact ⟨n, (upd_ne n).trans (s _ _ e1), w⟩
    · rcases List.mem_cons.mp hr with rfl | hr
      · exact ⟨np, (upd_ne np).trans e, ds, q, b⟩
      · cases hr
theorem rows_end {HE H' : Hp} {D : Addr} {ps : List (Addr × List V)} (h : Rows HE D ps H') : ∃ es, DqA H' (ps.map fun q => V.ref q.1) es ∧ (∀ d ∈ es, Bad d) ∧ es.length = ps.length := by
  obtain ⟨h1, h2, h3⟩ := h
  clear h2
  induction ps with
  | nil => exact ⟨[], .nil, fun d hd => (by cases hd), rfl⟩
  | cons q r ih =>
    obtain ⟨es, i1, i2, i3⟩ := ih fun x hx => h3 x (List.mem_cons_of_mem _ hx)
    obtain ⟨_, e1, ds, dq, b⟩ := h3 q (List.mem_cons_self ..)
    refine ⟨.list ds :: es, .cons (.lst e1 (dq.same h1)) i1, fun d hd => ?_, by rw [List.length_cons, i3]; rfl⟩
    rcases List.mem_cons.mp hd with rfl | hd
    · exact b.bad
    · exact i2 d hd
def oddOk (d : PyData) : Bool := !isIv d && (d.showable && (decide (d.depth ≤ 4) && decide (d.shown.length ≤ 4000)))
theorem oddOk_of {d : PyData} (h : oddOk d = true) : isIv d = false ∧ Sz 4 4000 d := by
  unfold oddOk at h
  rw [Bool.and_eq_true, Bool.and_eq_true, Bool.and_eq_true] at h
  obtain ⟨h1, h2, h3, h4⟩ := h
  exact ⟨by cases e : isIv d <;> simp_all, h2, of_decide_eq_true h3, of_decide_eq_true h4⟩
def badB (d : PyData) : Bool := !fineD d && (!isL d && (d.showable && (decide (d.depth ≤ 8) && decide (d.shown.length ≤ 1000000))))
theorem badB_of {d : PyData} (h : badB d = true) : Bad d := by
  unfold badB at h
  rw [Bool.and_eq_true, Bool.and_eq_true, Bool.and_eq_true, Bool.and_eq_true] at h
  obtain ⟨h1, h2, h3, h4, h5⟩ := h
  refine ⟨by cases e : fineD d <;> simp_all, fun ds e => ?_, h3, of_decide_eq_true h4, of_decide_eq_true h5⟩
  subst e
  cases h2
def OddL (ds : List PyData) : Prop := ∀ d ∈ ds, isIv d = false ∧ Sz 4 4000 d
theorem oddL_of {ds : List PyData} (h : ds.all oddOk = true) : OddL ds := fun d hd => oddOk_of (List.all_eq_true.mp h d hd)
theorem OddL.app {ds es : List PyData} (h : OddL ds) (k : OddL es) : OddL (ds ++ es) := fun d hd => (List.mem_append.mp hd).elim (h d) (k d)
theorem pair_odd {i j : Int} (h : ¬ i < j) (hi : i.natAbs < 2 ^ 600) (hj : j.natAbs < 2 ^ 600) : isIv (.tuple [.int i, .int j]) = false ∧ Sz 4 4000 (.tuple [.int i, .int j]) := by
  refine ⟨decide_eq_false h, (sz_tuple (n := 0) (c := 1921) (m := 2) (fun d hd => ?_) (show [PyData.int i, PyData.int j].length ≤ 2 from Nat.le_refl 2)).mono (by decide) (by decide)⟩
  rcases List.mem_cons.mp hd with rfl | hd
  · exact sz_int hi
  · rcases List.mem_cons.mp hd with rfl | hd
    · exact sz_int hj
    · cases hd
def odd21 : List PyData := [PyData.none, PyData.int 0, PyData.str "", PyData.tuple [], PyData.tuple [.int 1], PyData.tuple [.int 1, .int 2, .int 3], PyData.list [.int 1, .int 2], PyData.tuple [.int 2, .int 2], PyData.tuple [.int 3, .int 2], PyData.dict [], PyData.tuple [.none, .int 1], PyData.tuple [.int 0, .none], PyData.tuple [.bool true, .int 2], PyData.tuple [.int 0, .bool true], PyData.tuple [.bool false, .int 5], PyData.tuple [.str "0", .int 1], PyData.tuple [.int 0, .str "1"], PyData.tuple [.list [.int 0], .int 1], PyData.tuple [.int 0, .tuple [.int 1]], PyData.tuple [.tuple [.int 0, .int 1]], PyData.bool true]
theorem odd21_ok : OddL odd21 := oddL_of (by decide +kernel)
section
variable {P : Program} {w : World} {K : PySem.W.Frag} {mg : Str → Option Value} {base : Heap}
def spNo (K : PySem.W.Frag) : Sp := fun vs H Q _ => ∃ (t g : Addr) (c : Nat) (us : List V) (L : List Iv), vs = [.ref t, .ref g] ∧ Tk H t c ∧ c ≤ 60000 ∧ t ≠ g ∧ H g = some (.lst us) ∧ Ivs H us L ∧ L.length ≤ 30 ∧ Fine L ∧
  ∀ r vs' ds c' H', Keep t H H' → Tk H' t c' → H' r = some (.lst vs') → H r = none → DqA H' vs' ds → (∀ d ∈ ds, Bad d) → ds.length ≤ 200 → Q (.ref r) H'
theorem ok_no (D : Ds K) (T : Tx K mg) : FnOk P w K mg base CX0 2 (d_law_no_intervals.adr K) D.fd__law_no_intervals ["tank", "good"] (spNo K) := by
  have G1 : FnOk P w K mg base CX0 1 _ _ _ spDip := ok_dip D T
  refine D.F__law_no_intervals.ok scNo (fun vs H Q E h => ?_) (fun cdv A outer s H vs Q E hr h => ?_)
  · obtain ⟨t, g, c, us, L, rfl, _⟩ := h
    rfl
  · obtain ⟨t, g, c, us, L, rfl, tk, hc, ntg, eg, iv, hL, fine, q⟩ := h
    have nd := scNo.nd
    refine ⟨_, PSs.nox (pss_cons (ps_asg (pe_tup (pa_cons (pe_call G1 hr (by rfl) T.g__law_dip D.F__law_dip.kp (b__law_dip D) .nil pass0 (pa_cons (pv 0) (pa_cons (pe_op op_add (pe_callB call_len_seq (by rfl) T.z_len PySem.boot_len (pa_cons (pv 1) pa_nil)) pe_int) pa_nil))) (pa_cons (pe_lst (pa_cons pe_non (pa_cons pe_int (pa_cons pe_str (pa_cons (pe_tup pa_nil) (pa_cons (pe_tup (pa_cons pe_int pa_nil)) (pa_cons (pe_tup (pa_cons pe_int (pa_cons pe_int (pa_cons pe_int pa_nil)))) (pa_cons (pe_lst (pa_cons pe_int (pa_cons pe_int pa_nil))) (pa_cons (pe_tup (pa_cons pe_int (pa_cons pe_int pa_nil))) (pa_cons (pe_tup (pa_cons pe_int (pa_cons pe_int pa_nil))) (pa_cons pe_dnewT pa_nil))))))))))) pa_nil))) (pg_tup (by rfl) (pgs_cons (pg_name (i := 2) nd rfl (.inr rfl)) (pgs_cons (pg_name (i := 3) nd rfl (.inl rfl)) pgs_nil))))
      (pss_cons (ps_set (i := 3) nd rfl (.inl rfl) (pe_op op_cat (pv 3) (pe_lst (pa_cons (pe_tup (pa_cons pe_non (pa_cons pe_int pa_nil))) (pa_cons (pe_tup (pa_cons pe_int (pa_cons pe_non pa_nil))) (pa_cons (pe_tup (pa_cons pe_bl (pa_cons pe_int pa_nil))) (pa_cons (pe_tup (pa_cons pe_int (pa_cons pe_bl pa_nil))) (pa_cons (pe_tup (pa_cons pe_bl (pa_cons pe_int pa_nil))) (pa_cons (pe_tup (pa_cons pe_str (pa_cons pe_int pa_nil))) (pa_cons (pe_tup (pa_cons pe_int (pa_cons pe_str pa_nil))) (pa_cons (pe_tup (pa_cons (pe_lst (pa_cons pe_int pa_nil)) (pa_cons pe_int pa_nil))) (pa_cons (pe_tup (pa_cons pe_int (pa_cons (pe_tup (pa_cons pe_int pa_nil)) pa_nil))) pa_nil))))))))))))
      (pss_cons (ps_set (i := 3) nd rfl (.inl rfl) (pe_op op_cat (pv 3) (pe_lst (pa_cons (pe_tup (pa_cons (pe_tup (pa_cons pe_int (pa_cons pe_int pa_nil))) pa_nil)) (pa_cons pe_bl pa_nil)))))
      (pss_cons (ps_set (i := 3) nd rfl (.inl rfl) (pe_op op_cat (pv 3) (pe_lst (pa_cons (pe_tup (pa_cons (pe_op op_pow pe_int pe_int) (pa_cons (pe_op op_pow pe_int pe_int) pa_nil))) (pa_cons (pe_tup (pa_cons pe_int (pa_cons (pe_op op_sub pe_int (pe_op op_pow pe_int pe_int)) pa_nil))) (pa_cons (pe_tup (pa_cons (pe_call G1 hr (by rfl) T.g__law_dip D.F__law_dip.kp (b__law_dip D) .nil pass0 (pa_cons (pv 0) (pa_cons pe_int pa_nil))) (pa_cons (pe_op op_sub (pe_un un_neg pe_int) (pe_call G1 hr (by rfl) T.g__law_dip D.F__law_dip.kp (b__law_dip D) .nil pass0 (pa_cons (pv 0) (pa_cons pe_int pa_nil)))) pa_nil))) pa_nil))))))
      (pss_cons (ps_setLc (i := 4) (own := [(("odd" : Str), 5)]) (g := gName 5) (tt := tYes) (te := (tOp rCat (tOp rCat (tSl (rSlL K) (tVar 1) tNoPart (tPart (tVar 2))) (tLst (tCons (tVar 5) tNil))) (tSl (rSlL K) (tSl (rSlL K) (tVar 1) (tPart (tVar 2)) tNoPart) tNoPart (tPart (tC (.int 399)))))) rfl nd rfl rfl (sw_true rfl rfl rfl rfl) (pi_list (pv 3)) (blkOk_by (own := [(("odd" : Str), 5)]) (N := NNo) (sc := defScope s_law_no_intervals) (by decide +kernel)) (fun _ _ _ _ _ => pg_name (i := 5) nd rfl (Or.inl rfl)) (fun _ _ _ _ _ => pts_nil) (fun _ _ _ _ _ => (pe_op op_cat (pe_op op_cat (pe_slice sl_list (pv 1) po_none (po_some (pv 2))) (pe_lst (pa_cons (pv 5) pa_nil))) (pe_slice sl_list (pe_slice sl_list (pv 1) (po_some (pv 2)) po_none) po_none (po_some pe_int)))))
      (pss_cons (ps_set (i := 4) nd rfl (.inl rfl) (pe_op op_cat (pv 4) (pe_lc (own := [(("odd" : Str), 5)]) (g := gName 5) (tt := tYes) (te := (tOp rCat (tOp rCat (tSl (rSlL K) (tVar 1) tNoPart (tPart (tVar 2))) (tLst (tCons (tVar 5) tNil))) (tSl (rSlL K) (tVar 1) (tPart (tOp (rI0 fun i j => .int (i + j)) (tVar 2) (tC (.int 1)))) tNoPart))) rfl nd (pi_list (pv 3)) (blkOk_by (own := [(("odd" : Str), 5)]) (N := NNo) (sc := defScope s_law_no_intervals) (by decide +kernel)) (fun _ _ _ _ _ => pg_name (i := 5) nd rfl (Or.inl rfl)) (fun _ _ _ _ _ => pts_nil) (fun _ _ _ _ _ => (pe_op op_cat (pe_op op_cat (pe_slice sl_list (pv 1) po_none (po_some (pv 2))) (pe_lst (pa_cons (pv 5) pa_nil))) (pe_slice sl_list (pv 1) (po_some (pe_op op_add (pv 2) pe_int)) po_none))))))
      (pss_one (ps_ret (pe_op op_cat (pv 4) (pe_lst (pa_cons pe_non (pa_cons pe_int (pa_cons pe_str (pa_cons (pe_tup pa_nil) (pa_cons pe_dnewT (pa_cons pe_bl (pa_cons (pe_callTy call_tuple_of (by rfl) T.z_tuple (by decide +kernel) (pa_cons (pv 1) pa_nil)) (pa_cons (pe_lst (pa_cons (pv 1) pa_nil)) (pa_cons (pe_tup (pa_cons (pe_tup (pa_cons pe_int (pa_cons pe_int pa_nil))) pa_nil)) (pa_cons pe_str (pa_cons (pe_tup (pa_cons pe_int (pa_cons pe_int pa_nil))) (pa_cons (pe_disp (pps_cons pe_int pe_int pps_nil) (by rfl) (by rfl) (fun z => by cases z) (by decide)) pa_nil)))))))))))))))))))))), ?_⟩
    have hlen : (us.length : Int) = (L.length : Int) := by rw [iv.len]
    refine ⟨_, rfl, _, rfl, g, _, rfl, .inl (lstL eg), _, _, rfl, rfl, t, _, c, rfl, tk, by omega, by omega, ?_, fun spot c1 H1 k1 t1 l1 u1 sp0 sp1 => ?_⟩
    · have : (400 : Int) ≤ 2 ^ 330 := by decide
      omega
    replace iv := iv.dip tk k1
    replace eg := k1 _ _ (Ne.symm ntg) eg
    refine ⟨(by show 0 ≤ sizeLine; decide), fun a1 ha1 => ?_⟩
    have sa1 := same_new (o := .tup []) ha1
    refine ⟨(by show 1 ≤ sizeLine; decide), fun a2 ha2 => ?_⟩
    have sa2 := same_new (o := .tup [.int 1]) ha2
    refine ⟨(by show 3 ≤ sizeLine; decide), fun a3 ha3 => ?_⟩
    have sa3 := same_new (o := .tup [.int 1, .int 2, .int 3]) ha3
    refine ⟨(by show 2 ≤ sizeLine; decide), fun a4 ha4 => ?_⟩
    have sa4 := same_new (o := .lst [.int 1, .int 2]) ha4
    refine ⟨(by show 2 ≤ sizeLine; decide), fun a5 ha5 => ?_⟩
    have sa5 := same_new (o := .tup [.int 2, .int 2]) ha5
    refine ⟨(by show 2 ≤ sizeLine; decide), fun a6 ha6 => ?_⟩
    have sa6 := same_new (o := .tup [.int 3, .int 2]) ha6
    refine fun a7 ha7 => ?_
    have sa7 := same_new (o := .dT []) ha7
    refine ⟨(by show 10 ≤ sizeLine; decide), fun a8 ha8 => ?_⟩
    have sa8 := same_new (o := .lst [V.non, V.int 0, V.str "", V.ref a1, V.ref a2, V.ref a3, V.ref a4, V.ref a5, V.ref a6, V.ref a7]) ha8
    have ta : Same H1 (upd (upd (upd (upd (upd (upd (upd (upd H1 a1 (.tup [])) a2 (.tup [.int 1])) a3 (.tup [.int 1, .int 2, .int 3])) a4 (.lst [.int 1, .int 2])) a5 (.tup [.int 2, .int 2])) a6 (.tup [.int 3, .int 2])) a7 (.dT [])) a8 (.lst [V.non, V.int 0, V.str "", V.ref a1, V.ref a2, V.ref a3, V.ref a4, V.ref a5, V.ref a6, V.ref a7])) := (sa1.trans (sa2.trans (sa3.trans (sa4.trans (sa5.trans (sa6.trans (sa7.trans (sa8))))))))
    have fa : DqA (upd (upd (upd (upd (upd (upd (upd (upd H1 a1 (.tup [])) a2 (.tup [.int 1])) a3 (.tup [.int 1, .int 2, .int 3])) a4 (.lst [.int 1, .int 2])) a5 (.tup [.int 2, .int 2])) a6 (.tup [.int 3, .int 2])) a7 (.dT [])) a8 (.lst [V.non, V.int 0, V.str "", V.ref a1, V.ref a2, V.ref a3, V.ref a4, V.ref a5, V.ref a6, V.ref a7])) [V.non, V.int 0, V.str "", V.ref a1, V.ref a2, V.ref a3, V.ref a4, V.ref a5, V.ref a6, V.ref a7] [PyData.none, PyData.int 0, PyData.str "", PyData.tuple [], PyData.tuple [.int 1], PyData.tuple [.int 1, .int 2, .int 3], PyData.list [.int 1, .int 2], PyData.tuple [.int 2, .int 2], PyData.tuple [.int 3, .int 2], PyData.dict []] := (.cons (.non) (.cons (.int _) (.cons (.str _) (.cons (.tup ((sa2.trans (sa3.trans (sa4.trans (sa5.trans (sa6.trans (sa7.trans (sa8))))))) _ _ upd_same) .nil) (.cons (.tup ((sa3.trans (sa4.trans (sa5.trans (sa6.trans (sa7.trans (sa8)))))) _ _ upd_same) (.cons (.int _) .nil)) (.cons (.tup ((sa4.trans (sa5.trans (sa6.trans (sa7.trans (sa8))))) _ _ upd_same) (.cons (.int _) (.cons (.int _) (.cons (.int _) .nil)))) (.cons (.lst ((sa5.trans (sa6.trans (sa7.trans (sa8)))) _ _ upd_same) (.cons (.int _) (.cons (.int _) .nil))) (.cons (.tup ((sa6.trans (sa7.trans (sa8))) _ _ upd_same) (.cons (.int _) (.cons (.int _) .nil))) (.cons (.tup ((sa7.trans (sa8)) _ _ upd_same) (.cons (.int _) (.cons (.int _) .nil))) (.cons (.d0 ((sa8) _ _ upd_same)) .nil))))))))))
    have ea : (upd (upd (upd (upd (upd (upd (upd (upd H1 a1 (.tup [])) a2 (.tup [.int 1])) a3 (.tup [.int 1, .int 2, .int 3])) a4 (.lst [.int 1, .int 2])) a5 (.tup [.int 2, .int 2])) a6 (.tup [.int 3, .int 2])) a7 (.dT [])) a8 (.lst [V.non, V.int 0, V.str "", V.ref a1, V.ref a2, V.ref a3, V.ref a4, V.ref a5, V.ref a6, V.ref a7])) a8 = some (.lst [V.non, V.int 0, V.str "", V.ref a1, V.ref a2, V.ref a3, V.ref a4, V.ref a5, V.ref a6, V.ref a7]) := upd_same
    generalize (upd (upd (upd (upd (upd (upd (upd (upd H1 a1 (.tup [])) a2 (.tup [.int 1])) a3 (.tup [.int 1, .int 2, .int 3])) a4 (.lst [.int 1, .int 2])) a5 (.tup [.int 2, .int 2])) a6 (.tup [.int 3, .int 2])) a7 (.dT [])) a8 (.lst [V.non, V.int 0, V.str "", V.ref a1, V.ref a2, V.ref a3, V.ref a4, V.ref a5, V.ref a6, V.ref a7])) = HA at ta fa ea ⊢
    clear sa8 ha8 sa7 ha7 sa6 ha6 sa5 ha5 sa4 ha4 sa3 ha3 sa2 ha2 sa1 ha1
    refine ⟨(by show 2 ≤ sizeLine; decide), fun pr hpr => ?_⟩
    have sp := same_new (o := .tup [.int spot, .ref a8]) hpr
    refine ⟨pr, _, rfl, tupT upd_same, rfl, _, _, rfl, _, _, rfl, rfl, ?_⟩
    have tp : Same H1 (upd HA pr (.tup [.int spot, .ref a8])) := ta.trans sp
    have fp := fa.same sp
    have ep := sp _ _ ea
    generalize upd HA pr (.tup [.int spot, .ref a8]) = HP at tp fp ep ⊢
    clear ta fa ea sp hpr
    refine ⟨_, rfl, (by show 2 ≤ sizeLine; decide), fun b1 hb1 => ?_⟩
    have sb1 := same_new (o := .tup [.non, .int 1]) hb1
    refine ⟨(by show 2 ≤ sizeLine; decide), fun b2 hb2 => ?_⟩
    have sb2 := same_new (o := .tup [.int 0, .non]) hb2
    refine ⟨(by show 2 ≤ sizeLine; decide), fun b3 hb3 => ?_⟩
    have sb3 := same_new (o := .tup [.bl true, .int 2]) hb3
    refine ⟨(by show 2 ≤ sizeLine; decide), fun b4 hb4 => ?_⟩
    have sb4 := same_new (o := .tup [.int 0, .bl true]) hb4
    refine ⟨(by show 2 ≤ sizeLine; decide), fun b5 hb5 => ?_⟩
    have sb5 := same_new (o := .tup [.bl false, .int 5]) hb5
    refine ⟨(by show 2 ≤ sizeLine; decide), fun b6 hb6 => ?_⟩
    have sb6 := same_new (o := .tup [.str "0", .int 1]) hb6
    refine ⟨(by show 2 ≤ sizeLine; decide), fun b7 hb7 => ?_⟩
    have sb7 := same_new (o := .tup [.int 0, .str "1"]) hb7
    refine ⟨(by show 1 ≤ sizeLine; decide), fun b8 hb8 => ?_⟩
    have sb8 := same_new (o := .lst [.int 0]) hb8
    refine ⟨(by show 2 ≤ sizeLine; decide), fun b9 hb9 => ?_⟩
    have sb9 := same_new (o := .tup [.ref b8, .int 1]) hb9
    refine ⟨(by show 1 ≤ sizeLine; decide), fun b10 hb10 => ?_⟩
    have sb10 := same_new (o := .tup [.int 1]) hb10
    refine ⟨(by show 2 ≤ sizeLine; decide), fun b11 hb11 => ?_⟩
    have sb11 := same_new (o := .tup [.int 0, .ref b10]) hb11
    refine ⟨(by show 9 ≤ sizeLine; decide), fun b12 hb12 => ?_⟩
    have sb12 := same_new (o := .lst [V.ref b1, V.ref b2, V.ref b3, V.ref b4, V.ref b5, V.ref b6, V.ref b7, V.ref b9, V.ref b11]) hb12
    have tb : Same HP (upd (upd (upd (upd (upd (upd (upd (upd (upd (upd (upd (upd HP b1 (.tup [.non, .int 1])) b2 (.tup [.int 0, .non])) b3 (.tup [.bl true, .int 2])) b4 (.tup [.int 0, .bl true])) b5 (.tup [.bl false, .int 5])) b6 (.tup [.str "0", .int 1])) b7 (.tup [.int 0, .str "1"])) b8 (.lst [.int 0])) b9 (.tup [.ref b8, .int 1])) b10 (.tup [.int 1])) b11 (.tup [.int 0, .ref b10])) b12 (.lst [V.ref b1, V.ref b2, V.ref b3, V.ref b4, V.ref b5, V.ref b6, V.ref b7, V.ref b9, V.ref b11])) := (sb1.trans (sb2.trans (sb3.trans (sb4.trans (sb5.trans (sb6.trans (sb7.trans (sb8.trans (sb9.trans (sb10.trans (sb11.trans (sb12))))))))))))
    have fb : DqA (upd (upd (upd (upd (upd (upd (upd (upd (upd (upd (upd (upd HP b1 (.tup [.non, .int 1])) b2 (.tup [.int 0, .non])) b3 (.tup [.bl true, .int 2])) b4 (.tup [.int 0, .bl true])) b5 (.tup [.bl false, .int 5])) b6 (.tup [.str "0", .int 1])) b7 (.tup [.int 0, .str "1"])) b8 (.lst [.int 0])) b9 (.tup [.ref b8, .int 1])) b10 (.tup [.int 1])) b11 (.tup [.int 0, .ref b10])) b12 (.lst [V.ref b1, V.ref b2, V.ref b3, V.ref b4, V.ref b5, V.ref b6, V.ref b7, V.ref b9, V.ref b11])) [V.ref b1, V.ref b2, V.ref b3, V.ref b4, V.ref b5, V.ref b6, V.ref b7, V.ref b9, V.ref b11] [PyData.tuple [.none, .int 1], PyData.tuple [.int 0, .none], PyData.tuple [.bool true, .int 2], PyData.tuple [.int 0, .bool true], PyData.tuple [.bool false, .int 5], PyData.tuple [.str "0", .int 1], PyData.tuple [.int 0, .str "1"], PyData.tuple [.list [.int 0], .int 1], PyData.tuple [.int 0, .tuple [.int 1]]] := (.cons (.tup ((sb2.trans (sb3.trans (sb4.trans (sb5.trans (sb6.trans (sb7.trans (sb8.trans (sb9.trans (sb10.trans (sb11.trans (sb12))))))))))) _ _ upd_same) (.cons (.non) (.cons (.int _) .nil))) (.cons (.tup ((sb3.trans (sb4.trans (sb5.trans (sb6.trans (sb7.trans (sb8.trans (sb9.trans (sb10.trans (sb11.trans (sb12)))))))))) _ _ upd_same) (.cons (.int _) (.cons (.non) .nil))) (.cons (.tup ((sb4.trans (sb5.trans (sb6.trans (sb7.trans (sb8.trans (sb9.trans (sb10.trans (sb11.trans (sb12))))))))) _ _ upd_same) (.cons (.bl _) (.cons (.int _) .nil))) (.cons (.tup ((sb5.trans (sb6.trans (sb7.trans (sb8.trans (sb9.trans (sb10.trans (sb11.trans (sb12)))))))) _ _ upd_same) (.cons (.int _) (.cons (.bl _) .nil))) (.cons (.tup ((sb6.trans (sb7.trans (sb8.trans (sb9.trans (sb10.trans (sb11.trans (sb12))))))) _ _ upd_same) (.cons (.bl _) (.cons (.int _) .nil))) (.cons (.tup ((sb7.trans (sb8.trans (sb9.trans (sb10.trans (sb11.trans (sb12)))))) _ _ upd_same) (.cons (.str _) (.cons (.int _) .nil))) (.cons (.tup ((sb8.trans (sb9.trans (sb10.trans (sb11.trans (sb12))))) _ _ upd_same) (.cons (.int _) (.cons (.str _) .nil))) (.cons (.tup ((sb10.trans (sb11.trans (sb12))) _ _ upd_same) (.cons (.lst ((sb9.trans (sb10.trans (sb11.trans (sb12)))) _ _ upd_same) (.cons (.int _) .nil)) (.cons (.int _) .nil))) (.cons (.tup ((sb12) _ _ upd_same) (.cons (.int _) (.cons (.tup ((sb11.trans (sb12)) _ _ upd_same) (.cons (.int _) .nil)) .nil))) .nil)))))))))
    have eb : (upd (upd (upd (upd (upd (upd (upd (upd (upd (upd (upd (upd HP b1 (.tup [.non, .int 1])) b2 (.tup [.int 0, .non])) b3 (.tup [.bl true, .int 2])) b4 (.tup [.int 0, .bl true])) b5 (.tup [.bl false, .int 5])) b6 (.tup [.str "0", .int 1])) b7 (.tup [.int 0, .str "1"])) b8 (.lst [.int 0])) b9 (.tup [.ref b8, .int 1])) b10 (.tup [.int 1])) b11 (.tup [.int 0, .ref b10])) b12 (.lst [V.ref b1, V.ref b2, V.ref b3, V.ref b4, V.ref b5, V.ref b6, V.ref b7, V.ref b9, V.ref b11])) b12 = some (.lst [V.ref b1, V.ref b2, V.ref b3, V.ref b4, V.ref b5, V.ref b6, V.ref b7, V.ref b9, V.ref b11]) := upd_same
    generalize (upd (upd (upd (upd (upd (upd (upd (upd (upd (upd (upd (upd HP b1 (.tup [.non, .int 1])) b2 (.tup [.int 0, .non])) b3 (.tup [.bl true, .int 2])) b4 (.tup [.int 0, .bl true])) b5 (.tup [.bl false, .int 5])) b6 (.tup [.str "0", .int 1])) b7 (.tup [.int 0, .str "1"])) b8 (.lst [.int 0])) b9 (.tup [.ref b8, .int 1])) b10 (.tup [.int 1])) b11 (.tup [.int 0, .ref b10])) b12 (.lst [V.ref b1, V.ref b2, V.ref b3, V.ref b4, V.ref b5, V.ref b6, V.ref b7, V.ref b9, V.ref b11])) = HB at tb fb eb ⊢
    clear sb12 hb12 sb11 hb11 sb10 hb10 sb9 hb9 sb8 hb8 sb7 hb7 sb6 hb6 sb5 hb5 sb4 hb4 sb3 hb3 sb2 hb2 sb1 hb1
    refine ⟨a8, b12, _, _, rfl, rfl, tb _ _ ep, eb, (by show 19 ≤ sizeLine; decide), fun q1 hq1 => ?_⟩
    have sq := same_new (o := .lst ([V.non, V.int 0, V.str "", V.ref a1, V.ref a2, V.ref a3, V.ref a4, V.ref a5, V.ref a6, V.ref a7] ++ [V.ref b1, V.ref b2, V.ref b3, V.ref b4, V.ref b5, V.ref b6, V.ref b7, V.ref b9, V.ref b11])) hq1
    have tc0 : Same H1 (upd HB q1 (.lst ([V.non, V.int 0, V.str "", V.ref a1, V.ref a2, V.ref a3, V.ref a4, V.ref a5, V.ref a6, V.ref a7] ++ [V.ref b1, V.ref b2, V.ref b3, V.ref b4, V.ref b5, V.ref b6, V.ref b7, V.ref b9, V.ref b11]))) := tp.trans (tb.trans sq)
    have fc0 := ((fp.same tb).app fb).same sq
    have ec0 : upd HB q1 (.lst ([V.non, V.int 0, V.str "", V.ref a1, V.ref a2, V.ref a3, V.ref a4, V.ref a5, V.ref a6, V.ref a7] ++ [V.ref b1, V.ref b2, V.ref b3, V.ref b4, V.ref b5, V.ref b6, V.ref b7, V.ref b9, V.ref b11])) q1 = some (.lst ([V.non, V.int 0, V.str "", V.ref a1, V.ref a2, V.ref a3, V.ref a4, V.ref a5, V.ref a6, V.ref a7] ++ [V.ref b1, V.ref b2, V.ref b3, V.ref b4, V.ref b5, V.ref b6, V.ref b7, V.ref b9, V.ref b11])) := upd_same
    generalize upd HB q1 (.lst ([V.non, V.int 0, V.str "", V.ref a1, V.ref a2, V.ref a3, V.ref a4, V.ref a5, V.ref a6, V.ref a7] ++ [V.ref b1, V.ref b2, V.ref b3, V.ref b4, V.ref b5, V.ref b6, V.ref b7, V.ref b9, V.ref b11])) = HC at tc0 fc0 ec0 ⊢
    clear tb fb eb tp fp ep sq hq1
    refine ⟨_, rfl, (by show 2 ≤ sizeLine; decide), fun y1 hy1 => ?_⟩
    have sy1 := same_new (o := .tup [.int 0, .int 1]) hy1
    refine ⟨(by show 1 ≤ sizeLine; decide), fun y2 hy2 => ?_⟩
    have sy2 := same_new (o := .tup [.ref y1]) hy2
    refine ⟨(by show 2 ≤ sizeLine; decide), fun y3 hy3 => ?_⟩
    have sy3 := same_new (o := .lst [V.ref y2, V.bl true]) hy3
    have ty : Same HC (upd (upd (upd HC y1 (.tup [.int 0, .int 1])) y2 (.tup [.ref y1])) y3 (.lst [V.ref y2, V.bl true])) := (sy1.trans (sy2.trans (sy3)))
    have fy : DqA (upd (upd (upd HC y1 (.tup [.int 0, .int 1])) y2 (.tup [.ref y1])) y3 (.lst [V.ref y2, V.bl true])) [V.ref y2, V.bl true] [PyData.tuple [.tuple [.int 0, .int 1]], PyData.bool true] := (.cons (.tup ((sy3) _ _ upd_same) (.cons (.tup ((sy2.trans (sy3)) _ _ upd_same) (.cons (.int _) (.cons (.int _) .nil))) .nil)) (.cons (.bl _) .nil))
    have ey : (upd (upd (upd HC y1 (.tup [.int 0, .int 1])) y2 (.tup [.ref y1])) y3 (.lst [V.ref y2, V.bl true])) y3 = some (.lst [V.ref y2, V.bl true]) := upd_same
    generalize (upd (upd (upd HC y1 (.tup [.int 0, .int 1])) y2 (.tup [.ref y1])) y3 (.lst [V.ref y2, V.bl true])) = HD at ty fy ey ⊢
    clear sy3 hy3 sy2 hy2 sy1 hy1
    refine ⟨q1, y3, _, _, rfl, rfl, ty _ _ ec0, ey, (by show 21 ≤ sizeLine; decide), fun q2 hq2 => ?_⟩
    have sq := same_new (o := .lst (([V.non, V.int 0, V.str "", V.ref a1, V.ref a2, V.ref a3, V.ref a4, V.ref a5, V.ref a6, V.ref a7] ++ [V.ref b1, V.ref b2, V.ref b3, V.ref b4, V.ref b5, V.ref b6, V.ref b7, V.ref b9, V.ref b11]) ++ [V.ref y2, V.bl true])) hq2
    have td0 : Same H1 (upd HD q2 (.lst (([V.non, V.int 0, V.str "", V.ref a1, V.ref a2, V.ref a3, V.ref a4, V.ref a5, V.ref a6, V.ref a7] ++ [V.ref b1, V.ref b2, V.ref b3, V.ref b4, V.ref b5, V.ref b6, V.ref b7, V.ref b9, V.ref b11]) ++ [V.ref y2, V.bl true]))) := tc0.trans (ty.trans sq)
    have fd0 := ((fc0.same ty).app fy).same sq
    have ed0 : upd HD q2 (.lst (([V.non, V.int 0, V.str "", V.ref a1, V.ref a2, V.ref a3, V.ref a4, V.ref a5, V.ref a6, V.ref a7] ++ [V.ref b1, V.ref b2, V.ref b3, V.ref b4, V.ref b5, V.ref b6, V.ref b7, V.ref b9, V.ref b11]) ++ [V.ref y2, V.bl true])) q2 = some (.lst (([V.non, V.int 0, V.str "", V.ref a1, V.ref a2, V.ref a3, V.ref a4, V.ref a5, V.ref a6, V.ref a7] ++ [V.ref b1, V.ref b2, V.ref b3, V.ref b4, V.ref b5, V.ref b6, V.ref b7, V.ref b9, V.ref b11]) ++ [V.ref y2, V.bl true])) := upd_same
    have ntq2 : t ≠ q2 := tkne (t1.same (tc0.trans ty)) hq2
    generalize upd HD q2 (.lst (([V.non, V.int 0, V.str "", V.ref a1, V.ref a2, V.ref a3, V.ref a4, V.ref a5, V.ref a6, V.ref a7] ++ [V.ref b1, V.ref b2, V.ref b3, V.ref b4, V.ref b5, V.ref b6, V.ref b7, V.ref b9, V.ref b11]) ++ [V.ref y2, V.bl true])) = HF at td0 fd0 ed0 ⊢
    have lv : (([V.non, V.int 0, V.str "", V.ref a1, V.ref a2, V.ref a3, V.ref a4, V.ref a5, V.ref a6, V.ref a7] ++ [V.ref b1, V.ref b2, V.ref b3, V.ref b4, V.ref b5, V.ref b6, V.ref b7, V.ref b9, V.ref b11]) ++ [V.ref y2, V.bl true]).length = 21 := rfl
    generalize (([V.non, V.int 0, V.str "", V.ref a1, V.ref a2, V.ref a3, V.ref a4, V.ref a5, V.ref a6, V.ref a7] ++ [V.ref b1, V.ref b2, V.ref b3, V.ref b4, V.ref b5, V.ref b6, V.ref b7, V.ref b9, V.ref b11]) ++ [V.ref y2, V.bl true]) = v21 at fd0 ed0 lv ⊢
    have fd1 : DqA HF v21 odd21 := fd0
    clear ty fy ey tc0 fc0 ec0 sq hq2 fd0
    -- the fourth display
    refine ⟨_, rfl, _, _, rfl, rfl, pw_ok (by decide) (by decide), _, _, rfl, rfl, pw_ok (by decide) (by decide), (by show 2 ≤ sizeLine; decide), fun x1 hx1 => ?_⟩
    have sx1 := same_new (o := .tup [.int (10 ^ (60 : Int).toNat), .int (10 ^ (60 : Int).toNat)]) hx1
    refine ⟨_, _, rfl, rfl, pw_ok (by decide) (by decide), _, _, rfl, rfl, (by show 2 ≤ sizeLine; decide), fun x2 hx2 => ?_⟩
    have sx2 := same_new (o := .tup [.int 0, .int (0 - 10 ^ (60 : Int).toNat)]) hx2
    obtain ⟨HG, eHG⟩ : ∃ X, X = upd (upd HF x1 (.tup [.int (10 ^ (60 : Int).toNat), .int (10 ^ (60 : Int).toNat)])) x2 (.tup [.int 0, .int (0 - 10 ^ (60 : Int).toNat)]) := ⟨_, rfl⟩
    have tg : Same HF HG := by rw [eHG]; exact sx1.trans sx2
    have g1 : HG x1 = some (.tup [.int (10 ^ (60 : Int).toNat), .int (10 ^ (60 : Int).toNat)]) := by rw [eHG]; exact sx2 _ _ upd_same
    have g2 : HG x2 = some (.tup [.int 0, .int (0 - 10 ^ (60 : Int).toNat)]) := by rw [eHG]; exact upd_same
    rw [← eHG]
    clear sx1 sx2 hx1 hx2 eHG
    have tkG := (t1.same td0).same tg
    refine ⟨_, rfl, t, 99, c1, rfl, tkG, by omega, by decide, by decide, fun d1 c2 H2 k2 t2 l2 u2 m1 m2 => ?_⟩
    refine ⟨_, rfl, _, rfl, t, 99, c2, rfl, t2, by omega, by decide, by decide, fun d2 c3 H3 k3 t3 l3 u3 n1 n2 => ?_⟩
    have kk := k2.trans k3
    have nx : ∀ {x : Addr} {ys : List V}, HG x = some (.tup ys) → x ≠ t := fun h z => by
      obtain ⟨_, _, e, _⟩ := tkG
      rw [z, e] at h
      cases h
    have fO : DqA H3 v21 odd21 := by
      obtain ⟨_, _, e, _⟩ := id tkG
      exact (fd1.same tg).keep e kk (by decide +kernel)
    have eO := kk _ _ (Ne.symm ntq2) (tg _ _ ed0)
    have eg3 := kk _ _ (Ne.symm ntg) (tg _ _ (td0 _ _ eg))
    have iv3 := ((iv.same td0).same tg).dip tkG kk
    have h1 := kk _ _ (nx g1) g1
    have h2 := kk _ _ (nx g2) g2
    have kH : Keep t H H3 := k1.trans ((Same.keep (td0.trans tg)).trans kk)
    clear fd1 ed0 g1 g2 eg iv kk
    refine ⟨_, _, rfl, rfl, (by show 2 ≤ sizeLine; decide), fun x3 hx3 => ?_⟩
    have s3 := same_new (o := .tup [.int d1, .int (-1 - d2)]) hx3
    refine ⟨(by show 3 ≤ sizeLine; decide), fun x4 hx4 => ?_⟩
    have s4 := same_new (o := .lst [.ref x1, .ref x2, .ref x3]) hx4
    have s34 := s3.trans s4
    refine ⟨q2, x4, _, _, rfl, rfl, s34 _ _ eO, upd_same, (by rw [lv]; show 24 ≤ sizeLine; decide), fun o ho => ?_⟩
    have s5 := same_new (o := .lst (v21 ++ [.ref x1, .ref x2, .ref x3])) ho
    have s35 := s34.trans s5
    have p60 : (10 : Int) ^ ((60 : Int).toNat) = 1000000000000000000000000000000000000000000000000000000000000 := by decide
    have f4 : DqA (upd (upd (upd H3 x3 (.tup [.int d1, .int (-1 - d2)])) x4 (.lst [.ref x1, .ref x2, .ref x3])) o (.lst (v21 ++ [.ref x1, .ref x2, .ref x3]))) (v21 ++ [.ref x1, .ref x2, .ref x3]) (odd21 ++ [.tuple [.int (10 ^ (60 : Int).toNat), .int (10 ^ (60 : Int).toNat)], .tuple [.int 0, .int (0 - 10 ^ (60 : Int).toNat)], .tuple [.int d1, .int (-1 - d2)]]) :=
      (fO.same s35).app (.cons (.tup (s35 _ _ h1) (.cons (.int _) (.cons (.int _) .nil))) (.cons (.tup (s35 _ _ h2) (.cons (.int _) (.cons (.int _) .nil))) (.cons (.tup ((s4.trans s5) _ _ upd_same) (.cons (.int _) (.cons (.int _) .nil))) .nil)))
    have oL : OddL (odd21 ++ [.tuple [.int (10 ^ (60 : Int).toNat), .int (10 ^ (60 : Int).toNat)], .tuple [.int 0, .int (0 - 10 ^ (60 : Int).toNat)], .tuple [.int d1, .int (-1 - d2)]]) := odd21_ok.app fun d hd => by
      have b60 : (1000000000000000000000000000000000000000000000000000000000000 : Nat) < 2 ^ 600 := by decide
      have b99 : (200 : Nat) < 2 ^ 600 := by decide
      rcases List.mem_cons.mp hd with rfl | hd
      · exact pair_odd (by omega) (by rw [p60]; omega) (by rw [p60]; omega)
      · rcases List.mem_cons.mp hd with rfl | hd
        · exact pair_odd (by rw [p60]; omega) (by decide) (by rw [p60]; omega)
        · rcases List.mem_cons.mp hd with rfl | hd
          · exact pair_odd (by omega) (by omega) (by omega)
          · cases hd
    have lO : (v21 ++ [V.ref x1, .ref x2, .ref x3]).length = 24 := by rw [List.length_append, lv]; rfl
    generalize hO : (odd21 ++ [PyData.tuple [.int (10 ^ (60 : Int).toNat), .int (10 ^ (60 : Int).toNat)], .tuple [.int 0, .int (0 - 10 ^ (60 : Int).toNat)], .tuple [.int d1, .int (-1 - d2)]]) = os at f4 oL
    have eo : (upd (upd (upd H3 x3 (.tup [.int d1, .int (-1 - d2)])) x4 (.lst [.ref x1, .ref x2, .ref x3])) o (.lst (v21 ++ [.ref x1, .ref x2, .ref x3]))) o = some (.lst (v21 ++ [.ref x1, .ref x2, .ref x3])) := upd_same
    have eg4 := s35 _ _ eg3
    have gq := (dq_ivs iv3).same s35
    have t4 := t3.same s35
    have k4 := kH.trans (Same.keep s35)
    generalize (upd (upd (upd H3 x3 (.tup [.int d1, .int (-1 - d2)])) x4 (.lst [.ref x1, .ref x2, .ref x3])) o (.lst (v21 ++ [.ref x1, .ref x2, .ref x3]))) = H4 at f4 eo eg4 gq t4 k4 ⊢
    generalize (v21 ++ [V.ref x1, .ref x2, .ref x3]) = vo at f4 eo lO ⊢
    clear s3 s4 s34 s5 s35 hO hx3 hx4 ho fO eO eg3 h1 h2
    have ul : us.length ≤ 30 := by omega
    have gl : (L.map ivD).length ≤ 30 := by rw [List.length_map]; exact hL
    have gz : ∀ e ∈ L.map ivD, Sz 4 4000 e := fun e he => by
      obtain ⟨p, hp, rfl⟩ := List.mem_map.mp he
      exact sz_iv (fine.2 p hp).2.1 (fine.2 p hp).2.2
    have ol : os.length = 24 := by rw [← f4.len, lO]
    generalize L.map ivD = gs at gl gz gq
    clear iv3 fine hL hlen p60 nx
    have sz30 : ∀ n : Nat, n ≤ 100 → n ≤ sizeLine := fun n h => Nat.le_trans h (by decide)
    have nne : ∀ {Hx : Hp} {D' p : Addr} {u : HO}, Hx D' = some u → Hx p = none → p ≠ D' := fun a b z => by
      rw [z, a] at b
      cases b
    refine ⟨_, rfl, o, rfl, ⟨_, lstL eo⟩, fun D1 hD1 => ?_⟩
    refine lc_list (K := K) (a := o) (xs := vo) (fun i H' => ∃ ps : List (Addr × List V), ps.length = i ∧ Rows H4 D1 ps H') ⟨[], rfl, rows_nil hD1⟩ (fun i H' _ hp => by obtain ⟨ps, _, h⟩ := hp; exact lstL (h.1 _ _ eo)) (fun i x H' hx hp => ?_) fun H' hp => ?_
    · obtain ⟨ps, lps, R⟩ := hp
      obtain ⟨dx, hdx, qx⟩ := DqA.get f4 hx
      have ox := oL dx (List.mem_of_getElem? hdx)
      have hi : i < vo.length := (List.getElem?_eq_some_iff.mp hx).1
      have eg' := R.1 _ _ eg4
      have eD := R.2.1
      refine ⟨rfl, _, rfl, _, rfl, spot, rfl, g, us, rfl, lstL eg', fun p1 h1 => ?_⟩
      have z1 := same_new (o := .lst (cutV us none (some spot))) h1
      refine ⟨_, rfl, (by show 1 ≤ sizeLine; decide), fun p2 h2 => ?_⟩
      have z2 := same_new (o := .lst [x]) h2
      have c1l : (cutV us none (some spot)).length ≤ 30 := Nat.le_trans (cutV_length _ _ _) ul
      refine ⟨p1, p2, _, _, rfl, rfl, z2 _ _ upd_same, upd_same, (sz30 _ (by simp only [List.length_cons, List.length_nil]; omega)), fun p3 h3 => ?_⟩
      have z3 := same_new (o := .lst (cutV us none (some spot) ++ [x])) h3
      have z13 := z1.trans (z2.trans z3)
      refine ⟨_, rfl, _, rfl, spot, rfl, g, us, rfl, lstL (z13 _ _ eg'), fun p4 h4 => ?_⟩
      have z4 := same_new (o := .lst (cutV us (some spot) none)) h4
      refine ⟨399, rfl, p4, _, rfl, lstL upd_same, fun p5 h5 => ?_⟩
      have z5 := same_new (o := .lst (cutV (cutV us (some spot) none) none (some 399))) h5
      have z45 := z4.trans z5
      have c2l : (cutV (cutV us (some spot) none) none (some 399)).length ≤ 30 := Nat.le_trans (cutV_length _ _ _) (Nat.le_trans (cutV_length _ _ _) ul)
      obtain ⟨es1, k1', m1', l1'⟩ := gq.cut none (some spot)
      obtain ⟨es2, k2', m2', l2'⟩ := gq.cut (some spot) none
      obtain ⟨es3, k3', m3', l3'⟩ := k2'.cut none (some 399)
      have bl := badL_of ox.1 ox.2 (fun e he => gz e (m1' e he)) (fun e he => gz e (m2' e (m3' e he))) (show es1.length ≤ 40 by omega) (show es3.length ≤ 40 by omega)
      refine ⟨p3, p5, _, _, rfl, rfl, z45 _ _ upd_same, upd_same, (sz30 _ (by rw [List.length_append]; simp only [List.length_cons, List.length_nil]; omega)), fun p6 h6 => ?_⟩
      have z6 := same_new (o := .lst ((cutV us none (some spot) ++ [x]) ++ cutV (cutV us (some spot) none) none (some 399))) h6
      have zall := z13.trans (z45.trans z6)
      obtain ⟨e1, R'⟩ := rows_snoc hD1 R zall (nne ((z13.trans z45) _ _ eD) h6) upd_same ((k1'.app (.cons qx .nil)).app k3') bl
      refine ⟨_, e1, ?_, ps ++ [(p6, _)], ?_, R'⟩
      · rw [List.length_map, lps]
        exact Nat.lt_of_lt_of_le (show i < 100 by omega) (by decide)
      · rw [List.length_append, lps]
        rfl
    obtain ⟨ps, lps, R⟩ := hp
    have s5 := R.1
    have eD1 := R.2.1
    obtain ⟨fs, q5, b5, l5⟩ := rows_end R
    have eo5 := s5 _ _ eo
    have eg5 := s5 _ _ eg4
    have gq5 := gq.same s5
    have f5 := f4.same s5
    have t5 := t4.same s5
    have k5 := k4.trans (Same.keep s5)
    generalize H' = H5 at *
    clear R s5
    refine ⟨_, rfl, _, rfl, o, rfl, ⟨_, lstL eo5⟩, fun D2 hD2 => ?_⟩
    refine lc_list (K := K) (a := o) (xs := vo) (fun i H' => ∃ ps : List (Addr × List V), ps.length = i ∧ Rows H5 D2 ps H') ⟨[], rfl, rows_nil hD2⟩ (fun i H' _ hp => by obtain ⟨ps, _, h⟩ := hp; exact lstL (h.1 _ _ eo5)) (fun i x H' hx hp => ?_) fun H' hp => ?_
    · obtain ⟨ps, lps, R⟩ := hp
      obtain ⟨dx, hdx, qx⟩ := DqA.get f5 hx
      have ox := oL dx (List.mem_of_getElem? hdx)
      have hi : i < vo.length := (List.getElem?_eq_some_iff.mp hx).1
      have eg' := R.1 _ _ eg5
      have eD := R.2.1
      refine ⟨rfl, _, rfl, _, rfl, spot, rfl, g, us, rfl, lstL eg', fun p1 h1 => ?_⟩
      have z1 := same_new (o := .lst (cutV us none (some spot))) h1
      refine ⟨_, rfl, (by show 1 ≤ sizeLine; decide), fun p2 h2 => ?_⟩
      have z2 := same_new (o := .lst [x]) h2
      have c1l : (cutV us none (some spot)).length ≤ 30 := Nat.le_trans (cutV_length _ _ _) ul
      refine ⟨p1, p2, _, _, rfl, rfl, z2 _ _ upd_same, upd_same, (sz30 _ (by simp only [List.length_cons, List.length_nil]; omega)), fun p3 h3 => ?_⟩
      have z3 := same_new (o := .lst (cutV us none (some spot) ++ [x])) h3
      have z13 := z1.trans (z2.trans z3)
      refine ⟨_, rfl, _, rfl, _, _, rfl, rfl, (spot + 1), rfl, g, us, rfl, lstL (z13 _ _ eg'), fun p5 h5 => ?_⟩
      have z45 := same_new (o := .lst (cutV us (some (spot + 1)) none)) h5
      have c2l : (cutV us (some (spot + 1)) none).length ≤ 30 := Nat.le_trans (cutV_length _ _ _) ul
      obtain ⟨es1, k1', m1', l1'⟩ := gq5.cut none (some spot)
      obtain ⟨es3, k3', m3', l3'⟩ := gq5.cut (some (spot + 1)) none
      have bl := badL_of ox.1 ox.2 (fun e he => gz e (m1' e he)) (fun e he => gz e (m3' e he)) (show es1.length ≤ 40 by omega) (show es3.length ≤ 40 by omega)
      refine ⟨p3, p5, _, _, rfl, rfl, z45 _ _ upd_same, upd_same, (sz30 _ (by rw [List.length_append]; simp only [List.length_cons, List.length_nil]; omega)), fun p6 h6 => ?_⟩
      have z6 := same_new (o := .lst ((cutV us none (some spot) ++ [x]) ++ cutV us (some (spot + 1)) none)) h6
      have zall := z13.trans (z45.trans z6)
      obtain ⟨e1, R'⟩ := rows_snoc hD2 R zall (nne ((z13.trans z45) _ _ eD) h6) upd_same ((k1'.app (.cons qx .nil)).app k3') bl
      refine ⟨_, e1, ?_, ps ++ [(p6, _)], ?_, R'⟩
      · rw [List.length_map, lps]
        exact Nat.lt_of_lt_of_le (show i < 100 by omega) (by decide)
      · rw [List.length_append, lps]
        rfl
    obtain ⟨ps2, lps2, R⟩ := hp
    have s6 := R.1
    have eD2 := R.2.1
    obtain ⟨fs2, q6, b6, l6⟩ := rows_end R
    refine ⟨D1, D2, _, _, rfl, rfl, s6 _ _ eD1, eD2, (sz30 _ (by rw [List.length_map, List.length_map, lps, lps2]; omega)), fun pc hpc => ?_⟩
    have s7 := same_new (o := .lst ((ps.map fun q => V.ref q.1) ++ (ps2.map fun q => V.ref q.1))) hpc
    have s67 := s6.trans s7
    have fY := ((q5.same s6).app q6).same s7
    have eg := s67 _ _ eg5
    have gq := gq5.same s67
    have tY := t5.same s67
    have kY := k5.trans (Same.keep s67)
    have eY : upd H' pc (.lst ((ps.map fun q => V.ref q.1) ++ (ps2.map fun q => V.ref q.1))) pc = some (.lst ((ps.map fun q => V.ref q.1) ++ (ps2.map fun q => V.ref q.1))) := upd_same
    generalize upd H' pc (.lst ((ps.map fun q => V.ref q.1) ++ (ps2.map fun q => V.ref q.1))) = HY at fY eg gq tY kY eY ⊢
    have lY : ((ps.map fun q => V.ref q.1) ++ (ps2.map fun q => V.ref q.1)).length = 48 := by rw [List.length_append, List.length_map, List.length_map, lps, lps2, lO]
    generalize ((ps.map fun q => V.ref q.1) ++ (ps2.map fun q => V.ref q.1)) = vY at fY eY lY ⊢
    clear s7 s67 hpc
    refine ⟨_, rfl, (by show 0 ≤ sizeLine; decide), fun z1 hz1 => ?_⟩
    have sz1 := same_new (o := .tup []) hz1
    refine fun z2 hz2 => ?_
    have sz2 := same_new (o := .dT []) hz2
    refine ⟨_, rfl, g, us, rfl, .inl ⟨lstL ((sz1.trans (sz2)) _ _ eg), fun z3 hz3 => ?_⟩⟩
    have sz3 := same_new (o := .tup us) hz3
    refine ⟨_, rfl, (by show 1 ≤ sizeLine; decide), fun z4 hz4 => ?_⟩
    have sz4 := same_new (o := .lst [.ref g]) hz4
    refine ⟨(by show 2 ≤ sizeLine; decide), fun z5 hz5 => ?_⟩
    have sz5 := same_new (o := .tup [.int 0, .int 1]) hz5
    refine ⟨(by show 1 ≤ sizeLine; decide), fun z6 hz6 => ?_⟩
    have sz6 := same_new (o := .tup [.ref z5]) hz6
    refine ⟨(by show 2 ≤ sizeLine; decide), fun z7 hz7 => ?_⟩
    have sz7 := same_new (o := .tup [.int 0, .int 1]) hz7
    refine fun z8 hz8 => ⟨upd_same, [(.inl 0, .int 1)], rfl, (by decide), ?_⟩
    rw [show mergeK [] [((.inl 0 : L2.Key), V.int 1)] = [(.inl 0, .int 1)] from rfl, upd_twice]
    have sz8 := same_new (o := .dK [(.inl 0, .int 1)]) hz8
    refine ⟨(by show 12 ≤ sizeLine; decide), fun z9 hz9 => ?_⟩
    have sz9 := same_new (o := .lst [V.non, V.int 0, V.str "", V.ref z1, V.ref z2, V.bl true, V.ref z3, V.ref z4, V.ref z6, V.str "01", V.ref z7, V.ref z8]) hz9
    have tz : Same HY (upd (upd (upd (upd (upd (upd (upd (upd (upd HY z1 (.tup [])) z2 (.dT [])) z3 (.tup us)) z4 (.lst [.ref g])) z5 (.tup [.int 0, .int 1])) z6 (.tup [.ref z5])) z7 (.tup [.int 0, .int 1])) z8 (.dK [(.inl 0, .int 1)])) z9 (.lst [V.non, V.int 0, V.str "", V.ref z1, V.ref z2, V.bl true, V.ref z3, V.ref z4, V.ref z6, V.str "01", V.ref z7, V.ref z8])) := (sz1.trans (sz2.trans (sz3.trans (sz4.trans (sz5.trans (sz6.trans (sz7.trans (sz8.trans (sz9)))))))))
    have fz : DqA (upd (upd (upd (upd (upd (upd (upd (upd (upd HY z1 (.tup [])) z2 (.dT [])) z3 (.tup us)) z4 (.lst [.ref g])) z5 (.tup [.int 0, .int 1])) z6 (.tup [.ref z5])) z7 (.tup [.int 0, .int 1])) z8 (.dK [(.inl 0, .int 1)])) z9 (.lst [V.non, V.int 0, V.str "", V.ref z1, V.ref z2, V.bl true, V.ref z3, V.ref z4, V.ref z6, V.str "01", V.ref z7, V.ref z8])) [V.non, V.int 0, V.str "", V.ref z1, V.ref z2, V.bl true, V.ref z3, V.ref z4, V.ref z6, V.str "01", V.ref z7, V.ref z8] [PyData.none, PyData.int 0, PyData.str "", PyData.tuple [], PyData.dict [], PyData.bool true, PyData.tuple gs, PyData.list [.list gs], PyData.tuple [.tuple [.int 0, .int 1]], PyData.str "01", PyData.tuple [.int 0, .int 1], PyData.dict [(.int 0, .int 1)]] := (.cons (.non) (.cons (.int _) (.cons (.str _) (.cons (.tup ((sz2.trans (sz3.trans (sz4.trans (sz5.trans (sz6.trans (sz7.trans (sz8.trans (sz9)))))))) _ _ upd_same) .nil) (.cons (.d0 ((sz3.trans (sz4.trans (sz5.trans (sz6.trans (sz7.trans (sz8.trans (sz9))))))) _ _ upd_same)) (.cons (.bl _) (.cons (.tup ((sz4.trans (sz5.trans (sz6.trans (sz7.trans (sz8.trans (sz9)))))) _ _ upd_same) (gq.same (sz1.trans (sz2.trans (sz3.trans (sz4.trans (sz5.trans (sz6.trans (sz7.trans (sz8.trans (sz9))))))))))) (.cons (.lst ((sz5.trans (sz6.trans (sz7.trans (sz8.trans (sz9))))) _ _ upd_same) (.cons (.lst ((sz1.trans (sz2.trans (sz3.trans (sz4.trans (sz5.trans (sz6.trans (sz7.trans (sz8.trans (sz9))))))))) _ _ eg) (gq.same (sz1.trans (sz2.trans (sz3.trans (sz4.trans (sz5.trans (sz6.trans (sz7.trans (sz8.trans (sz9))))))))))) .nil)) (.cons (.tup ((sz7.trans (sz8.trans (sz9))) _ _ upd_same) (.cons (.tup ((sz6.trans (sz7.trans (sz8.trans (sz9)))) _ _ upd_same) (.cons (.int _) (.cons (.int _) .nil))) .nil)) (.cons (.str _) (.cons (.tup ((sz8.trans (sz9)) _ _ upd_same) (.cons (.int _) (.cons (.int _) .nil))) (.cons (.d1 ((sz9) _ _ upd_same) (.int _)) .nil))))))))))))
    have ez : (upd (upd (upd (upd (upd (upd (upd (upd (upd HY z1 (.tup [])) z2 (.dT [])) z3 (.tup us)) z4 (.lst [.ref g])) z5 (.tup [.int 0, .int 1])) z6 (.tup [.ref z5])) z7 (.tup [.int 0, .int 1])) z8 (.dK [(.inl 0, .int 1)])) z9 (.lst [V.non, V.int 0, V.str "", V.ref z1, V.ref z2, V.bl true, V.ref z3, V.ref z4, V.ref z6, V.str "01", V.ref z7, V.ref z8])) z9 = some (.lst [V.non, V.int 0, V.str "", V.ref z1, V.ref z2, V.bl true, V.ref z3, V.ref z4, V.ref z6, V.str "01", V.ref z7, V.ref z8]) := upd_same
    generalize (upd (upd (upd (upd (upd (upd (upd (upd (upd HY z1 (.tup [])) z2 (.dT [])) z3 (.tup us)) z4 (.lst [.ref g])) z5 (.tup [.int 0, .int 1])) z6 (.tup [.ref z5])) z7 (.tup [.int 0, .int 1])) z8 (.dK [(.inl 0, .int 1)])) z9 (.lst [V.non, V.int 0, V.str "", V.ref z1, V.ref z2, V.bl true, V.ref z3, V.ref z4, V.ref z6, V.str "01", V.ref z7, V.ref z8])) = HZ at tz fz ez ⊢
    clear sz9 hz9 sz8 hz8 sz7 hz7 sz6 hz6 sz5 hz5 sz4 hz4 sz3 hz3 sz2 hz2 sz1 hz1
    refine ⟨pc, z9, _, _, rfl, rfl, tz _ _ eY, ez, (by rw [lY]; show 60 ≤ sizeLine; decide), fun pf hpf => ?_⟩
    have sf := same_new (o := .lst (vY ++ [V.non, V.int 0, V.str "", V.ref z1, V.ref z2, V.bl true, V.ref z3, V.ref z4, V.ref z6, V.str "01", V.ref z7, V.ref z8])) hpf
    have tpf : t ≠ pf := tkne (tY.same tz) hpf
    refine q pf _ ((fs ++ fs2) ++ [PyData.none, PyData.int 0, PyData.str "", PyData.tuple [], PyData.dict [], PyData.bool true, PyData.tuple gs, PyData.list [.list gs], PyData.tuple [.tuple [.int 0, .int 1]], PyData.str "01", PyData.tuple [.int 0, .int 1], PyData.dict [(.int 0, .int 1)]]) _ _ (kY.trans (Same.keep (tz.trans sf))) (tY.same (tz.trans sf)) upd_same (Keep.free (kY.trans (Same.keep tz)) hpf (Ne.symm tpf)) (((fY.same tz).app fz).same sf) (fun d hd => ?_) ?_
    · rcases List.mem_append.mp hd with hd | hd
      · exact (List.mem_append.mp hd).elim (b5 d) (b6 d)
      · have sg : Sz 5 400000 (.list gs) := (sz_list gz gl).mono (by decide) (by decide)
        simp only [List.mem_cons, List.not_mem_nil, or_false] at hd
        rcases hd with rfl | rfl | rfl | rfl | rfl | rfl | rfl | rfl | rfl | rfl | rfl | rfl
        · exact badB_of (by decide +kernel)
        · exact badB_of (by decide +kernel)
        · exact badB_of (by decide +kernel)
        · exact badB_of (by decide +kernel)
        · exact badB_of (by decide +kernel)
        · exact badB_of (by decide +kernel)
        · exact ⟨rfl, fun _ e => (by cases e), (sz_tuple gz gl).mono (by decide) (by decide)⟩
        · refine ⟨rfl, fun _ e => (by injection e with e; subst e; exact (show 1 ≤ 2000 by decide)), (sz_list (n := 5) (c := 400000) (m := 1) (fun d hd => ?_) (show [PyData.list gs].length ≤ 1 from Nat.le_refl 1)).mono (by decide) (by decide)⟩
          rcases List.mem_cons.mp hd with rfl | hd
          · exact sg
          · cases hd
        · exact badB_of (by decide +kernel)
        · exact badB_of (by decide +kernel)
        · exact badB_of (by decide +kernel)
        · exact badB_of (by decide +kernel)
    · simp only [List.length_append, List.length_cons, List.length_nil]
      omega
end
end K22

set_option Elab.async false
set_option linter.all false
set_option maxRecDepth 100000
set_option maxHeartbeats 4000000
set_option exponentiation.threshold 600
namespace K22
open PySem PySem.Spec PyProof.Rows L2 RT SM DQ
abbrev NL : List Str := Nlaw ++ [("door" : Str)]
theorem scL : FnScope NL ["script"] (defScope slaw) := ⟨rfl, rfl, rfl, by decide +kernel, rfl, by decide +kernel, by decide +kernel⟩
theorem fine_nil : Fine [] := ⟨Nat.zero_le _, fun p hp => by cases hp⟩
theorem shows_of {d e : PyData} (hd : Sz 8 1000000 d) (he : Sz 8 1000000 e) : Shows d e := by
  have h := sz_list (n := 8) (c := 1000000) (m := 2) (ds := [d, e]) (fun x hx => by
    rcases List.mem_cons.mp hx with rfl | hx
    · exact hd
    · rcases List.mem_cons.mp hx with rfl | hx
      · exact he
      · cases hx) (show [d, e].length ≤ 2 from Nat.le_refl 2)
  exact ⟨h.1, Nat.le_trans h.2.1 (by decide), Nat.le_trans h.2.2 (by decide)⟩
theorem told_bad {door : Int} {d e : PyData} (h : fineD d = false) : told door d e = "intervals" := by unfold told; rw [if_pos h]
theorem told_place {d e : PyData} (h : fineD d = true) (k : isI e = false) : told 2 d e = "place" := by
  unfold told
  rw [if_neg (by rw [h]; exact Bool.false_ne_true.symm), if_pos ⟨rfl, k⟩]
theorem told_fine {door : Int} {d e : PyData} (h : fineD d = true) (k : isI e = true) : told door d e = "fine" := by
  unfold told
  rw [if_neg (by rw [h]; exact Bool.false_ne_true.symm), if_neg (fun z => by rw [k] at z; cases z.2)]
theorem eqvA_S : ∀ ss : List Str, PyData.eqvAll (ss.map PyData.str) (ss.map PyData.str) = true
  | [] => by simp [PyData.eqvAll]
  | s :: ss => by simp [PyData.eqvAll, PyData.eqv, eqvA_S ss]
theorem dpS {K : PySem.W.Frag} {H : Hp} : ∀ ss : List Str, DpAll K H (ss.map V.str) (ss.map PyData.str)
  | [] => .nil
  | s :: ss => .cons (.str s) (dpS ss)
theorem neS {K : PySem.W.Frag} {H : Hp} {p q : Addr} (ss : List Str) {Q : VK} (hp : H p = some (.lst (ss.map V.str))) (hq : H q = some (.lst (ss.map V.str))) (h : Q (.bl false) H) (hs : SeqAt.shaped (.list (ss.map PyData.str)) = true := by decide +kernel) : rNeD K (.ref p) (.ref q) H Q := by
  refine ⟨.list (ss.map .str), .list (ss.map .str), .lst (lstL hp) (dpS ss), .lst (lstL hq) (dpS ss), hs, hs, ?_⟩
  rw [show PyData.eqv (.list (ss.map .str)) (.list (ss.map .str)) = true from by rw [PyData.eqv]; exact eqvA_S ss]
  exact h
def plOk (d : PyData) : Bool := !isI d && (d.showable && (decide (d.depth ≤ 8) && decide (d.shown.length ≤ 1000000)))
def plD : List PyData := [PyData.none, PyData.bool true, PyData.bool false, PyData.str "0", PyData.str "", PyData.tuple [.int 0], PyData.list [.int 0], PyData.list [], PyData.dict [], PyData.tuple [.int 0, .int 1]]
theorem plD_ok : ∀ d ∈ plD, isI d = false ∧ Sz 8 1000000 d := fun d hd => by
  have h := List.all_eq_true.mp (show plD.all plOk = true from by decide +kernel) d hd
  unfold plOk at h
  rw [Bool.and_eq_true, Bool.and_eq_true, Bool.and_eq_true] at h
  obtain ⟨h1, h2, h3, h4⟩ := h
  exact ⟨by cases e : isI d <;> simp_all, h2, of_decide_eq_true h3, of_decide_eq_true h4⟩
theorem ivs_fine {L : List Iv} (h : ∀ p ∈ L, p.1 < p.2) : fineD (.list (L.map ivD)) = true := by
  show (L.map ivD).all isIv = true
  rw [List.all_map]
  exact List.all_eq_true.mpr fun p hp => decide_eq_true (h p hp)
section
variable {P : Program} {w : World} {K : PySem.W.Frag} {mg : Str → Option Value} {base : Heap}
def spLaw (K : PySem.W.Frag) : Sp := fun vs H Q _ => ∃ (a : Addr) (ns : List Int), vs = [.ref a] ∧ SqL K H a (ns.map V.int) ∧ ∀ H', Q (.bl true) H'
theorem ok_law (D : Ds K) (T : Tx K mg) : FnG P w K mg base CX0 7 (dlaw.adr K) D.fd_law ["script"] (spLaw K) := by
  have GK : FnOk P w K mg base CX0 1 _ _ _ (spTank K) := ok_tank D T
  have GS : FnOk P w K mg base CX0 2 _ _ _ spSome := ok_some D T
  have GN : FnOk P w K mg base CX0 2 _ _ _ (spNo K) := ok_no D T
  have GT : FnG P w K mg base CX0 6 _ _ _ (spTold K) := ok_told D T
  refine okG D.F_law scL (fun vs H Q E h => ?_) (fun cdv A outer s H vs Q E hG hr h => ?_)
  · obtain ⟨a, ns, rfl, _⟩ := h
    rfl
  · obtain ⟨a, ns, rfl, hS, q⟩ := h
    have nd := scL.nd
    refine ⟨_, PSs.nox (pss_cons (ps_for PassesOwn.never rfl (pi_range1 (by rfl) T.z_range (pa_cons (pe_callB (call_max2 rfl) (by rfl) T.z_max (by decide +kernel) (pa_cons pe_int (pa_cons (pe_callB (call_min2 rfl) (by rfl) T.z_min (by decide +kernel) (pa_cons pe_int (pa_cons (pe_callB call_len_seq (by rfl) T.z_len PySem.boot_len (pa_cons (pv 0) pa_nil)) pa_nil))) pa_nil))) pa_nil)) (pg_name (i := 1) nd rfl (.inl rfl))
      (pss_cons (ps_set (i := 2) nd rfl (.inl rfl) (pe_call GK (hr.mono (by decide)) (by rfl) T.g__law_tank D.F__law_tank.kp (b__law_tank D) .nil pass0 (pa_cons (pv 0) (pa_cons (pv 1) pa_nil))))
        (pss_cons (ps_set (i := 3) nd rfl (.inr rfl) (pe_call GS (hr.mono (by decide)) (by rfl) T.g__law_some_spans D.F__law_some_spans.kp (b__law_some_spans D) .nil pass0 (pa_cons (pv 2) (pa_cons pe_int pa_nil))))
        (pss_cons (ps_for PassesOwn.never rfl (pi_list (pe_call GN (hr.mono (by decide)) (by rfl) T.g__law_no_intervals D.F__law_no_intervals.kp (b__law_no_intervals D) .nil pass0 (pa_cons (pv 2) (pa_cons (pv 3) pa_nil)))) (pg_name (i := 4) nd rfl (.inl rfl)) (pss_cons (ps_set (i := 5) nd rfl (.inl rfl) (pe_lst (pa_cons (pe_callG GT hG hr (by rfl) T.g__law_told D.F__law_told.kp (b__law_told D) .nil pass0 (pa_cons pe_int (pa_cons (pv 4) (pa_cons pe_non pa_nil)))) (pa_cons (pe_callG GT hG hr (by rfl) T.g__law_told D.F__law_told.kp (b__law_told D) .nil pass0 (pa_cons pe_int (pa_cons (pv 4) (pa_cons pe_non pa_nil)))) (pa_cons (pe_callG GT hG hr (by rfl) T.g__law_told D.F__law_told.kp (b__law_told D) .nil pass0 (pa_cons pe_int (pa_cons (pv 4) (pa_cons pe_int pa_nil)))) (pa_cons (pe_callG GT hG hr (by rfl) T.g__law_told D.F__law_told.kp (b__law_told D) .nil pass0 (pa_cons pe_int (pa_cons (pv 4) (pa_cons pe_non pa_nil)))) pa_nil)))))) (pss_one (ps_if (pt_cmpR (op_neD hr.units) (pv 5) (pe_op op_rep (pe_lst (pa_cons pe_str pa_nil)) pe_int) (nomark _)) (pss_one (ps_ret pe_bl)) pss_nil))))
        (pss_cons (ps_for PassesOwn.never rfl (pi_list (pe_lst (pa_cons pe_non (pa_cons pe_bl (pa_cons pe_bl (pa_cons pe_str (pa_cons pe_str (pa_cons (pe_tup (pa_cons pe_int pa_nil)) (pa_cons (pe_lst (pa_cons pe_int pa_nil)) (pa_cons (pe_lst pa_nil) (pa_cons pe_dnewT (pa_cons (pe_tup (pa_cons pe_int (pa_cons pe_int pa_nil))) pa_nil)))))))))))) (pg_name (i := 4) nd rfl (.inl rfl)) (pss_one (ps_if (pt_cmpR (op_neD hr.units) (pe_lst (pa_cons (pe_callG GT hG hr (by rfl) T.g__law_told D.F__law_told.kp (b__law_told D) .nil pass0 (pa_cons pe_int (pa_cons (pv 3) (pa_cons (pv 4) pa_nil)))) (pa_cons (pe_callG GT hG hr (by rfl) T.g__law_told D.F__law_told.kp (b__law_told D) .nil pass0 (pa_cons pe_int (pa_cons (pe_lst pa_nil) (pa_cons (pv 4) pa_nil)))) pa_nil))) (pe_op op_rep (pe_lst (pa_cons pe_str pa_nil)) pe_int) (nomark _)) (pss_one (ps_ret pe_bl)) pss_nil)))
        (pss_cons (ps_set (i := 5) nd rfl (.inl rfl) (pe_op op_cat (pe_lc (own := [(("door" : Str), 6)]) (g := gName 6) (tt := tYes) (te := (tCall (spTold K) [] E0 (tCons (tVar 6) (tCons (tVar 3) (tCons (tC (.int 0)) tNil))))) rfl nd (pi_range1 (by rfl) T.z_range (pa_cons pe_int pa_nil)) (blkOk_by (own := [(("door" : Str), 6)]) (N := NL) (sc := defScope slaw) (by decide +kernel)) (fun _ _ _ _ _ => pg_name (i := 6) nd rfl (Or.inl rfl)) (fun _ _ _ _ _ => pts_nil) (fun _ _ _ _ _ => (pe_callG GT hG hr (by rfl) T.g__law_told D.F__law_told.kp (b__law_told D) .nil pass0 (pa_cons (pv 6) (pa_cons (pv 3) (pa_cons pe_int pa_nil)))))) (pe_lc (own := [(("door" : Str), 6)]) (g := gName 6) (tt := tYes) (te := (tCall (spTold K) [] E0 (tCons (tVar 6) (tCons (tLst tNil) (tCons (tOp (rI CPow fun i j => .int (i ^ j.toNat)) (tC (.int 10)) (tC (.int 60))) tNil))))) rfl nd (pi_range1 (by rfl) T.z_range (pa_cons pe_int pa_nil)) (blkOk_by (own := [(("door" : Str), 6)]) (N := NL) (sc := defScope slaw) (by decide +kernel)) (fun _ _ _ _ _ => pg_name (i := 6) nd rfl (Or.inl rfl)) (fun _ _ _ _ _ => pts_nil) (fun _ _ _ _ _ => (pe_callG GT hG hr (by rfl) T.g__law_told D.F__law_told.kp (b__law_told D) .nil pass0 (pa_cons (pv 6) (pa_cons (pe_lst pa_nil) (pa_cons (pe_op op_pow pe_int pe_int) pa_nil))))))))
        (pss_one (ps_if (pt_cmpR (op_neD hr.units) (pe_op op_cat (pv 5) (pe_lst (pa_cons (pe_callG GT hG hr (by rfl) T.g__law_told D.F__law_told.kp (b__law_told D) .nil pass0 (pa_cons pe_int (pa_cons (pv 3) (pa_cons (pe_op op_sub pe_int (pe_op op_pow pe_int pe_int)) pa_nil)))) pa_nil))) (pe_op op_rep (pe_lst (pa_cons pe_str pa_nil)) pe_int) (nomark _)) (pss_one (ps_ret pe_bl)) pss_nil))))))))
      (pss_one (ps_ret pe_bl))), ?_⟩
    refine ⟨_, rfl, a, _, rfl, .inl hS, _, _, rfl, _, _, rfl, _, rfl, ?b1, ?b2, ?_⟩
    case b1 => split <;> omega
    case b2 => split <;> split <;> omega
    refine for_range (lo := 0) (fun i σ H' => ∃ z1 z2 z3 z4 z5 z6, SqL K H' a (ns.map V.int) ∧ σ = [some (.ref a), z1, z2, z3, z4, z5, z6]) ⟨none, none, none, none, none, none, hS, rfl⟩ (fun k σ' H0 hk hp => ?_) fun σ' H' hp => ?_
    · obtain ⟨z1, z2, z3, z4, z5, z6, hS0, rfl⟩ := hp
      have hk8 : k < 9 := by
        have h2 := hk
        split at h2 <;> split at h2 <;> omega
      refine ⟨_, rfl, _, rfl, a, ns, k, by rw [Int.zero_add]; rfl, hS0, by omega, fun t Ht st h0 tk0 => ?_⟩
      refine ⟨_, rfl, t, 0, 30, rfl, tk0, by decide, by decide, fun g us L c1 H1 k1 t1 l1 u1 hg ng eg iv len fine diff => ?_⟩
      have sK : ∀ {H' : Hp}, Keep t Ht H' → Same H0 H' := fun k b o h => k b o (ne_of_none h h0) (st b o h)
      have szN : Sz 8 1000000 .none := ⟨rfl, Nat.zero_le _, by decide +kernel⟩
      have sz0 : Sz 8 1000000 (.int 0) := ⟨by decide +kernel, Nat.zero_le _, by decide +kernel⟩
      refine ⟨_, rfl, _, rfl, t, g, c1, us, L, rfl, t1, by omega, Ne.symm ng, eg, iv, len, fine, fun r vs' ds c2 H2 k2 t2 er hr0 fa bad lds => ?_⟩
      refine ⟨r, rfl, ⟨_, lstL er⟩, for_list (xs := vs') (fun i σ H' => ∃ z4 z5, Same H2 H' ∧ σ = [some (.ref a), some (.int (0 + k)), some (.ref t), some (.ref g), z4, z5, z6]) ⟨_, _, fun _ _ h => h, rfl⟩ (fun i σ H' hi hp => ?_) (fun i x σ H3 hx hp => ?_) fun σ H3 hp => ?_⟩
      · obtain ⟨_, _, s3, _⟩ := hp
        exact lstL (s3 _ _ er)
      · obtain ⟨z4, z5, s3, rfl⟩ := hp
        obtain ⟨d, hd, qd⟩ := fa.get hx
        obtain ⟨b1, b2, b3⟩ := bad d (List.mem_of_getElem? hd)
        have nf : ∀ {H'}, fineD d = true → Good K H' x := fun z => by rw [b1] at z; cases z
        refine ⟨_, rfl, 0, x, .non, d, .none, rfl, .inl rfl, qd.same s3, .non, b2, shows_of b3 szN, nf, fun H4 s4 => ?_⟩
        refine ⟨_, rfl, 1, x, .non, d, .none, rfl, .inr (.inl rfl), qd.same (s3.trans s4), .non, b2, shows_of b3 szN, nf, fun H5 s5 => ?_⟩
        refine ⟨_, rfl, 2, x, .int 0, d, .int 0, rfl, .inr (.inr rfl), qd.same (s3.trans (s4.trans s5)), .int 0, b2, shows_of b3 sz0, nf, fun H6 s6 => ?_⟩
        refine ⟨_, rfl, 2, x, .non, d, .none, rfl, .inr (.inr rfl), qd.same (s3.trans (s4.trans (s5.trans s6))), .non, b2, shows_of b3 szN, nf, fun H7 s7 => ?_⟩
        rw [told_bad b1, told_bad b1, told_bad b1, told_bad b1]
        have s37 := s3.trans (s4.trans (s5.trans (s6.trans s7)))
        refine ⟨(by show 4 ≤ sizeLine; decide), fun pt hpt => ?_⟩
        have w1 := same_new (o := .lst [.str "intervals", .str "intervals", .str "intervals", .str "intervals"]) hpt
        refine ⟨_, rfl, (by show 1 ≤ sizeLine; decide), fun pi hpi => ?_⟩
        have w2 := same_new (o := .lst [.str "intervals"]) hpi
        refine ⟨pi, 4, _, rfl, rfl, upd_same, by decide, by decide, by decide, fun pj hpj => ?_⟩
        have w3 := same_new (o := .lst (List.replicate (4 : Int).toNat [V.str "intervals"]).flatten) hpj
        exact neS ["intervals", "intervals", "intervals", "intervals"] ((w2.trans w3) _ _ upd_same) upd_same ⟨_, rfl, iteF ⟨_, _, s37.trans (w1.trans (w2.trans w3)), rfl⟩⟩
      -- the places
      obtain ⟨z4, z5, s3, rfl⟩ := hp
      obtain ⟨gs, egs⟩ : ∃ X, X = L.map ivD := ⟨_, rfl⟩
      have k3 := (k1.trans k2).trans (Same.keep s3)
      have t3 := t2.same s3
      have iv3 := (iv.dip t1 k2).same s3
      have eg3 := s3 _ _ (k2 _ _ ng eg)
      have fg : fineD (.list gs) = true := by rw [egs]; exact ivs_fine fun p hp => (fine.2 p hp).1
      have fewg : Few (.list gs) := fun es e => by injection e with e; subst e; rw [egs, List.length_map]; omega
      have szg : Sz 8 1000000 (.list gs) := (sz_list (n := 4) (c := 4000) (m := 30) (fun e he => by
        rw [egs] at he
        obtain ⟨p, hp, rfl⟩ := List.mem_map.mp he
        exact sz_iv (fine.2 p hp).2.1 (fine.2 p hp).2.2) (by rw [egs, List.length_map]; exact len)).mono (by decide) (by decide)
      have qg : Dq H3 (.ref g) (.list gs) := by rw [egs]; exact .lst eg3 (dq_ivs iv3)
      have gg : Good K H3 (.ref g) := ⟨g, us, L, rfl, lstL eg3, iv3, fine⟩
      have ge : ∀ {H' : Hp} {b : Addr}, H' b = some (.lst []) → Good K H' (.ref b) := fun e => ⟨_, [], [], rfl, lstL e, .nil, fine_nil⟩
      have fe : fineD (.list []) = true := rfl
      have fewe : Few (.list []) := fun es e => by injection e with e; subst e; exact Nat.zero_le _
      have sze : Sz 8 1000000 (.list []) := ⟨by decide +kernel, by decide, by decide +kernel⟩
      generalize H3 = HB at *
      clear iv3 eg3 iv eg fa er bad
      refine ⟨(by show 1 ≤ sizeLine; decide), fun q1 hq1 => ?_⟩
      have sq1 := same_new (o := .tup [.int 0]) hq1
      refine ⟨(by show 1 ≤ sizeLine; decide), fun q2 hq2 => ?_⟩
      have sq2 := same_new (o := .lst [.int 0]) hq2
      refine ⟨(by show 0 ≤ sizeLine; decide), fun q3 hq3 => ?_⟩
      have sq3 := same_new (o := .lst []) hq3
      refine fun q4 hq4 => ?_
      have sq4 := same_new (o := .dT []) hq4
      refine ⟨(by show 2 ≤ sizeLine; decide), fun q5 hq5 => ?_⟩
      have sq5 := same_new (o := .tup [.int 0, .int 1]) hq5
      refine ⟨(by show 10 ≤ sizeLine; decide), fun q6 hq6 => ?_⟩
      have sq6 := same_new (o := .lst [V.non, V.bl true, V.bl false, V.str "0", V.str "", V.ref q1, V.ref q2, V.ref q3, V.ref q4, V.ref q5]) hq6
      have tq : Same HB (upd (upd (upd (upd (upd (upd HB q1 (.tup [.int 0])) q2 (.lst [.int 0])) q3 (.lst [])) q4 (.dT [])) q5 (.tup [.int 0, .int 1])) q6 (.lst [V.non, V.bl true, V.bl false, V.str "0", V.str "", V.ref q1, V.ref q2, V.ref q3, V.ref q4, V.ref q5])) := (sq1.trans (sq2.trans (sq3.trans (sq4.trans (sq5.trans (sq6))))))
      have fq : DqA (upd (upd (upd (upd (upd (upd HB q1 (.tup [.int 0])) q2 (.lst [.int 0])) q3 (.lst [])) q4 (.dT [])) q5 (.tup [.int 0, .int 1])) q6 (.lst [V.non, V.bl true, V.bl false, V.str "0", V.str "", V.ref q1, V.ref q2, V.ref q3, V.ref q4, V.ref q5])) [V.non, V.bl true, V.bl false, V.str "0", V.str "", V.ref q1, V.ref q2, V.ref q3, V.ref q4, V.ref q5] [PyData.none, PyData.bool true, PyData.bool false, PyData.str "0", PyData.str "", PyData.tuple [.int 0], PyData.list [.int 0], PyData.list [], PyData.dict [], PyData.tuple [.int 0, .int 1]] := (.cons (.non) (.cons (.bl _) (.cons (.bl _) (.cons (.str _) (.cons (.str _) (.cons (.tup ((sq2.trans (sq3.trans (sq4.trans (sq5.trans (sq6))))) _ _ upd_same) (.cons (.int _) .nil)) (.cons (.lst ((sq3.trans (sq4.trans (sq5.trans (sq6)))) _ _ upd_same) (.cons (.int _) .nil)) (.cons (.lst ((sq4.trans (sq5.trans (sq6))) _ _ upd_same) .nil) (.cons (.d0 ((sq5.trans (sq6)) _ _ upd_same)) (.cons (.tup ((sq6) _ _ upd_same) (.cons (.int _) (.cons (.int _) .nil))) .nil))))))))))
      have eq : (upd (upd (upd (upd (upd (upd HB q1 (.tup [.int 0])) q2 (.lst [.int 0])) q3 (.lst [])) q4 (.dT [])) q5 (.tup [.int 0, .int 1])) q6 (.lst [V.non, V.bl true, V.bl false, V.str "0", V.str "", V.ref q1, V.ref q2, V.ref q3, V.ref q4, V.ref q5])) q6 = some (.lst [V.non, V.bl true, V.bl false, V.str "0", V.str "", V.ref q1, V.ref q2, V.ref q3, V.ref q4, V.ref q5]) := upd_same
      generalize (upd (upd (upd (upd (upd (upd HB q1 (.tup [.int 0])) q2 (.lst [.int 0])) q3 (.lst [])) q4 (.dT [])) q5 (.tup [.int 0, .int 1])) q6 (.lst [V.non, V.bl true, V.bl false, V.str "0", V.str "", V.ref q1, V.ref q2, V.ref q3, V.ref q4, V.ref q5])) = HC at tq fq eq ⊢
      clear sq6 hq6 sq5 hq5 sq4 hq4 sq3 hq3 sq2 hq2 sq1 hq1
      have fq' : DqA HC _ plD := fq
      refine ⟨_, rfl, ⟨_, lstL eq⟩, for_list (xs := [V.non, V.bl true, V.bl false, V.str "0", V.str "", V.ref q1, V.ref q2, V.ref q3, V.ref q4, V.ref q5]) (fun i σ H' => ∃ z4, Same HC H' ∧ σ = [some (.ref a), some (.int (0 + k)), some (.ref t), some (.ref g), z4, z5, z6]) ⟨_, fun _ _ h => h, rfl⟩ (fun i σ H' hi hp => ?_) (fun i x σ H3 hx hp => ?_) fun σ H3 hp => ?_⟩
      · obtain ⟨_, s3, _⟩ := hp
        exact lstL (s3 _ _ eq)
      · obtain ⟨z4, s3, rfl⟩ := hp
        obtain ⟨d, hd, qd⟩ := fq'.get hx
        obtain ⟨b1, b3⟩ := plD_ok d (List.mem_of_getElem? hd)
        have u3 := tq.trans s3
        refine ⟨_, rfl, _, rfl, 2, .ref g, x, .list gs, d, rfl, .inr (.inr rfl), qg.same u3, qd.same s3, fewg, shows_of szg b3, fun _ => gg.same u3, fun H4 s4 => ?_⟩
        refine ⟨(by show 0 ≤ sizeLine; decide), fun pe hpe => ?_⟩
        have w0 := same_new (o := .lst []) hpe
        refine ⟨_, rfl, 2, .ref pe, x, .list [], d, rfl, .inr (.inr rfl), .lst upd_same .nil, qd.same (s3.trans (s4.trans w0)), fewe, shows_of sze b3, fun _ => ge upd_same, fun H5 s5 => ?_⟩
        rw [told_place fg b1, told_place fe b1]
        have s35 := s3.trans (s4.trans (w0.trans s5))
        refine ⟨(by show 2 ≤ sizeLine; decide), fun pt hpt => ?_⟩
        have w1 := same_new (o := .lst [.str "place", .str "place"]) hpt
        refine ⟨(by show 1 ≤ sizeLine; decide), fun pi hpi => ?_⟩
        have w2 := same_new (o := .lst [.str "place"]) hpi
        refine ⟨pi, 2, _, rfl, rfl, upd_same, by decide, by decide, by decide, fun pj hpj => ?_⟩
        have w3 := same_new (o := .lst (List.replicate (2 : Int).toNat [V.str "place"]).flatten) hpj
        exact neS ["place", "place"] ((w2.trans w3) _ _ upd_same) upd_same ⟨_, rfl, iteF ⟨_, s35.trans (w1.trans (w2.trans w3)), rfl⟩⟩
      -- what is fine
      obtain ⟨z4, s3, rfl⟩ := hp
      have u3 := tq.trans s3
      replace qg := qg.same u3
      replace gg := gg.same u3
      have kk := k3.trans (Same.keep u3)
      clear fq fq' eq tq s3 u3
      have p60 : (10 : Int) ^ ((60 : Int).toNat) = 1000000000000000000000000000000000000000000000000000000000000 := by decide
      have b60 : (1000000000000000000000000000000000000000000000000000000000000 : Nat) < 2 ^ 600 := by decide
      have sz60 : Sz 8 1000000 (.int (10 ^ (60 : Int).toNat)) := (sz_int (by rw [p60]; omega)).mono (by decide) (by decide)
      have sm60 : Sz 8 1000000 (.int (0 - 10 ^ (60 : Int).toNat)) := (sz_int (by rw [p60]; omega)).mono (by decide) (by decide)
      have rl : ∀ {i : Nat}, i < 3 → ((List.replicate i ("fine" : Str)).map V.str).length < sizeLine := fun {i} h => by
        rw [List.length_map, List.length_replicate]
        exact Nat.lt_of_lt_of_le h (by decide)
      have rs : ∀ i : Nat, (List.replicate (i + 1) ("fine" : Str)).map V.str = (List.replicate i ("fine" : Str)).map V.str ++ [V.str "fine"] := fun i => by
        rw [List.replicate_succ', List.map_append]
        rfl
      refine ⟨3, rfl, by decide, by decide, fun D1 hD1 => lc_range (lo := 0) (fun i H' => Same H3 H' ∧ H' D1 = some (.lst ((List.replicate i ("fine" : Str)).map V.str))) ⟨same_new hD1, upd_same⟩ (fun i H' hi p => ?_) fun H' p => ?_⟩
      · obtain ⟨s, eD⟩ := p
        have hi3 : i < 3 := hi
        refine ⟨rfl, _, rfl, _, rfl, 0 + (i : Int), .ref g, .int 0, .list gs, .int 0, rfl, by omega, qg.same s, .int 0, fewg, shows_of szg sz0, fun _ => gg.same s, fun H4 s4 => ?_⟩
        rw [told_fine fg rfl]
        refine ⟨_, s4 _ _ eD, rl hi3, fun b o h => ?_, ?_⟩
        · rw [upd_ne (ne_of_none h hD1)]
          exact s4 _ _ (s _ _ h)
        · rw [upd_same, rs]
      obtain ⟨s4, e4⟩ := p
      refine ⟨3, rfl, by decide, by decide, fun D2 hD2 => lc_range (lo := 0) (fun i H'' => Same H' H'' ∧ H'' D2 = some (.lst ((List.replicate i ("fine" : Str)).map V.str))) ⟨same_new hD2, upd_same⟩ (fun i H'' hi p => ?_) fun H'' p => ?_⟩
      · obtain ⟨s, eD⟩ := p
        have hi3 : i < 3 := hi
        refine ⟨rfl, _, rfl, (by show 0 ≤ sizeLine; decide), fun pe hpe => ?_⟩
        have w0 := same_new (o := .lst []) hpe
        refine ⟨_, _, rfl, rfl, pw_ok (by decide) (by decide), 0 + (i : Int), .ref pe, .int (10 ^ (60 : Int).toNat), .list [], .int (10 ^ (60 : Int).toNat), rfl, by omega, .lst upd_same .nil, .int _, fewe, shows_of sze sz60, fun _ => ge upd_same, fun H4 s4' => ?_⟩
        rw [told_fine fe rfl]
        refine ⟨_, s4' _ _ (w0 _ _ eD), rl hi3, fun b o h => ?_, ?_⟩
        · rw [upd_ne (ne_of_none h hD2)]
          exact s4' _ _ (w0 _ _ (s _ _ h))
        · rw [upd_same, rs]
      obtain ⟨s5, e5⟩ := p
      refine ⟨D1, D2, _, _, rfl, rfl, s5 _ _ e4, e5, by decide, fun pc hpc => ?_⟩
      have w6 := same_new (o := .lst ((List.replicate (3 : Int).toNat ("fine" : Str)).map V.str ++ (List.replicate (3 : Int).toNat ("fine" : Str)).map V.str)) hpc
      have s36 := s4.trans (s5.trans w6)
      refine ⟨_, rfl, _, rfl, _, _, rfl, rfl, pw_ok (by decide) (by decide), _, _, rfl, rfl, 2, .ref g, .int (0 - 10 ^ (60 : Int).toNat), .list gs, .int (0 - 10 ^ (60 : Int).toNat), rfl, .inr (.inr rfl), qg.same s36, .int _, fewg, shows_of szg sm60, fun _ => gg.same s36, fun H7 s7 => ?_⟩
      rw [told_fine fg rfl]
      refine ⟨(by show 1 ≤ sizeLine; decide), fun pt hpt => ?_⟩
      have w1 := same_new (o := .lst [.str "fine"]) hpt
      refine ⟨pc, pt, _, _, rfl, rfl, w1 _ _ (s7 _ _ upd_same), upd_same, by decide, fun px hpx => ?_⟩
      have w2 := same_new (o := .lst (((List.replicate (3 : Int).toNat ("fine" : Str)).map V.str ++ (List.replicate (3 : Int).toNat ("fine" : Str)).map V.str) ++ [.str "fine"])) hpx
      refine ⟨(by show 1 ≤ sizeLine; decide), fun pi hpi => ?_⟩
      have w3 := same_new (o := .lst [.str "fine"]) hpi
      refine ⟨pi, 7, _, rfl, rfl, upd_same, by decide, by decide, by decide, fun pj hpj => ?_⟩
      have w4 := same_new (o := .lst (List.replicate (7 : Int).toNat [V.str "fine"]).flatten) hpj
      have sE := s36.trans (s7.trans (w1.trans (w2.trans (w3.trans w4))))
      exact neS ["fine", "fine", "fine", "fine", "fine", "fine", "fine"] ((w3.trans w4) _ _ upd_same) upd_same ⟨_, rfl, iteF ⟨_, _, _, _, _, _, same_sql (sK (kk.trans (Same.keep sE))) hS0, rfl⟩⟩
    · exact q _
end
end K22

set_option Elab.async false
set_option linter.all false
set_option maxRecDepth 100000
set_option maxHeartbeats 0
open PySem PySem.W PySem.Calls PyProof.Rows
theorem PySem.Challenge.cw_plotpens_k22_interval_errors_holds : PySem.Challenge.rw_plotpens_k22_interval_errors.Holds := by
  w_on; o_law
  refine HandSHeadRun.head_any (r := OpenLaw.row PySem.Challenge.rw_plotpens_k22_interval_errors) (q := view (OpenLaw.row PySem.Challenge.rw_plotpens_k22_interval_errors).prog [52]) (H := K22.hk) (ob := K22.ob) (M := 12000) (loose := K22.names) (d := HandSHeadRun.topDef (OpenLaw.row PySem.Challenge.rw_plotpens_k22_interval_errors).prog 52) (kwd := []) K22.ob_eq
    (by kernel_rfl) (fun s => by kernel_rfl) K22.run (by kernel_rfl) (by kernel_rfl) (by kernel_rfl) (by rfl) (by first | assumption | decide +kernel) (by decide +kernel) ⟨rfl, rfl, rfl, rfl, rfl, by decide +kernel⟩ ?hw ?hc
  case hw => w_witness2
  case hc =>
    refine RT.walk_ofG (l := PySem.Challenge.rw_plotpens_k22_interval_errors) (n := 63) (k := 7) (x := "script") (CX := fun _ => L2.CX0) rfl (by decide) (by kernel_rfl) ⟨rfl, by decide, by decide⟩ ?F (fun _ _ _ _ _ z => z)
    intro w mg fa h Y G hmg0
    obtain ⟨K, KX, c⟩ := Y
    have hmg : mg ("law" : PySem.Str) = some (.ref fa) := by
      have e : (HandSHeadRun.topDef (OpenLaw.row PySem.Challenge.rw_plotpens_k22_interval_errors).prog 52).name = ("law" : PySem.Str) := by kernel_rfl
      rw [← e]
      exact hmg0
    have T := K22.tx_of KX G c
    obtain ⟨D⟩ := K22.ds_of c
    have e := hmg.symm.trans T.g_law
    cases e
    have b := L2.FunD.bindsA (ps := ["script"]) D.F_law fun _ _ _ _ _ _ us hl => match us, hl with | [_], _ => rfl
    exact ⟨K, D.fd_law, K22.spLaw K, KX, fun s v => b s [v] rfl, fun H a ns hl _ hS => ⟨a, ns, rfl, hS, fun _ => rfl⟩, fun base _ _ => K22.ok_law D T⟩
