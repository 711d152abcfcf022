import PyProof.Rows.All
import Wide.All
import OpenK.AllK
import Wide.FinOn
import HandS.ForMost
import HandS.Exc
import HandS.ExcCtx
import HandS.TryOnly
import HandS.ExcInit
import HandS.IsInst
import HandS.ExcIs
import HandS.ExcField
import HandS.SortKw
import HandS.FStr
import HandS.Wide
import KE.DataMinMax
import PyProof.StrBlock2
import PyProof.Rows.RuleB_pow
import HandS.SlotsOwn
import HandS.Property
import HandS.OwnEq
import KE.KOpsOwn
import OpenK.KOps
import HandS.WordsExc
import HandS.Defaults
import HandS.EndBits
import KE.KStateDown
import Lean
import HandS.Head0
import HandS.Head1
import HandS.Head2
import HandS.HeadEnd
import HandS.HeadHook1
import HandS.HeadHook2
import HandS.SetFor
import HandS.StrMore
import HandS.Style
import HandS.Iter
import HandS.Comp
import HandS.TupAny
import HandS.More
import HandS.Deep
import HandS.List
import HandS.ExcOwn
import PyProof.EqKinds
import PyProof.FactsAll.dict_1
import PyProof.FactsAll.subtypes
import HandS.Flow
import PySem.Challenge.RW_plotpens_k09_routines_too_large
set_option Elab.async false
set_option linter.all false
set_option maxRecDepth 100000
set_option maxHeartbeats 4000000
/-! a try whose clause keeps the exception: behind it the exception stands tracked -/
namespace RT
open PySem PySem.Spec PyProof.Rows L2 L2N
/-- an exception that was caught, at a: its class, its own dict -/
def ExT (a : Addr) (cls : Value) (d : Option Addr) : HO := .ext fun h => ∃ (oe : Obj) (vs : Array Value), h.get? a = some oe ∧ oe.cls = cls ∧ oe.dict = d ∧ oe.data = .fields vs
theorem exT_ok {P : Program} {w : World} {H : Hp} {h : Heap} {a : Addr} {cls : Value} {d : Option Addr} {oe : Obj} {vs : Array Value} (e : h.get? a = some oe) (z : oe.cls = cls) (z2 : oe.dict = d) (dd : oe.data = .fields vs) : ObjOk P w H h a (ExT a cls d) :=
  ⟨⟨oe, vs, e, z, z2, dd⟩, ⟨oe, e⟩, fun _ _ ⟨o, v, q, r⟩ k => ⟨o, v, k o q, r⟩⟩
section
variable {X : Cx} {pins : List (Addr × Obj)} {σ : L2.St} {H : Hp} {s : Shared}
theorem Inv.trackX {a : Addr} {o : HO} {oe : Obj} (I : Inv X pins σ H s) (he : s.heap.get? a = some oe) (hn : H a = none) (n0 : X.s_0.heap.get? a = none) (nL : a ≠ X.env.locals)
    (nC : ∀ x c, X.env.cells.lookup x = some c → c ≠ a) (nP : ∀ p ∈ X.pn ++ pins, p.1 ≠ a) (new : ObjOk X.prog X.w (upd H a o) s.heap a o) : Inv X pins σ (upd H a o) s := by
  have ne0 : ∀ b u, X.s_0.heap.get? b = some u → b ≠ a := fun b u e z => by
    rw [z, n0] at e
    cases e
  have neH : ∀ b u, H b = some u → b ≠ a := fun b u e z => by
    rw [z, hn] at e
    cases e
  refine ⟨I.ok, I.os, I.bare, ⟨I.base.keep, I.base.slot, fun b u e n hx => ?_, I.base.there, fun b xs e => ?_, fun b u xs e => ?_, fun b ps e => ?_⟩, I.loc, I.cell, ?_, fun x c e => ?_, fun p hp => ?_, fun b u e => ?_, I.len⟩
  · rw [upd_ne (ne0 b u e)]
    exact I.base.free b u e n hx
  · have q := I.base.tups b xs e
    rw [upd_ne (neH b _ q)]
    exact q
  · have q := I.base.frzs b u xs e
    rw [upd_ne (neH b _ q)]
    exact q
  · obtain ⟨m, q⟩ := I.base.tbls b ps e
    refine ⟨m, ?_⟩
    rw [upd_ne (neH b _ q)]
    exact q
  · rw [upd_ne (Ne.symm nL)]
    exact I.free
  · rw [upd_ne (nC x c e)]
    exact I.freeC x c e
  · obtain ⟨q1, q2, q3, q4, q5⟩ := I.pin p hp
    refine ⟨q1, ?_, q3, q4, q5⟩
    rw [upd_ne (nP p hp)]
    exact q2
  · by_cases hb : b = a
    · subst hb
      rw [upd_same] at e
      cases e
      exact new
    · rw [upd_ne hb] at e
      refine (I.hok b u e).stay (fun c v _ q => q) (fun c q => ?_) fun c xs q => ?_
      · rw [upd_ne (neH c _ q)]
        exact q
      · rw [upd_ne (neH c _ q)]
        exact q
end
/-- as wAs, but behind the suite the exception is tracked -/
def wAsT (K : PySem.W.Frag) (c : Value) (i : Nat) (ts : Addr → Value → Option Addr → TS) (Wout : WX) (D : Ends) : WX := fun cls d σ H =>
  ∃ b, PySem.W.exmOne K cls c = some b ∧ (b = true → ∀ a, H a = none → ts a cls d { nx := fun σ' H' => D.nx (σ'.set i none) (upd H' a (ExT a cls d)), rt := D.rt, bk := fun σ' H' => D.bk (σ'.set i none) H', ct := fun σ' H' => D.ct (σ'.set i none) H' } (σ.set i (some (.ref a))) H) ∧
    (b = false → Wout cls d σ H)
section
variable {X : Cx} {body : List Stmt} {pos pos' np : Pos} {tb : WX → TS} {Wout : WX} {i : Nat} {n x : Str} {c : Value} {b₀ : Stmt} {suite : List Stmt} {ts : Addr → Value → Option Addr → TS}
theorem ps_try_asT (hs : X.stack = X.env :: X.outer) (hf : X.env.frame = some X.env.locals) (hex : X.ex = []) (hN : X.N.Nodup) (hi : X.N[i]? = some n) (hln : X.env.kindOf n = some .local) (hc : Names X x c) (tk : L2N.Takes X Wout)
    (hb : ∀ (W : WX) (pn : List (Addr × Obj)) (xe : Value → Shared → Prop), L2N.Takes (X.tr pn xe) W → PassesOwn (model X.prog X.w) X.A X.env xe → PSs (X.tr pn xe) body (tb W))
    (hsu : ∀ (a : Addr) (oe : Obj) (cls : Value) (d : Option Addr) (pn : List (Addr × Obj)), Zn cls d oe → (∃ vs, oe.data = .fields vs) → PSs (X.suite a ((a, oe) :: pn)) (b₀ :: suite) (ts a cls d)) :
    PS X (.Try body [.ExceptHandler (some (.Name x np)) (some n) (b₀ :: suite) pos'] [] [] pos) (fun D σ H => tb (wAsT X.K c i ts Wout D) D σ H) := by
  refine ⟨fun pins s σ H D I h => ?_⟩
  have okX := I.ok
  have frEq : X.A.frames = some (X.env :: X.outer) := by rw [okX.frames, hs]
  have locN : Loc X.env.scope n := .inl hln
  refine wpAny_Try_except ?_
  refine wpAny_mono ((hb (wAsT X.K c i ts Wout D) (X.pn ++ pins) (fun e s₁ => wpAny (model X.prog X.w) X.A (noteFrame e X.env) (fun _ s₂ => wpAny (model X.prog X.w) X.A (setFlight e none) (fun _ s₃ =>
    wpAny (model X.prog X.w) X.A (handleBy e X.env [.ExceptHandler (some (.Name x np)) (some n) (b₀ :: suite) pos']) (SP X pins D) X.xe s₃) X.xe s₂) X.xe s₁) (fun u s' wish => ?_) PassesOwn.looking).run [] s σ H D (I.toTry _) h) (fun f s1 spq => ?_) (fun e s1 he => he)
  · -- the catch
    obtain ⟨a, B, sI, pins', σ', H', cls, d, rfl, J0, botB, up, airA, frA, osE, agE, b, exB, yesB, noB⟩ := wish
    have J : Inv X pins σ' H' sI := J0.ofTry okX
    have airB : Sky B (X.env :: X.outer) a (Zn cls d) X.env.locals s'.heap := by rw [← hs]; exact airA
    show wpAny (model X.prog X.w) X.A (noteFrame (.ref a) X.env) _ _ _
    refine Sky.land Zn.steady frEq hf airB fun hpA flyA growA => ?_
    have JA : Inv X pins σ' H' { s' with heap := hpA } := J.landed botB flyA.1 (up.trans growA) osE agE
    obtain ⟨oA, fvA, atA, znA, flA⟩ := flyA.there
    have noFrame : ∀ {h : Heap} {o : Obj} {vs : Array Value}, h.FunFrames B (X.env :: X.outer) → h.get? a = some o → o.data = .fields vs → a ∉ frs (X.env :: X.outer) := fun {h o vs} ff e dd hmm => by
      obtain ⟨_, o', e', hnf⟩ := ff.mem hmm
      rw [e] at e'; cases e'
      exact hnf _ dd
    have offFr := noFrame flyA.2.2.1 atA flA
    have nL : a ≠ X.env.locals := fun z => offFr (List.mem_filterMap.mpr ⟨X.env, List.mem_cons_self, by rw [hf, z]⟩)
    have nF : a ∉ X.fs := fun hmm => by
      obtain ⟨e, he, q⟩ := List.mem_filterMap.mp hmm
      exact offFr (List.mem_filterMap.mpr ⟨e, List.mem_cons_of_mem _ he, q⟩)
    have nI : ∀ o, sI.heap.get? a = some o → False := fun o e => by
      have q := botB a o e (by rw [hs]; exact offFr)
      rw [flyA.2.1] at q
      cases q
    have n0 : X.s_0.heap.get? a = none := by
      cases e : X.s_0.heap.get? a with
      | none => rfl
      | some o =>
        obtain ⟨o', e'⟩ := J.base.there a o e (by rw [hex]; exact fun z => nomatch z)
        exact (nI o' e').elim
    have nC : ∀ x c, X.env.cells.lookup x = some c → c ≠ a := fun x c e z => by
      obtain ⟨v, o, ho, _⟩ := J.cell x c e
      rw [z] at ho
      exact nI o ho
    have nP : ∀ p ∈ X.pn ++ pins, p.1 ≠ a := fun p hp z => by
      have q := (J.pin p hp).1
      rw [z] at q
      exact nI _ q
    have SA := JA.suite atA flA frA nL nF
    refine wpAny_handleBy_cons (codeAny_handlers_test ?_) (by intro q; cases q)
    have lookT : PySem.W.Looks (model X.prog X.w) hpA (typeOf (.ref a)) cls := fun A Q E s k q => wpAny_typeOf_ref (k _ _ atA) (by rw [znA.1]; exact q)
    have lookM := PySem.W.exm_one (M := model X.prog X.w) (JA.kIn) lookT exB
    have asks : ∀ {Q : Value → Shared → Prop} {E : Value → Shared → Prop}, Q c { s' with heap := hpA } → wpAny (model X.prog X.w) (X.A.mark (some (.ref a))) (eval (.Name x np) X.env) Q E { s' with heap := hpA } := fun {Q E} q => by
      obtain ⟨hg, hdbg, hmm | ⟨hmm, hv, hnn⟩⟩ := hc
      · exact ld_glob (X := X.suite a ((a, oA) :: (X.pn ++ pins))) SA hg hmm q hdbg
      · exact ld_blt (X := X.suite a ((a, oA) :: (X.pn ++ pins))) SA hg hmm hv q hnn hdbg
    refine asks (lookM.here ?_)
    cases b with
    | true =>
      refine codeAny_handlers_suite_as ?_
      refine HandSPX.lands_againZ flyA fun hpB flyB growB => ?_
      have JB : Inv X pins σ' H' { s' with heap := hpB } := J.landed botB flyB.1 ((up.trans growA).trans growB) osE agE
      obtain ⟨oB, fvB, atB, znB, flB⟩ := flyB.there
      have SB4 := JB.suite atB flB frA nL nF
      refine store_ok (X := X.suite a ((a, oB) :: (X.pn ++ pins))) (v := .ref a) SB4 hN hi locN rfl (fun sS SS => ?_) (.inr hln)
      refine wpAny_mono ((hsu a oB cls d (X.pn ++ pins) znB ⟨_, flB⟩).run [] sS _ H' _ SS (yesB rfl a frA)) (fun f sT spq => ?_) (fun _ _ z => False.elim z)
      have endO : ∀ {σT : L2.St} {HT : Hp} {Q : Shared → Prop}, Inv (X.suite a ((a, oB) :: (X.pn ++ pins))) [] σT HT sT → (∀ sU, Inv X pins (σT.set i none) HT sU → Q sU) →
          wpAny (model X.prog X.w) X.A (do bindName X.env n .none; unbindBehindTheSuite X.env n pos') (fun _ sU => Q sU) X.xe sT := fun {σT HT Q} ST hq => gone_ok (ST.unsuite okX) hN hi hln hq
      have endT : ∀ {σT : L2.St} {HT : Hp} {Q : Shared → Prop}, Inv (X.suite a ((a, oB) :: (X.pn ++ pins))) [] σT HT sT → (∀ sU, Inv X pins (σT.set i none) (upd HT a (ExT a cls d)) sU → Q sU) →
          wpAny (model X.prog X.w) X.A (do bindName X.env n .none; unbindBehindTheSuite X.env n pos') (fun _ sU => Q sU) X.xe sT := fun {σT HT Q} ST hq => by
        obtain ⟨p1, p2, _⟩ := ST.pin (a, oB) (List.mem_append_left _ List.mem_cons_self)
        refine gone_ok (Inv.trackX (ST.unsuite okX) p1 p2 n0 nL nC nP (exT_ok p1 znB.1 znB.2.1 flB)) hN hi hln hq
      cases f with
      | next =>
        obtain ⟨σT, HT, ST, qT⟩ := spq
        exact endT ST fun sU JU => ⟨_, _, JU, qT⟩
      | brk =>
        obtain ⟨σT, HT, ST, qT⟩ := spq
        exact endO ST fun sU JU => ⟨_, _, JU, qT⟩
      | cont =>
        obtain ⟨σT, HT, ST, qT⟩ := spq
        exact endO ST fun sU JU => ⟨_, _, JU, qT⟩
      | ret u =>
        obtain ⟨vT, σT, HT, ST, rT, qT⟩ := spq
        exact endO ST fun sU JU => ⟨_, _, _, JU, rT, qT⟩
    | false =>
      show wpAny _ X.A (handleBy (.ref a) X.env []) _ _ _
      refine wpAny_handleBy_nil ?_
      obtain ⟨k1, k2, k3, oe, vs, T, oT, ts', he, hz, hd, h1, hr⟩ := id flyA
      unfold PySem.passOn
      refine wpAny_bind (wpAny_field he hd h1 ?_)
      rw [if_neg (show ¬ ((Value.ref T == Value.none) = true) from by simp)]
      have outW : wpAny (model X.prog X.w) X.A (setFlight (.ref a) X.env.frame) (fun _ s4 => wpAny (model X.prog X.w) X.A (throw (.ref a) : Sem Flow) (SP X pins D) X.xe s4) X.xe { s' with heap := hpA } := by
        rw [hf]
        refine HandSPX.setFlight_upZ flyA fun hpB heldB growB => wpAny_throw (tk _ _ ?_)
        exact ⟨a, B, sI, pins, σ', H', cls, d, rfl, J, botB, (up.trans growA).trans growB, .inr (.inr (by rw [hs]; exact heldB)), frA, osE, agE, noB rfl⟩
      first
        | exact wpAny_bind (wpAny_pure (wpAny_bind outW))
        | exact wpAny_bind outW
  · cases f with
    | next =>
      obtain ⟨σ', H', J0, q⟩ := spq
      exact wpAny_execs_nil ⟨σ', H', J0.ofTry okX, q⟩
    | brk =>
      obtain ⟨σ', H', J0, q⟩ := spq
      exact ⟨σ', H', J0.ofTry okX, q⟩
    | cont =>
      obtain ⟨σ', H', J0, q⟩ := spq
      exact ⟨σ', H', J0.ofTry okX, q⟩
    | ret u =>
      obtain ⟨v, σ', H', J0, r, q⟩ := spq
      exact ⟨v, σ', H', J0.ofTry okX, r, q⟩
end
end RT

set_option Elab.async false
set_option linter.all false
set_option maxRecDepth 100000
set_option maxHeartbeats 4000000
/-! isinstance, fields of an exception that was caught and kept -/
namespace PySem.W
open PyProof.Rows
section
variable {prog : Program} {w : World} {A : Around} {E : Value → Shared → Prop} {s : Shared} {K : Frag} {x D : Addr} {ox : Obj} {od : Option Obj}
theorem kin_classX {Q : Option Value → Shared → Prop} (dGet : findIn K (.ref D) "__getattribute__" = some (some (.builtin "BaseException.__getattribute__"))) (dAlt : findIn K (.ref D) "__getattr__" = some none) (dSub : subIn K (.ref D) (.type "BaseException") = some true)
    (dDic : hasDictIn K D = true) (dCls : findIn K (.ref D) "__class__" = some (some (.builtin "object.__class__")))
    (dDes : specialIn K (.builtin "object.__class__") "__get__" = some (some (.builtin "getset_descriptor.__get__"))) (dTak : takesIn K (.builtin "object.__class__") = some true) (dMro : mroIn K D (.type "object") = some true)
    (X : K.In s.heap) (I : InstAt s.heap x ox D od) (h : Q (some (.ref D)) { s with toks := s.toks + 1 }) : wpAny (model prog w) A (getAttr? (.ref x) "__class__") Q E s := by
  have isC : (clsIn K D).isSome = true := by obtain ⟨cd, hc, _⟩ := any_some dDic; rw [hc]; rfl
  have found : findObj K D od "__class__" = some (.bind (.builtin "getset_descriptor.__get__") (.builtin "object.__class__")) := by
    cases od with
    | none => exact findObj_dataN isC dCls dDes dTak
    | some o => exact findObj_data isC dCls dDes dTak
  obtain ⟨hq0, g, d, t, os⟩ := s
  have k0 := I.type (M := model prog w)
  have k1 := looks_findIn (M := model prog w) X dGet
  have k2 := looks_findIn (M := model prog w) X dAlt
  have k3 := looks_find (M := model prog w) X I found
  have below : Looks (model prog w) hq0 (isInstance (.ref x) (.type "BaseException")) true := k0.andThen (looks_subIn X dSub)
  have z0 : (false && onTheHeap (Value.builtin "BaseException.__getattribute__")) = false := rfl
  have z2 : (Value.builtin "BaseException.__getattribute__" == Value.builtin "object.__getattribute__") = false := by decide +kernel
  have z1 : (onTheHeap (Value.ref D) && Value.builtin "BaseException.__getattribute__" == Value.builtin "object.__getattribute__") = false := by rw [z2]; rfl
  unfold getAttr? getAttrBy? getAttrBy
  refine wpAny_bind (wpAny_mkText (wpAny_bind (wpAny_attempt (wpAny_holding (wpAny_bind (k0.at (wpAny_bind (k1.at ?_))))))))
  show wpAny _ _ (if (onTheHeap (Value.ref D) && Value.builtin "BaseException.__getattribute__" == Value.builtin "object.__getattribute__") = true then _ else _) _ _ _
  rw [z1, if_neg Bool.false_ne_true]
  unfold getAttrByItsOwn hookBefore
  refine wpAny_bind ?_
  rw [if_pos (show onTheHeap (Value.ref D) = true from rfl)]
  refine k2.at ?_
  refine wpAny_bind (wpAny_attempt (wpAny_holding ?_))
  unfold callGetattribute
  rw [z0, if_neg Bool.false_ne_true]
  unfold boundAndCalled
  rw [PySem.F.excAttr_ValueError.ga.bind (.ref x)]
  refine wpAny_bind (wpAny_pure ?_)
  show wpAny _ _ (call (.builtin "BaseException.__getattribute__") [.ref x, .str "__class__" t]) _ _ _
  refine wpAny_call (codeAny_call_builtin PySem.F.excAttr_ValueError.ga.plain PySem.F.entry_bexc_ga ?_)
  refine @check_slot (model prog w) _ _ ⟨hq0, g, d, t + 1, os⟩ "BaseException.__getattribute__" "BaseException" "__getattribute__" (.ref x) [.str "__class__" t] [] _ (by decide +kernel) (by decide +kernel) below (PySem.F.args_bexc_ga (.ref x) (.str "__class__" t)) ?_
  unfold Builtin.«object.__getattribute__»
  refine wpAny_bind (wpAny_of_eq (a := ((Value.ref x : Value), [Value.str "__class__" t])) (by first | rfl | (simp only [slotArgs]; rfl)) ?_)
  refine wpAny_bind (wpAny_pure (wpAny_bind (k0.at (wpAny_bind (k3.at ?_)))))
  show wpAny _ _ (holding [Value.builtin "object.__class__"] (call (.builtin "getset_descriptor.__get__") [.builtin "object.__class__", .ref x, .ref D]) >>= ret) _ _ _
  refine wpAny_bind (wpAny_holding (wpAny_call (class_get (s := ⟨hq0, g, d, t + 1, os⟩) (ox := ox) (od := od) X I dMro ?_)))
  refine wpAny_pure ?_
  show wpAny _ _ (handedOut (.ref D)) _ _ _
  rw [handedOut_of (v := .ref D) rfl]
  first
    | exact wpAny_pure (wpAny_pure h)
    | exact wpAny_pure h
    | exact wpAny_pure (wpAny_bind (wpAny_pure (wpAny_pure h)))
theorem kitx_excX (dGet : findIn K (.ref D) "__getattribute__" = some (some (.builtin "BaseException.__getattribute__"))) (dAlt : findIn K (.ref D) "__getattr__" = some none) (dSub : subIn K (.ref D) (.type "BaseException") = some true) (dDic : hasDictIn K D = true) (dCls : findIn K (.ref D) "__class__" = some (some (.builtin "object.__class__")))
    (dDes : specialIn K (.builtin "object.__class__") "__get__" = some (some (.builtin "getset_descriptor.__get__"))) (dTak : takesIn K (.builtin "object.__class__") = some true) (dMro : mroIn K D (.type "object") = some true) :
    KitX K (.ref x) (.ref D) (fun h => InstAt h x ox D od) where
  ty := fun _ _ _ I => I.type
  it := fun _ _ X _ => by
    obtain ⟨cdx, hcx, _⟩ := any_some dDic
    unfold clsIn at hcx
    split at hcx
    · rename_i c1 d1 cd1 sl1 hob
      intro A1 Q1 E1 s1 k q
      unfold isType loadHead
      exact wpAny_bind (wpAny_loadPart (k _ _ (X _ _ hob)) (wpAny_pure q))
    · cases hcx
  ne := fun h tp dd its n sl X htup => by
    obtain ⟨cdx, hcx, _⟩ := any_some dDic
    refine Bool.eq_false_iff.mpr fun q => ?_
    have e : D = tp := Value.ref.inj (beq_iff_eq.mp q)
    subst e
    unfold clsIn at hcx
    split at hcx
    · rename_i c1 d1 cd1 sl1 hob
      have z := (X _ _ hob).symm.trans htup
      cases z
    · cases hcx
  ca := fun X I k => kin_classX dGet dAlt dSub dDic dCls dDes dTak dMro X I k
end
end PySem.W
namespace RT
open PySem PySem.Spec PyProof.Rows L2
/-- a value's type, exceptions that were kept too -/
inductive TyY (K : PySem.W.Frag) (H : Hp) : V → Value → Prop where
  | base {x : V} {t : Value} (h : TyX K H x t) : TyY K H x t
  | exc0 {a D : Addr} (e : H a = some (ExT a (.ref D) none)) (c : ExcC K D) : TyY K H (.ref a) (.ref D)
  | exc1 {a D dd : Addr} {fs : List (Str × V)} (e : H a = some (ExT a (.ref D) (some dd))) (e2 : H dd = some (.xd fs)) (c : ExcC K D) : TyY K H (.ref a) (.ref D)
theorem exT_get {P : Program} {w : World} {H : Hp} {h : Heap} {a : Addr} {cls : Value} {d : Option Addr} (I : HOk P w H h) (e : H a = some (ExT a cls d)) : ∃ (oe : Obj) (vs : Array Value), h.get? a = some oe ∧ oe.cls = cls ∧ oe.dict = d ∧ oe.data = .fields vs := (I a _ e).1
section
variable {X : Cx} {pins : List (Addr × Obj)} {σ : L2.St} {H : Hp} {s : Shared}
theorem inst_of {a D : Addr} {d : Option Addr} {od : Option Obj} (I : Inv X pins σ H s) (e : H a = some (ExT a (.ref D) d)) (h : match d, od with | none, none => True | some dd, some o => s.heap.get? dd = some o | _, _ => False) : ∃ oe vs, PySem.W.InstAt s.heap a oe D od ∧ oe.data = .fields vs := by
  obtain ⟨oe, vs, he, h1, h2, h3⟩ := exT_get I.hok e
  refine ⟨oe, vs, ⟨he, h1, by unfold PySem.W.notCls; rw [h3] <;> rfl, ?_⟩, h3⟩
  rw [h2]
  cases d with
  | none =>
    cases od with
    | none => trivial
    | some o => exact h
  | some dd =>
    cases od with
    | none => exact h
    | some o => exact h
theorem kit_ofY {x : V} {u t : Value} (I : Inv X pins σ H s) (rx : RelV x u) (ty : TyY X.K H x t) : ∃ P : Heap → Prop, PySem.W.KitX X.K u t P ∧ P s.heap ∧ u ≠ .builtin "__main__.__loader__#opaque" := by
  cases ty with
  | base h => exact kit_of I rx h
  | @exc0 a D e c =>
    cases (show u = Value.ref a from rx)
    obtain ⟨oe, vs, J, _⟩ := inst_of (od := none) I e trivial
    exact ⟨_, PySem.W.kitx_excX c.hg c.hk c.hs c.hd c.ha c.hn c.ht c.hm, J, fun z => nomatch z⟩
  | @exc1 a D dd fs e e2 c =>
    cases (show u = Value.ref a from rx)
    obtain ⟨mA, hns, hr⟩ := (show ObjOk X.prog X.w H s.heap dd (.xd fs) from I.hok dd _ e2)
    obtain ⟨od, ho, _⟩ := lookIn_ns hns
    obtain ⟨oe, vs, J, _⟩ := inst_of (od := some od) I e ho
    exact ⟨_, PySem.W.kitx_excX c.hg c.hk c.hs c.hd c.ha c.hn c.ht c.hm, J, fun z => nomatch z⟩
/-- isinstance(x, c); isinstance(x, (c1, c2, ..)) -/
def rIsiY (K : PySem.W.Frag) : List V → Hp → VK → Prop := fun xs H Q => ∃ (x c : V) (t u : Value) (b : Bool), xs = [x, c] ∧ ClsV c u ∧ TyY K H x t ∧ PySem.W.kitOne K t u = some b ∧ Q (.bl b) H
def rIsiTY (K : PySem.W.Frag) : List V → Hp → VK → Prop := fun xs H Q => ∃ (x : V) (tp : Addr) (cs : List V) (t : Value) (us : List Value) (b : Bool), xs = [x, .ref tp] ∧ H tp = some (.tup cs) ∧ Paired ClsV cs us ∧ TyY K H x t ∧ PySem.W.kitAny K t us = some b ∧ Q (.bl b) H
theorem vals2' {x y : V} {us : List Value} (r : Vals [x, y] us) : ∃ u v, us = [u, v] ∧ RelV x u ∧ RelV y v := Vals.two r
theorem call_isiY : CallR X (.builtin "isinstance") (rIsiY X.K) := by
  intro pins s σ H xs us Q I r h
  obtain ⟨x, c, t, u, b, rfl, k, ty, e, q⟩ := h
  obtain ⟨u1, u2, rfl, r1, r2⟩ := vals2' r
  have e2 := k.eq r2
  subst e2
  obtain ⟨P, Z, p, hx⟩ := kit_ofY I r1 ty
  exact PySem.W.kia_one Z I.kIn p e hx fun tk => ⟨.bl b, H, I.tok tk, rfl, q⟩
theorem call_isiTY : CallR X (.builtin "isinstance") (rIsiTY X.K) := by
  intro pins s σ H xs us Q I r h
  obtain ⟨x, tp, cs, t, ws, b, rfl, hT, k, ty, e, q⟩ := h
  obtain ⟨u1, u2, rfl, r1, r2⟩ := vals2' r
  cases (show u2 = Value.ref tp from r2)
  obtain ⟨P, Z, p, hx⟩ := kit_ofY I r1 ty
  obtain ⟨_, its, rv, o, h1, h2, n, h3⟩ := (show ObjOk X.prog X.w H s.heap tp (.tup cs) from I.hok tp _ hT)
  have e3 := ClsV.all k rv
  subst e3
  obtain ⟨oc, od, dt, sl⟩ := o
  simp only at h2 h3
  subst h2 h3
  exact PySem.W.kia_tup Z I.kIn p h1 e hx fun tk => ⟨.bl b, H, I.tok tk, rfl, q⟩
/-- e.f of a kept exception -/
def tXfT (K : PySem.W.Frag) (f : Str) (te : TE) : TE := fun σ H Q => te σ H fun x H1 => ∃ (a C dd : Addr) (fs : List (Str × V)) (v : V), x = .ref a ∧ XfC K C ∧ PySem.W.findIn K (.ref C) f = some none ∧ H1 a = some (ExT a (.ref C) (some dd)) ∧ H1 dd = some (.xd fs) ∧ fs.lookup f = some v ∧ Q v H1
theorem pe_xfT {e : Expr} {te : TE} {pos : Pos} {n : Str} (he : PE X e te) (hb : attributeBase e n X.env (eval e X.env) = eval e X.env := by rfl) : PE X (.Attribute e n pos) (tXfT X.K n te) := by
  refine ⟨fun pins s σ H Q I h => ?_⟩
  refine attr_of hb (thn (he.run pins s σ H _ I h) fun u s1 hh => ?_)
  obtain ⟨x, H1, I1, rx, a, C, dd, fs, v, ex, T, hno, ea, ed, l, q⟩ := hh
  subst ex
  obtain rfl : u = Value.ref a := rx
  obtain ⟨mA, hns, hr⟩ := (show ObjOk X.prog X.w H1 s1.heap dd (.xd fs) from I1.hok dd _ ed)
  obtain ⟨od, ho, hl⟩ := lookIn_ns hns
  obtain ⟨u, hu, ru⟩ := RelO.some_of (v := v) (o := mA n) (by rw [← l]; exact hr n)
  obtain ⟨oe, vs, J, _⟩ := inst_of (od := some od) I1 ea ho
  exact HandSPX.exc_get I1.kIn J T.ga T.gg T.exC (PySem.W.findObj_own T.hdC hno rfl (by rw [hl, hu])) (handed_of ru) ⟨v, H1, I1.tok _, ru, q⟩
end
end RT

set_option Elab.async false
set_option linter.all false
set_option maxRecDepth 100000
set_option maxHeartbeats 4000000
namespace RT
open PySem PySem.Spec PyProof.Rows L2
section
variable {X : Cx} {e : Expr} {es : List Expr} {ta : TA} {p1 p2 pos : Pos}
/-- Base.__init__(self, ..), Base an own class over ValueError without an __init__ -/
theorem pe_ceinit {pl : Sem Bool} {x : Str} {C0 : Addr} {mc : Value} (hg : Gl X x) (hm : X.mg x = some (.ref C0)) (ga : PySem.W.specialIn X.K (.ref C0) "__getattribute__" = some (some (.builtin "type.__getattribute__")))
    (ty : PySem.W.typeIn X.K (.ref C0) = some mc) (hr : PySem.W.readsIn X.K C0 mc = true) (vV : PySem.W.findCls X.K (.ref C0) mc "__init__" = some (.val (.builtin "ValueError.__init__"))) (ha : PA X (e :: es) ta)
    (hc : eval (.Call (.Attribute (.Name x p1) "__init__" p2) (e :: es) [] pos) X.env = (do
      let ov ← eval (.Name x p1) X.env
      standAt p2.atName
      let (f, first) ← holding [ov] (getMethod ov "__init__" pl)
      callWith pos f first (backTo pos (starEach (e :: es) X.env)) (backToKw pos (keywordEach [] X.env))) := by rfl)
    (he : starEach (e :: es) X.env = (false, eval e X.env) :: starEach es X.env := by rfl) (hpl : (backTo pos (starEach es X.env)).any (·.1) = false := by rfl) (hdb : (x == ("__debug__" : Str)) = false := by decide) :
    PE X (.Call (.Attribute (.Name x p1) "__init__" p2) (e :: es) [] pos) (tVeI X.K ta) := by
  refine ⟨fun pins s σ H Q I h => ?_⟩
  refine PySem.W.methodCall_KW (ld_glob I hg hm ?_ hdb) hc
  obtain ⟨m, fr⟩ := I.fr
  refine PySem.W.method_of_cls fr I.ok.mod.kin ga (PySem.W.cls_val fr I.ok.mod.kin ty hr vV (by decide +kernel) ?_)
  show wpAny _ _ (callWith pos (Value.builtin "ValueError.__init__") [] (backTo pos (starEach (e :: es) X.env)) []) _ _ _
  refine PyProof.Rows.callWith_method1 (thn (ha.run pos pins _ σ H _ (I.tok _) h) fun us s1 ⟨vs, H1, I1, r1, a, C, ws, ev, hl, T, ea, q⟩ => ?_) he hpl
  subst ev
  cases r1 with
  | @cons _ u0 _ ur ra rw' =>
    obtain rfl : u0 = Value.ref a := ra
    have hlen : ur.length ≤ sizeLine := by
      rw [← Paired.length rw', sizeLine_eq]
      omega
    exact oinit_ok T I1 ea hlen fun s' J => ⟨.non, H1, J, rfl, q⟩
end
end RT

set_option Elab.async false
set_option linter.all false
set_option maxRecDepth 100000
set_option maxHeartbeats 4000000
/-! further rules: repr of an int or None, {x} of None, max(.., default=), powers of greater ints, s * n -/
namespace RT
open PySem PySem.Spec PyProof.Rows L2
section
variable {X : Cx}
theorem vals1' {x : V} {us : List Value} (r : Vals [x] us) : ∃ u, us = [u] ∧ RelV x u := Vals.one r
/-- repr(n), repr(None) -/
def rRepr0 : List V → Hp → VK → Prop := fun xs H Q => (∃ i, xs = [.int i] ∧ i.natAbs.log2 < 1920 ∧ Q (.str (toString i)) H) ∨ (xs = [.non] ∧ Q (.str "None") H)
theorem call_repr0 : CallR X (.builtin "repr") rRepr0 := by
  intro pins s σ H xs us Q I r h
  rcases h with ⟨i, rfl, hz, q⟩ | ⟨rfl, q⟩
  · obtain ⟨u, rfl, t, rfl⟩ := vals1' r
    exact PySem.P.repr_of_int hz ⟨.str _, H, I.tok _, ⟨_, rfl⟩, q⟩
  · obtain ⟨u, rfl, e⟩ := vals1' r
    obtain rfl : u = Value.none := e
    exact PySem.P.repr_of_none ⟨.str _, H, I.tok _, ⟨_, rfl⟩, q⟩
/-- {x}: a text, an int, None -/
def tFmt0 (te : TE) : TE := fun σ H Q => te σ H fun x H1 => (∃ y : Str, x = .str y ∧ y.length ≤ sizeLine ∧ Q (.str y) H1) ∨ (∃ i : Int, x = .int i ∧ i.natAbs.log2 < 1920 ∧ Q (.str (toString i)) H1) ∨ (x = .non ∧ Q (.str "None") H1)
theorem pe_fmt0 {e : Expr} {te : TE} {pos : Pos} (he : PE X e te) : PE X (.FormattedValue e (-1) none pos) (tFmt0 te) := by
  refine ⟨fun pins s σ H Q I h => ?_⟩
  refine wpAny_FormattedValue_plain (thn (he.run pins s σ H _ I h) fun v s1 hv => ?_)
  obtain ⟨x, H1, I1, r1, q⟩ := hv
  rcases q with ⟨y, rfl, hz, q⟩ | ⟨i, rfl, hz, q⟩ | ⟨rfl, q⟩
  · obtain ⟨t, rfl⟩ := r1
    exact wpAny_formatField_str ⟨.str y, H1, I1, ⟨t, rfl⟩, q⟩ ⟨.str y, H1, I1.tok _, ⟨_, rfl⟩, q⟩ hz
  · obtain ⟨t, rfl⟩ := r1
    exact wpAny_formatField_int hz ⟨.str (toString i), H1, I1.tok _, ⟨_, rfl⟩, q⟩
  · obtain rfl : v = Value.none := r1
    exact wpAny_formatField_none ⟨.str _, H1, I1.tok _, ⟨_, rfl⟩, q⟩
/-- max(xs, default=d) of ints -/
def maxI (d : Int) : List Int → Int
  | [] => d
  | n :: ns => ns.foldl max n
def rMaxD (K : PySem.W.Frag) : List V → List V → Hp → VK → Prop := fun xs zs H Q => ∃ (a : Addr) (ns : List Int) (d : Int), xs = [.ref a] ∧ zs = [.int d] ∧ SqL K H a (ns.map V.int) ∧ Q (.int (maxI d ns)) H
theorem alike_ints (ns : List Int) : PySem.W.AlikeAll (ns.map PyData.int) := by
  refine ⟨fun x hx y hy => ?_, fun x hx => ?_⟩
  · obtain ⟨i, _, rfl⟩ := List.mem_map.mp hx
    obtain ⟨j, _, rfl⟩ := List.mem_map.mp hy
    rfl
  · obtain ⟨i, _, rfl⟩ := List.mem_map.mp hx
    exact fun z => nomatch z
theorem depth_ints : ∀ ns : List Int, PyData.depthAll (ns.map PyData.int) ≤ 1
  | [] => by simp [PyData.depthAll]
  | n :: ns => by
    have h := depth_ints ns
    simp only [List.map_cons, PyData.depthAll, PyData.depth]
    omega
theorem crk_maxD (hc : X.calm = true) (hu : X.A.units + 64 < cLine) : CallRK X (.builtin "max") ["default"] (rMaxD X.K) := by
  intro pins s σ H xs zs us ws Q I rx rz h
  obtain ⟨a, ns, d, rfl, rfl, hs, q⟩ := h
  obtain ⟨u, rfl, e⟩ := vals1' rx
  obtain rfl : u = Value.ref a := e
  obtain ⟨z, rfl, t, rfl⟩ := vals1' rz
  obtain ⟨its, rv, hl0, _⟩ := I.list hs
  have hl := hl0.isList
  have hr := PySem.W.readsAll_of_ints (h := s.heap) rv.ints
  have hd := depth_ints ns
  refine PySem.W.max_list_default (I.ok.hd hc) hl (by simpa using hr) (alike_ints ns) (by omega) (fun e0 h' tk k => ?_) fun y ys i v h' tk bs e hv hR k => ?_
  · have en : ns = [] := List.map_eq_nil_iff.mp e0
    subst en
    exact ⟨.int d, H, I.kept k, ⟨_, rfl⟩, q⟩
  · cases ns with
    | nil => cases e
    | cons n ns =>
      obtain ⟨rfl, rfl⟩ := List.cons.inj e
      rw [PySem.W.maxD_ints] at hR
      cases hR
      exact ⟨.int _, H, I.kept k, ⟨_, rfl⟩, q⟩
/-- a ** b of greater ints -/
def CPowW (i j : Int) : Prop := 0 ≤ j ∧ (Builtin.Int.intBits i : Int) * j ≤ 2 ^ 27
theorem op_powW : OpR X (binaryOp .Pow) (rI CPowW fun i j => .int (i ^ j.toNat)) := opI fun _ _ _ _ _ _ _ hc q => PyProof.Rows.pow_int hc.1 hc.2 q
/-- s * n -/
def rMulS : R2 := fun x y H Q => ∃ z n, x = .str z ∧ y = .int n ∧ PySem.MulOk z n ∧ Q (.str (PySem.Txt.mul z n)) H
theorem op_mulS : OpR X (binaryOp .Mult) rMulS := by
  intro pins s σ H x y v u Q I rx ry h
  obtain ⟨z, n, rfl, rfl, ok, q⟩ := h
  obtain ⟨t, rfl⟩ := rx
  obtain ⟨t', rfl⟩ := ry
  exact SB.mul ok fun t2 k => ⟨.str _, H, I.tok k, ⟨_, rfl⟩, q⟩
end
end RT

set_option Elab.async false
set_option linter.all false
set_option maxRecDepth 100000
set_option maxHeartbeats 4000000
/-! operators, len, in, == by an own class's methods -/
namespace PySem.W
open Lean Elab Tactic Meta PySem PySem.Calls PyProof.Rows
section
variable {prog : Program} {w : World} {A : Around} {E : Value → Shared → Prop} {s : Shared} {K : Frag} {x C L f : Addr} {h₀ : Heap} {m : Str → Option Value} {ox : Obj} {od : Option Obj} {T : String}
theorem rt_binT {op : Operator} {b : Value} {fo ro rc : Option Value} {Q : Value → Shared → Prop} (F : Fr h₀ L s.heap m) (X₀ : K.In h₀) (I : InstAt s.heap x ox C od) (bT : Looks (model prog w) s.heap (typeOf b) (.type T)) (cF : selfFirst K C = true)
    (sF : findIn K (.ref C) (PySem.dunder op.info.2) = some (some (.ref f))) (fF : isFn K (.ref f) = true) (rF : findIn K (.ref C) (dunderR op.info.2) = some rc) (pF : rc = none ∨ ∃ g : Addr, rc = some (.ref g))
    (h1 : findIn K (.type T) (PySem.dunder op.info.2) = some fo) (h2 : findIn K (.type T) (dunderR op.info.2) = some ro) (uF : subIn K (.type T) (.ref C) = some false)
    (h : wpAny (model prog w) A (call (.ref f) [.ref x, b]) (CmpBack Q) E s) : wpAny (model prog w) A (binaryOp op (.ref x) b) Q E s := by
  have X := X₀.keeps F.keep
  obtain ⟨cdx, more, cdE, mroE⟩ := ksp_first cF
  rcases inf : op.info with ⟨sym, nm1⟩
  rw [inf] at sF rF h1 h2
  dsimp only at sF rF h1 h2
  have tried := ksp_try X I sF fF h
  obtain ⟨hp0, g, d, tk0, os⟩ := s
  have k1 : Looks (model prog w) hp0 (typeOf (.ref x)) (.ref C) := I.type
  have k2 : Looks (model prog w) hp0 (typeOf b) (.type T) := bT
  have k3 : Looks (model prog w) hp0 (fillsNumberSlot (.ref C) nm1) true := fills_K X cdE mroE sF
  have k4 : Looks (model prog w) hp0 (fillsNumberSlot (.type T) nm1) ((fo.isSome && !isSeqSlot fo) || (ro.isSome && !isSeqSlot ro)) := ksp_fillsT X h1 h2
  have k5 : Looks (model prog w) hp0 (isSubtype (.type T) (.ref C)) false := looks_subIn X uF
  have k6 : Looks (model prog w) hp0 (numberSlotInPython (.ref C) nm1) true := ksp_inPy X sF rF pF
  have k7 : Looks (model prog w) hp0 (numberSlotInPython (.type T) nm1) false := Looks.of_pure rfl
  have k8 : Looks (model prog w) hp0 (typeLookup (.type T) (dunderR nm1)) ro := looks_findIn X h2
  generalize ((fo.isSome && !isSeqSlot fo) || (ro.isSome && !isSeqSlot ro)) = side at k4
  have apart : (Value.ref C == Value.type T) = false := Bool.eq_false_iff.mpr fun q => by cases beq_iff_eq.mp q
  simp only [binaryOp, inf]
  refine wpAny_holding (wpAny_bind ?_)
  unfold binaryOp1
  refine wpAny_bind (k1.at (wpAny_bind (k2.at (wpAny_bind (k3.at ?_)))))
  simp only [apart, Bool.false_eq_true, if_false]
  cases side with
  | false =>
    ksp_lk
    refine wpAny_mono tried (fun r s' hrr => ?_) fun _ _ e => e
    obtain ⟨v, rfl, hqq⟩ := hrr
    ksp_lk
    exact hqq
  | true =>
    ksp_lk
    refine wpAny_mono tried (fun r s' hrr => ?_) fun _ _ e => e
    obtain ⟨v, rfl, hqq⟩ := hrr
    ksp_lk
    exact hqq
end
end PySem.W
namespace RT
open PySem PySem.Spec PyProof.Rows L2
section
variable {X : Cx} {CX : CXT} {k : Nat} {C f : Addr} {fd : FuncData} {ps : List Str} {sp : Sp} {E : XK}
/-- what is asked of an own operator's class beside its method, for a right operand of a built-in type -/
structure RightT (K : PySem.W.Frag) (C : Addr) (op : Operator) (T : String) : Prop where
  r0 : PySem.W.findIn K (.ref C) (dunderR op.info.2) = some none
  t1 : ∃ fo, PySem.W.findIn K (.type T) (PySem.dunder op.info.2) = some fo
  t2 : ∃ ro, PySem.W.findIn K (.type T) (dunderR op.info.2) = some ro
  sb : PySem.W.subIn K (.type T) (.ref C) = some false
/-- x op y, x an instance of the class at C, y one too, or of a built-in type -/
def rBinO (K : PySem.W.Frag) (C : Addr) (op : Operator) (sp : Sp) (E : XK) : R2 := fun x y H Q => ∃ a dx fs, x = .ref a ∧ H a = some (.ins C dx fs) ∧ ((∃ b dy gs, y = .ref b ∧ H b = some (.ins C dy gs)) ∨ ∃ T, TyY K H y (.type T) ∧ RightT K C op T) ∧ sp [x, y] H Q E
theorem op_binO {op : Operator} (hc : PySem.W.selfFirst X.K C = true) (hm : Meth X.K C (PySem.dunder op.info.2) f) (F : FnOk X.prog X.w X.K X.mg X.base CX k f fd ps sp) (hr : Room k X.A) (hb : Binds X.K fd ps []) (hx : Passes CX X E) : OpR X (binaryOp op) (rBinO X.K C op sp E) := by
  intro pins s σ H x y v u Q I rx ry h
  obtain ⟨a, dx, fs, rfl, ea, ty, q⟩ := h
  cases (show v = Value.ref a from rx)
  obtain ⟨mA, O, _⟩ := ins_get I.hok ea
  obtain ⟨od, J, _⟩ := O.look
  obtain ⟨m, hF⟩ := I.fr
  have go : wpAny (model X.prog X.w) X.A (call (.ref f) [.ref a, u]) (PySem.W.CmpBack (EP X pins σ Q)) X.xe s := by
    refine wpAny_mono (run_fn (ds := []) (dvs := []) F hr hb .nil hx I (vs := [.ref a, y]) (.cons rfl (.cons ry .nil)) q) (fun w s' z => ?_) fun _ _ x => x
    obtain ⟨z', H', I', rz, qz⟩ := z
    exact SlX.cmpback rz ⟨z', H', I', rz, qz⟩
  rcases ty with ⟨b, dy, gs, rfl, eb⟩ | ⟨T, ty, R⟩
  · cases (show u = Value.ref b from ry)
    obtain ⟨mB, O', _⟩ := ins_get I.hok eb
    obtain ⟨od', J', _⟩ := O'.look
    exact PySem.W.binop_K hF I.ok.mod.kin J J'.type hc hm.at_ hm.fn go
  · obtain ⟨P, Z, p, _⟩ := kit_ofY I ry ty
    obtain ⟨fo, t1⟩ := R.t1
    obtain ⟨ro, t2⟩ := R.t2
    exact PySem.W.rt_binT hF I.ok.mod.kin J (Z.ty _ _ I.kIn p) hc hm.at_ hm.fn R.r0 (.inl rfl) t1 t2 R.sb go
/-- -x, ~x -/
def rUnO (C : Addr) (sp : Sp) (E : XK) : V → Hp → VK → Prop := fun x H Q => ∃ a dx fs, x = .ref a ∧ H a = some (.ins C dx fs) ∧ sp [x] H Q E
theorem un_negO (hm : Meth X.K C "__neg__" f) (F : FnOk X.prog X.w X.K X.mg X.base CX k f fd ps sp) (hr : Room k X.A) (hb : Binds X.K fd ps []) (hx : Passes CX X E) : UnR X (unaryOp .USub) (rUnO C sp E) := by
  intro pins s σ H x v Q I rx h
  obtain ⟨a, dx, fs, rfl, ea, q⟩ := h
  cases (show v = Value.ref a from rx)
  obtain ⟨mA, O, _⟩ := ins_get I.hok ea
  obtain ⟨od, J, _⟩ := O.look
  obtain ⟨m, hF⟩ := I.fr
  exact PySem.W.ksp_neg hF I.ok.mod.kin J hm.at_ hm.fn (run_fn (ds := []) (dvs := []) F hr hb .nil hx I (vs := [.ref a]) (.cons rfl .nil) q)
theorem un_invO (hm : Meth X.K C "__invert__" f) (F : FnOk X.prog X.w X.K X.mg X.base CX k f fd ps sp) (hr : Room k X.A) (hb : Binds X.K fd ps []) (hx : Passes CX X E) : UnR X (unaryOp .Invert) (rUnO C sp E) := by
  intro pins s σ H x v Q I rx h
  obtain ⟨a, dx, fs, rfl, ea, q⟩ := h
  cases (show v = Value.ref a from rx)
  obtain ⟨mA, O, _⟩ := ins_get I.hok ea
  obtain ⟨od, J, _⟩ := O.look
  obtain ⟨m, hF⟩ := I.fr
  exact PySem.W.ksp_inv hF I.ok.mod.kin J hm.at_ hm.fn (run_fn (ds := []) (dvs := []) F hr hb .nil hx I (vs := [.ref a]) (.cons rfl .nil) q)
/-- x == y by x's own __eq__, y of any kind that does not go first -/
def rEqO (K : PySem.W.Frag) (C : Addr) (sp : Sp) (E : XK) : R2 := fun x y H Q => ∃ a dx fs t, x = .ref a ∧ H a = some (.ins C dx fs) ∧ ((∃ b dy gs, y = .ref b ∧ H b = some (.ins C dy gs) ∧ t = .ref C) ∨ TyY K H y t) ∧ PySem.W.notFirst K C t = true ∧ sp [x, y] H Q E
theorem op_eqO {op : CmpOp} (hop : ∀ a b, compareOp op a b = richCompare op a b) (hm : Meth X.K C (cmpInfo op).2.1 f) (F : FnOk X.prog X.w X.K X.mg X.base CX k f fd ps sp) (hr : Room k X.A) (hb : Binds X.K fd ps []) (hx : Passes CX X E) :
    OpR X (compareOp op) (rEqO X.K C sp E) := by
  intro pins s σ H x y v u Q I rx ry h
  obtain ⟨a, dx, fs, t, rfl, ea, ty, hn, q⟩ := h
  cases (show v = Value.ref a from rx)
  obtain ⟨mA, O, _⟩ := ins_get I.hok ea
  obtain ⟨od, J, _⟩ := O.look
  obtain ⟨m, hF⟩ := I.fr
  have L : PySem.W.Looks (model X.prog X.w) s.heap (typeOf u) t := by
    rcases ty with ⟨b, dy, gs, rfl, eb, rfl⟩ | ty
    · cases (show u = Value.ref b from ry)
      obtain ⟨mB, O', _⟩ := ins_get I.hok eb
      obtain ⟨od', J', _⟩ := O'.look
      exact J'.type
    · obtain ⟨P, Z, p, _⟩ := kit_ofY I ry ty
      exact Z.ty _ _ I.kIn p
  rw [hop]
  refine PySem.W.cmp_K (op := op) (tb := t) hr.units0 hF I.ok.mod.kin J L hn hm.at_ hm.fn ?_
  refine wpAny_mono (run_fn (ds := []) (dvs := []) F hr hb .nil hx I (vs := [.ref a, y]) (.cons rfl (.cons ry .nil)) q) (fun w s' z => ?_) fun _ _ x => x
  obtain ⟨z', H', I', rz, qz⟩ := z
  exact SlX.cmpback rz ⟨z', H', I', rz, qz⟩
/-- y in x by x's own __contains__, which hands back a bool -/
def rInO (C : Addr) (sp : Sp) (E : XK) (neg : Bool) : R2 := fun y x H Q => ∃ a dx fs, x = .ref a ∧ H a = some (.ins C dx fs) ∧ sp [x, y] H (fun v H' => ∃ b, v = .bl b ∧ Q (.bl (if neg then !b else b)) H') E
theorem op_inO (hm : Meth X.K C "__contains__" f) (F : FnOk X.prog X.w X.K X.mg X.base CX k f fd ps sp) (hr : Room k X.A) (hb : Binds X.K fd ps []) (hx : Passes CX X E) : OpR X (compareOp .In) (rInO C sp E false) := by
  intro pins s σ H y x u v Q I ry rx h
  obtain ⟨a, dx, fs, rfl, ea, q⟩ := h
  cases (show v = Value.ref a from rx)
  obtain ⟨mA, O, _⟩ := ins_get I.hok ea
  obtain ⟨od, J, _⟩ := O.look
  obtain ⟨m, hF⟩ := I.fr
  refine PySem.W.in_K hF I.ok.mod.kin J hm.at_ hm.fn (wpAny_mono (run_fn (ds := []) (dvs := []) F hr hb .nil hx I (vs := [.ref a, y]) (.cons rfl (.cons ry .nil)) q) (fun w s' z => ?_) fun _ _ x => x)
  obtain ⟨z', H', I', rz, b, rfl, qz⟩ := z
  cases (show w = Value.bool b from rz)
  exact wpAny_truthy_bool ⟨.bl b, H', I', rfl, qz⟩
theorem op_notInO (hm : Meth X.K C "__contains__" f) (F : FnOk X.prog X.w X.K X.mg X.base CX k f fd ps sp) (hr : Room k X.A) (hb : Binds X.K fd ps []) (hx : Passes CX X E) : OpR X (compareOp .NotIn) (rInO C sp E true) := by
  intro pins s σ H y x u v Q I ry rx h
  obtain ⟨a, dx, fs, rfl, ea, q⟩ := h
  cases (show v = Value.ref a from rx)
  obtain ⟨mA, O, _⟩ := ins_get I.hok ea
  obtain ⟨od, J, _⟩ := O.look
  obtain ⟨m, hF⟩ := I.fr
  refine PySem.W.notIn_K hF I.ok.mod.kin J hm.at_ hm.fn (wpAny_mono (run_fn (ds := []) (dvs := []) F hr hb .nil hx I (vs := [.ref a, y]) (.cons rfl (.cons ry .nil)) q) (fun w s' z => ?_) fun _ _ x => x)
  obtain ⟨z', H', I', rz, b, rfl, qz⟩ := z
  cases (show w = Value.bool b from rz)
  exact wpAny_truthy_bool ⟨.bl (!b), H', I', rfl, qz⟩
/-- len(x) by x's own __len__ -/
def rLenO (C : Addr) (sp : Sp) (E : XK) : List V → Hp → VK → Prop := fun xs H Q => ∃ a dx fs, xs = [.ref a] ∧ H a = some (.ins C dx fs) ∧ sp [.ref a] H (fun v H' => ∃ n, v = .int n ∧ 0 ≤ n ∧ n < 2 ^ 63 ∧ Q (.int n) H') E
theorem call_lenO (hm : Meth X.K C "__len__" f) (F : FnOk X.prog X.w X.K X.mg X.base CX k f fd ps sp) (hr : Room (k + 1) X.A) (hb : Binds X.K fd ps []) (hx : Passes CX X E) : CallR X (.builtin "len") (rLenO C sp E) := by
  intro pins s σ H xs us Q I r h
  obtain ⟨a, dx, fs, rfl, ea, q⟩ := h
  obtain ⟨u, rfl, ru⟩ := vals1' r
  cases (show u = Value.ref a from ru)
  obtain ⟨mA, O, _⟩ := ins_get I.hok ea
  obtain ⟨od, J, _⟩ := O.look
  obtain ⟨m, hF⟩ := I.fr
  have r2 : Vals [V.ref a] [Value.ref a] := .cons rfl .nil
  have hl : ([Value.ref a] : List Value).length = ps.length := by
    rw [← r2.length]
    exact F.len _ _ _ _ q
  refine PySem.W.len_K hF I.ok.mod.kin J hm.at_ hm.fn (wpAny_call (codeAny_mono (F.run X.A.in1 X.stack s H ⟨[.ref a], []⟩ [.ref a] [.ref a] _ E hr.in1 I.env0.in1 (by simpa using hb s [.ref a] I.kIn (by simpa using hl)) r2 q) fun r s' hq => ?_))
  cases r with
  | error er => exact hx pins σ H s er s' I hq
  | ok fl =>
    cases fl with
    | ret u =>
      obtain ⟨v, H', I', rv, n, rfl, n0, n1, qz⟩ := I.after hq
      obtain ⟨t, rfl⟩ := (show ∃ t, u = Value.int n t from rv)
      exact ⟨⟨n0, n1⟩, .int n, H', I'.tok _, ⟨_, rfl⟩, qz⟩
    | next => exact False.elim hq
    | brk => exact False.elim hq
    | cont => exact False.elim hq
end
end RT

set_option Elab.async false
set_option linter.all false
set_option maxRecDepth 100000
set_option maxHeartbeats 4000000
/-! defs that are called where nothing is being shown: repr of lists and tuples -/
namespace RT
open PySem PySem.Spec PyProof.Rows L2
/-- as FnOk, where no repr runs around -/
structure FnG (P : Program) (w : World) (K : PySem.W.Frag) (mg : Str → Option Value) (base : Heap) (CX : CXT) (k : Nat) (f : Addr) (fd : FuncData) (ps : List Str) (sp : Sp) : Prop where
  len : ∀ vs H Q E, sp vs H Q E → vs.length = ps.length
  go : ∀ (A : Around) (outer : List Env) (s : Shared) (H : Hp) (args : Args) (us : List Value) (vs : List V) (Q : VK) (E : XK), A.guards = some [] → Room k A → Env0 P w K mg base A outer s H → BindsTo s fd args (ps.zip us) → Vals vs us → sp vs H Q E →
    codeAny (model P w) A (.call (.ref f) args) (CR CX outer P w H s Q E) s
theorem FnG.of {P : Program} {w : World} {K : PySem.W.Frag} {mg : Str → Option Value} {base : Heap} {CX : CXT} {k : Nat} {f : Addr} {fd : FuncData} {ps : List Str} {sp : Sp} (F : FnOk P w K mg base CX k f fd ps sp) : FnG P w K mg base CX k f fd ps sp :=
  ⟨F.len, fun A outer s H args us vs Q E _ => F.run A outer s H args us vs Q E⟩
theorem fnG_of {CX : CXT} {P : Program} {w : World} {K : PySem.W.Frag} {mg : Str → Option Value} {base : Heap} {k : Nat} {f : Addr} {name qual : Str} {params : Arguments} {body : List Stmt} {scope : Scope} {dV kV doc pm cdv ct oc : Value} {an od : Option Addr}
    {osl : Array (Option Value)} {N ps : List Str} {sp : Sp} (at_ : K.lookup f = some ⟨oc, od, .func (PySem.W.fnOf name qual params body scope dV kV doc pm an cdv ct), osl⟩) (code : PySem.W.codeIn K cdv qual = true) (S : FnScope N ps scope)
    (len : ∀ vs H Q E, sp vs H Q E → vs.length = ps.length)
    (walk : ∀ (A : Around) (outer : List Env) (s : Shared) (H : Hp) (vs : List V) (Q : VK) (E : XK), A.guards = some [] → Room k (A.deeper (envOfC qual scope s.heap.objs.size f cdv)) → sp vs H Q E →
      ∃ t, PSs (cxOf CX P w K mg base N qual scope f cdv A outer s H E) body t ∧ t { nx := fun _ H' => Q .non H', rt := Q } (start N vs) H) :
    FnG P w K mg base CX (k + 1) f (PySem.W.fnOf name qual params body scope dV kV doc pm an cdv ct) ps sp where
  len := len
  go := fun A outer s H args us vs Q E hg room env binds vals said => by
    have size := len _ _ _ _ said
    have here : K.In s.heap := env.mod.kin.keeps fun b o e => (env.bs b o e).1
    have free : s.heap.NoLimit := env.mod.nolimit.keeps fun b o e => (env.bs b o e).1
    have kinds : ∀ y ∈ ps.zip us, scope.names.lookup y.1 = some .local ∨ (scope.names.lookup y.1 = some .cell ∧ ((cellsFrom (s.heap.objs.size + 1) scope.names []).lookup y.1).isSome = true) := by
      rintro ⟨n, v⟩ hy
      exact (S.par n (List.of_mem_zip hy).1).imp id fun q => ⟨q, PySem.W.cellsFrom_some _ _ _ (.inl q)⟩
    refine codeAny_call_function room.depth (here _ _ at_) rfl S.co S.gen rfl (PySem.W.codeRec_of here code) (binds _ _ _ _ ?_)
    refine wpAny_newFunctionEnv_cells S.kind kinds fun e1 he s1 x => ?_
    subst he
    obtain ⟨t, ht, hq⟩ := walk A outer s H vs Q E hg (room.deeper _) said
    refine ⟨free.keeps x.toInCall.keep, codeAny_func ?_⟩
    refine wpAny_mono (ht.run [] s1 (start N vs) H _ (inv_start S room.hd env size vals x) hq) (fun fl s' done => ?_) fun _ _ z => z
    match fl, done with
    | .ret u, ⟨v, _, H', J, rv, q⟩ => exact ⟨v, H', J.os, J.bare, J.base, J.hok, rv, q⟩
    | .next, ⟨_, H', J, q⟩ => exact ⟨V.non, H', J.os, J.bare, J.base, J.hok, rfl, q⟩
    | .brk, ⟨_, _, _, q⟩ => exact q.elim
    | .cont, ⟨_, _, _, q⟩ => exact q.elim
section
variable {P : Program} {w : World} {K : PySem.W.Frag} {mg : Str → Option Value} {base : Heap} {CX : CXT}
/-- a def of the text keeps its promise where nothing is being shown -/
theorem okG {x qual : Str} {pa : Arguments} {bd : List Stmt} {sc : Scope} {dvs : List V} {kws : List (Str × V)} {f : Addr} {fd : FuncData} {N ps : List Str} {k : Nat} {sp : Sp} (F : FunD K x qual pa bd sc dvs kws f fd) (S : FnScope N ps sc) (len : ∀ vs H Q E, sp vs H Q E → vs.length = ps.length)
    (walk : ∀ (cdv : Value) (A : Around) (outer : List Env) (s : Shared) (H : Hp) (vs : List V) (Q : VK) (E : XK), A.guards = some [] → Room k (A.deeper (envOfC qual sc s.heap.objs.size f cdv)) → sp vs H Q E →
      ∃ t, PSs (cxOf CX P w K mg base N qual sc f cdv A outer s H E) bd t ∧ t { nx := fun _ H' => Q .non H', rt := Q } (start N vs) H) : FnG P w K mg base CX (k + 1) f fd ps sp := by
  obtain ⟨oc, od, dV, kV, doc, pm, an, cdv, ct, osl, rfl, lk, hcd, _, _⟩ := F.ex
  exact fnG_of lk hcd S len fun A outer s H vs Q E hg hr h => walk cdv A outer s H vs Q E hg hr h
end
section
variable {X : Cx} {CX : CXT} {k : Nat} {f : Addr} {fd : FuncData} {ps : List Str} {sp : Sp} {dvs : List V} {ds : List Value} {E : XK} {e : Expr} {es : List Expr} {t : TA} {x : Str} {p pos : Pos}
theorem pe_callG (F : FnG X.prog X.w X.K X.mg X.base CX k f fd ps sp) (hG : X.A.guards = some []) (hr : Room k X.A) (hg : Gl X x) (hm : X.mg x = some (.ref f)) (hk : PySem.W.keepIn X.K (.ref f) = true) (hb : Binds X.K fd ps ds) (hd : Vals dvs ds) (hx : Passes CX X E)
    (ha : PA X (e :: es) t) (hdb : (x == ("__debug__" : Str)) = false := by decide) (he : starEach (e :: es) X.env = (false, eval e X.env) :: starEach es X.env := by rfl) (hpl : (backTo pos (starEach es X.env)).any (·.1) = false := by rfl) :
    PE X (.Call (.Name x p) (e :: es) [] pos) (tCall sp dvs E t) := by
  refine ⟨fun pins s σ H Q I h => wpAny_Call_Name_kw (ld_glob I hg hm ?_ hdb)⟩
  refine PySem.W.callWith_K (h₀ := X.base) I.ok.mod.kin hk (thn (ha.run pos pins s σ H _ I h) fun us s1 ⟨vs, H1, I1, r, q⟩ => ⟨I1.kIn, ?_⟩) he hpl
  have r2 := r.append hd
  have hl : (us ++ ds).length = ps.length := r2.length.symm.trans (F.len _ _ _ _ q)
  refine wpAny_call (codeAny_mono (F.go X.A X.stack s1 H1 ⟨us, []⟩ (us ++ ds) (vs ++ dvs) Q E hG hr I1.env0 (hb s1 us I1.kIn hl) r2 q) fun r s' hq => ?_)
  match r, hq with
  | .error e, hq => exact hx pins σ H1 s1 e s' I1 hq
  | .ok (.ret u), hq => exact I1.after hq
/-- repr of data at any depth -/
def rReprD (K : PySem.W.Frag) : List V → Hp → VK → Prop := fun xs H Q => ∃ (a : Addr) (d : PyData), xs = [.ref a] ∧ Dp K H (.ref a) d ∧ d.showable = true ∧ d.hasDict = false ∧ d.depth ≤ 40 ∧ d.shown.length ≤ sizeLine ∧ Q (.str d.shown) H
theorem call_reprD (hG : X.A.guards = some []) (hu : X.A.units + 64 < cLine) : CallR X (.builtin "repr") (rReprD X.K) := by
  intro pins s σ H xs us Q I r h
  obtain ⟨a, d, rfl, D, hs, hd, hz, hl, q⟩ := h
  obtain ⟨u, rfl, ru⟩ := vals1' r
  obtain ⟨as, rd⟩ := Dp.reads I d _ _ D ru
  cases (show u = Value.ref a from ru)
  exact repr_of_reads' rd hs (PyData.noDict_hsm hd) hG (by omega) (fun _ _ e => e) (fun h' u tk k => ⟨.str d.shown, H, I.kept k, ⟨u, rfl⟩, q⟩) hl
end
/-! ### the law's own call -/
/-- the abstract heap at the law's entry: the script's list, locked -/
def scriptH (a : Addr) (vs : List Value) (ns : List Int) : Hp := fun b => if b = a then some (.frz { cls := .type "list", data := .seq vs.toArray } (.lst (ns.map V.int))) else none
section
variable {P : Program} {w : World} {K : PySem.W.Frag} {mg mb : Str → Option Value} {CX : CXT} {k : Nat} {fa a : Addr} {fd : FuncData} {x : Str} {sp : Sp} {s : Shared} {vs : List Value} {ns : List Int}
theorem enterG (H : Hp) (alone : ∀ b u, H b = some u → b = a ∧ ∃ o xs, u = .frz o (.lst xs)) (free : ∀ b, H b ≠ none → K.lookup b = none) (hok : HOk P w H s.heap)
    (KX : K.In s.heap) (gl : s.heap.Ns mainGlobals mg) (bl : s.heap.Ns builtinsNs mb) (bb : ∀ x : Str, x ≠ "__name__" → mb x = bootBuiltins x) (lim : s.heap.NoLimit) (gn : s.gens = #[]) (room : Room k callerA)
    (F : ∀ base : Heap, K.In base → base.Ns mainGlobals mg → FnG P w K mg base CX k fa fd [x] sp) (binds : ∀ (s : Shared) (u : Value), BindsTo s fd ⟨[u], []⟩ [(x, u)]) (said : sp [.ref a] H (fun v _ => v = .bl true) fun _ _ _ => False)
    (noX : ∀ e s', CX [] H s (fun _ _ _ => False) e s' → False) :
    codeAny (model P w) callerA (.call (.ref fa) ⟨[.ref a], []⟩) (fun r s' => r = .ok (.ret (.bool true)) ∧ OldK s.heap s'.heap ∧ s'.os = s.os ∧ AllBare s'.gens) s := by
  have noDict : ∀ {b : Addr} {o : Obj} {es : Array DictEntry} {n : Nat}, s.heap.get? b = some o → o.data = .dict es n → H b = none := fun {b o es n} e d => by
    cases q : H b with
    | none => rfl
    | some u =>
      obtain ⟨_, ob, xs, rfl⟩ := alone b u q
      obtain ⟨e1, _, its, m, _, e2⟩ := (show ObjOk P w H s.heap b (.frz ob (.lst xs)) from hok b _ q)
      rw [e] at e2
      cases e2
      cases d
  have ns_ : ∀ {b : Addr} {m : Str → Option Value}, s.heap.Ns b m → (hidT s.heap H).Ns b m := fun {b m} ⟨o, es, n, e, d, r⟩ => ⟨o, es, n, hidT_get e (noDict e d), d, r⟩
  have kb : K.In (hidT s.heap H) := fun b o e => hidT_get (KX b o e) (by
    cases q : H b with
    | none => rfl
    | some u =>
      have z := free b (by rw [q]; exact fun z => nomatch z)
      rw [e] at z
      cases z)
  have md : Mod K mg (hidT s.heap H) := ⟨kb, ns_ gl, ⟨mb, ns_ bl, bb⟩, by
    obtain ⟨mc, h1, h2⟩ := lim
    exact ⟨mc, ns_ h1, h2⟩⟩
  have env : Env0 P w K mg (hidT s.heap H) callerA [] s H := ⟨rfl, md, fun b o e => of_hidT e, Nat.le_of_eq (hidT_size _ _), trivial, (fun b hb => absurd (show b ∈ ([] : List Addr) from hb) (by simp)), hok, .of_eq gn⟩
  refine codeAny_mono ((F _ kb (ns_ gl)).go callerA [] s H ⟨[.ref a], []⟩ [.ref a] [.ref a] _ _ rfl room env (binds s (.ref a)) (.cons rfl .nil) said) fun r s' h => ?_
  match r, h with
  | .error e, h => exact (noX e s' h).elim
  | .ok (.ret u), ⟨v, H', os, bare, un, hok', rv, q⟩ =>
    have ev : v = .bl true := q
    subst ev
    obtain rfl : u = Value.bool true := rv
    refine ⟨rfl, OldK.of_keep fun b o e => ?_, os, bare⟩
    cases q : H b with
    | none => exact un.keep b o e q (fun z => nomatch z) (fun z => nomatch z)
    | some u =>
      obtain ⟨_, ob, xs, rfl⟩ := alone b u q
      obtain ⟨e1, _⟩ := hok b _ q
      obtain ⟨e2, _⟩ := hok' b _ (un.frzs b ob _ q)
      rw [e] at e1
      cases e1
      exact e2
theorem law_callG (KX : K.In s.heap) (gl : s.heap.Ns mainGlobals mg) (bl : s.heap.Ns builtinsNs mb) (bb : ∀ x : Str, x ≠ "__name__" → mb x = bootBuiltins x) (lim : s.heap.NoLimit) (gn : s.gens = #[])
    (obj : s.heap.get? a = some { cls := .type "list", data := .seq vs.toArray }) (hi : IntsAre vs ns) (hl : ns.length ≤ sizeLine) (room : Room k callerA)
    (F : ∀ base : Heap, K.In base → base.Ns mainGlobals mg → FnG P w K mg base CX k fa fd [x] sp) (binds : ∀ (s : Shared) (u : Value), BindsTo s fd ⟨[u], []⟩ [(x, u)])
    (said : ∀ H : Hp, SqL K H a (ns.map V.int) → sp [.ref a] H (fun v _ => v = .bl true) fun _ _ _ => False) (noX : ∀ H e s', CX [] H s (fun _ _ _ => False) e s' → False) :
    codeAny (model P w) callerA (.call (.ref fa) ⟨[.ref a], []⟩) (fun r s' => r = .ok (.ret (.bool true)) ∧ OldK s.heap s'.heap ∧ s'.os = s.os ∧ AllBare s'.gens) s := by
  have rv := vals_ints hi
  cases hk : K.lookup a with
  | some o =>
    have e := KX a o hk
    rw [obj] at e
    cases e
    exact enterG (fun _ => none) (fun b u z => nomatch z) (fun b z => (z rfl).elim) (fun b u z => nomatch z) KX gl bl bb lim gn room F binds
      (said _ (.inr ⟨_, vs.toArray, _, hk, rfl, rfl, rfl, by rw [List.size_toArray, hi.length]; exact hl, by simpa using rv⟩)) (noX _)
  | none =>
    have at_ : ∀ b u, scriptH a vs ns b = some u → b = a ∧ u = .frz { cls := .type "list", data := .seq vs.toArray } (.lst (ns.map V.int)) := fun b u z => by
      unfold scriptH at z
      by_cases hb : b = a
      · rw [if_pos hb] at z
        exact ⟨hb, (Option.some.inj z).symm⟩
      · rw [if_neg hb] at z
        cases z
    refine enterG (scriptH a vs ns) (fun b u z => ?_) (fun b z => ?_) (fun b u z => ?_) KX gl bl bb lim gn room F binds (said _ (.inl (.inr ⟨{ cls := .type "list", data := .seq vs.toArray }, by unfold scriptH; rw [if_pos rfl]⟩))) (noX _)
    · obtain ⟨e, rfl⟩ := at_ b u z
      exact ⟨e, _, _, rfl⟩
    · cases q : scriptH a vs ns b with
      | none => exact (z q).elim
      | some u =>
        rw [(at_ b u q).1]
        exact hk
    · obtain ⟨rfl, rfl⟩ := at_ b u z
      exact ⟨obj, by rw [List.length_map]; exact hl, vs, _, rv, obj⟩
end
/-- the end of a law's proof: the head's facts give the law's def, the def keeps its promise -/
theorem walk_ofG {l : PySem.W.OpenLaw} {n k : Nat} {q : Program} {loose : List Str} {XP : (Str → Option Value) → Heap → Prop} {YP : World → Heap → Prop} {d : DefRec} {CX : World → CXT} {x : Str}
    (hn : l.most = some n) (hn2 : n ≤ sizeLine) (hdf : d.params.defaults = []) (room : Room k callerA)
    (F : ∀ (w : World) (mg : Str → Option Value) (fa : Addr) (h : Heap), YP w h → h.Ns mainGlobals mg → mg d.name = some (.ref fa) →
      ∃ (K : PySem.W.Frag) (fd : FuncData) (sp : Sp), K.In h ∧ (∀ (s : Shared) (u : Value), BindsTo s fd ⟨[u], []⟩ [(x, u)]) ∧
        (∀ (H : Hp) (a : Addr) (ns : List Int), ns.length ≤ n → (∀ z ∈ ns, Builtin.Int.intBits z ≤ 1048576) → SqL K H a (ns.map V.int) → sp [.ref a] H (fun v _ => v = .bl true) fun _ _ _ => False) ∧
        ∀ base : Heap, K.In base → base.Ns mainGlobals mg → FnG l.prog w K mg base (CX w) k fa fd [x] sp)
    (noX : ∀ (w : World) (H : Hp) (s : Shared) (e : Value) (s' : Shared), CX w [] H s (fun _ _ _ => False) e s' → False) :
    PySem.W.WalkO q loose XP YP l.row.toRowW d [] (fun f vs => PySem.call f vs) := by
  refine Att.attach_callB hn hdf fun w s₀ s₁ mg mb fa o pm cd doc a vs ns G Y ho hd hcd hmg hobj hints hlen hbits hg => ?_
  obtain ⟨K, fd, sp, KX, hb, said, hF⟩ := F w mg fa _ Y G.T.g hmg
  exact law_callG KX G.T.g G.T.b G.T.builtins G.T.nolimit hg hobj hints (Nat.le_trans hlen hn2) room hF hb (fun H hS => said H a ns hlen hbits hS) fun H e s' => noX w H s₁ e s'
end RT

set_option Elab.async false
set_option linter.all false
set_option maxRecDepth 100000
set_option maxHeartbeats 4000000
/-! a head whose facts are any Bools of the written part, and defs by any address (a property's getter too) -/
namespace HP
open PySem PySem.Spec PyProof.Rows L2 He
/-- a def of the text, where it stands -/
structure DefA where
  adr : PySem.W.Frag → Addr
  name : Str
  qual : Str
  params : Arguments
  body : List Stmt
  scope : Scope
  dfl : List Dv := []
  kwd : List (Str × Dv) := []
def DefA.told (K : PySem.W.Frag) (d : DefA) : FnW := match K.lookup (d.adr K) with
  | some ⟨_, _, .func fd, _⟩ => some (fd.name, fd.qualname, fd.params, fd.body, fd.scope, fd.globals, fd.closure, fd.builtins)
  | _ => none
def DefA.want (d : DefA) : FnW := some (d.name, d.qual, d.params, .stmts d.body, d.scope, mainGlobals, [], builtinsNs)
def DefA.dvs (K : PySem.W.Frag) (d : DefA) : List V := d.dfl.map (Dv.v K)
def DefA.kws (K : PySem.W.Frag) (d : DefA) : List (Str × V) := d.kwd.map fun q => (q.1, q.2.v K)
def DefA.fine (K : PySem.W.Frag) (d : DefA) : Bool := PySem.W.keepIn K (.ref (d.adr K)) && (match K.lookup (d.adr K) with
  | some ⟨_, _, .func fd, _⟩ => PySem.W.codeIn K fd.code d.qual && (dflB K fd.defaults (d.dvs K) && kwdB K fd.kwdefaults (d.kws K))
  | _ => false)
theorem DefA.funD {K : PySem.W.Frag} {d : DefA} (e : d.told K = d.want) (c : d.fine K = true) : ∃ fd, FunD K d.name d.qual d.params d.body d.scope (d.dvs K) (d.kws K) (d.adr K) fd := by
  obtain ⟨kp, more⟩ := ba c
  unfold DefA.told at e
  split at e
  · rename_i oc od fd osl at_
    rw [at_] at more
    obtain ⟨k1, k2⟩ := ba more
    obtain ⟨k3, k4⟩ := ba k2
    cases fd
    unfold DefA.want at e
    injection e with e
    simp only [Prod.mk.injEq] at e
    obtain ⟨rfl, rfl, rfl, rfl, rfl, rfl, rfl, rfl⟩ := e
    exact ⟨_, ⟨oc, od, _, _, _, _, _, _, _, osl, rfl, at_, k1, dflB_ok k3, kwdB_ok k4⟩, kp⟩
  · cases e
abbrev Fact := PySem.W.Frag → Bool
abbrev Al := Bool × List FnW
def obsA (fa : List Fact) (fn : List DefA) (K : PySem.W.Frag) : Al := ((fa.all fun f => f K) && fn.all fun d => d.fine K, fn.map fun d => d.told K)
def wantA (fn : List DefA) : Al := (true, fn.map DefA.want)
def obsAG (n : Nat) (fa : List Fact) (fn : List DefA) (g : Addr → Option Obj) : Al := obsA fa fn (frG g (asD g n))
structure SaysA (fa : List Fact) (fn : List DefA) (K : PySem.W.Frag) : Prop where
  eq : obsA fa fn K = wantA fn
def hookA (n : Nat) (fa : List Fact) (fn : List DefA) : PySem.W.Hook where
  α := Al
  obs := fun s => obsAG n fa fn s.heap.get?
  val := fun _ => wantA fn
  says := fun _ h => ∃ K : PySem.W.Frag, K.In h ∧ SaysA fa fn K
  of := fun _ _ e => ⟨_, frG_in, ⟨e⟩⟩
  keeps := fun _ _ _ ⟨K, hK, c⟩ k => ⟨K, PySem.W.Frag.In.keeps hK k, c⟩
theorem obsAG_eq {n : Nat} {fa : List Fact} {fn : List DefA} {g : Addr → Option Obj} {s : Shared} (h : ∀ a, g a = s.heap.get? a) : obsAG n fa fn g = (hookA n fa fn).obs s := by
  rw [show g = s.heap.get? from funext h] <;> rfl
section
variable {fa : List Fact} {fn : List DefA} {K : PySem.W.Frag}
theorem SaysA.fact (c : SaysA fa fn K) (i : Nat) {f : Fact} (h : fa[i]? = some f := by rfl) : f K = true :=
  List.all_eq_true.mp (ba (congrArg Prod.fst c.eq)).1 f (List.mem_of_getElem? h)
theorem SaysA.def_ (c : SaysA fa fn K) (i : Nat) {d : DefA} (h : fn[i]? = some d := by rfl) : ∃ fd, FunD K d.name d.qual d.params d.body d.scope (d.dvs K) (d.kws K) (d.adr K) fd := by
  have hd : d ∈ fn := List.mem_of_getElem? h
  refine DefA.funD ?_ (List.all_eq_true.mp (ba (congrArg Prod.fst c.eq)).2 d hd)
  have e : fn.map (fun d => d.told K) = fn.map DefA.want := congrArg Prod.snd c.eq
  have e1 := congrArg (fun l => l[i]?) e
  simp only [List.getElem?_map, h, Option.map_some, Option.some.injEq] at e1
  exact e1
end
/-! ### facts beside He.Fa's -/
/-- a property of the class x -/
def getA (x f : Str) (K : PySem.W.Frag) : Addr := match PySem.W.recIn K (ma K (ga K x) f) "property" with
  | some (.ref g :: _) => g
  | _ => 0
def propB (x f : Str) : Fact := fun K => eqO (PySem.W.findIn K (.ref (ga K x)) f) (some (some (.ref (ma K (ga K x) f)))) && (eqO (PySem.W.specialIn K (.ref (ma K (ga K x) f)) "__get__") (some (some (.builtin "property.__get__"))) && (decide (PySem.W.takesIn K (.ref (ma K (ga K x) f)) = some true) &&
  (match PySem.W.recIn K (ma K (ga K x) f) "property" with
    | some (.ref _ :: _) => true
    | _ => false)))
theorem propB_ok {x f : Str} {K : PySem.W.Frag} (h : propB x f K = true) : PropOf K (ga K x) f (ma K (ga K x) f) (getA x f K) := by
  obtain ⟨h1, h⟩ := ba h
  obtain ⟨h2, h⟩ := ba h
  obtain ⟨h3, h4⟩ := ba h
  refine ⟨eqO_ok h1, eqO_ok h2, of_decide_eq_true h3, ?_⟩
  unfold getA
  split at h4
  · rename_i g rest e
    rw [e]
    exact ⟨rest, rfl⟩
  · cases h4
/-- own operators: the class goes first in its own order; no reflected method -/
def firstB (x : Str) : Fact := fun K => PySem.W.selfFirst K (ga K x)
def notFirstB (x : Str) (t : PySem.W.Frag → Value) : Fact := fun K => PySem.W.notFirst K (ga K x) (t K)
def rightB (x : Str) (op : Operator) (T : String) : Fact := fun K => eqO (PySem.W.findIn K (.ref (ga K x)) (dunderR op.info.2)) (some none) && ((PySem.W.findIn K (.type T) (PySem.dunder op.info.2)).isSome && ((PySem.W.findIn K (.type T) (dunderR op.info.2)).isSome && decide (PySem.W.subIn K (.type T) (.ref (ga K x)) = some false)))
theorem rightB_ok {x : Str} {op : Operator} {T : String} {K : PySem.W.Frag} (h : rightB x op T K = true) : RT.RightT K (ga K x) op T := by
  obtain ⟨h1, h⟩ := ba h
  obtain ⟨h2, h⟩ := ba h
  obtain ⟨h3, h4⟩ := ba h
  exact ⟨eqO_ok h1, Option.isSome_iff_exists.mp h2, Option.isSome_iff_exists.mp h3, of_decide_eq_true h4⟩
/-- isinstance of an instance of the class x asks its class rightly -/
def isiB (x : Str) : Fact := fun K => eqO (PySem.W.findIn K (.ref (ga K x)) "__class__") (some (some (.builtin "object.__class__"))) && (eqO (PySem.W.specialIn K (.builtin "object.__class__") "__get__") (some (some (.builtin "getset_descriptor.__get__"))) && (decide (PySem.W.takesIn K (.builtin "object.__class__") = some true) && decide (PySem.W.mroIn K (ga K x) (.type "object") = some true)))
structure IsiC (K : PySem.W.Frag) (C : Addr) : Prop where
  ha : PySem.W.findIn K (.ref C) "__class__" = some (some (.builtin "object.__class__"))
  hn : PySem.W.specialIn K (.builtin "object.__class__") "__get__" = some (some (.builtin "getset_descriptor.__get__"))
  ht : PySem.W.takesIn K (.builtin "object.__class__") = some true
  hm : PySem.W.mroIn K C (.type "object") = some true
theorem isiB_ok {x : Str} {K : PySem.W.Frag} (h : isiB x K = true) : IsiC K (ga K x) := by
  obtain ⟨h1, h⟩ := ba h
  obtain ⟨h2, h⟩ := ba h
  obtain ⟨h3, h4⟩ := ba h
  exact ⟨eqO_ok h1, eqO_ok h2, of_decide_eq_true h3, of_decide_eq_true h4⟩
/-- a global that is a tuple of flat values -/
def flatOf : Value → Option V
  | .none => some .non
  | .bool b => some (.bl b)
  | .int i _ => some (.int i)
  | .str x _ => some (.str x)
  | _ => none
theorem flatOf_ok {v : Value} {x : V} (h : flatOf v = some x) : RelV x v := by
  cases v <;> simp only [flatOf, Option.some.injEq, reduceCtorEq] at h <;> subst h <;> first | rfl | exact ⟨_, rfl⟩
theorem flats_ok : ∀ {vs : List Value} {xs : List V}, vs.map flatOf = xs.map some → Vals xs vs
  | [], [], _ => .nil
  | [], _ :: _, h => by cases h
  | _ :: _, [], h => by cases h
  | v :: vs, x :: xs, h => by
    simp only [List.map_cons, List.cons.injEq] at h
    exact .cons (flatOf_ok h.1) (flats_ok h.2)
def tupB (x : Str) (xs : List V) : Fact := fun K => match K.lookup (ga K x) with
  | some o => eqO (some (some o.cls)) (some (some (.type "tuple"))) && (match o.data with
    | .seq its _ => decide (its.toList.map flatOf = xs.map some) && decide (its.size ≤ sizeLine)
    | _ => false)
  | none => false
theorem tupB_ok {x : Str} {xs : List V} {K : PySem.W.Frag} (h : tupB x xs K = true) : ∀ H : Hp, SqT K H (ga K x) xs := by
  intro H
  unfold tupB at h
  split at h
  · rename_i o e
    obtain ⟨h1, h2⟩ := ba h
    split at h2
    · rename_i its n ed
      obtain ⟨h3, h4⟩ := ba h2
      exact .inr ⟨o, its, n, e, Option.some.inj (Option.some.inj (eqO_ok h1)), ed, of_decide_eq_true h4, flats_ok (of_decide_eq_true h3)⟩
    · cases h2
  · cases h
def neB (x : Str) : Fact := fun K => eqO (PySem.W.findIn K (.ref (ga K x)) "__ne__") (some (some (.builtin "object.__ne__")))
theorem neB_ok {x : Str} {K : PySem.W.Frag} (h : neB x K = true) : PySem.W.findIn K (.ref (ga K x)) "__ne__" = some (some (.builtin "object.__ne__")) := eqO_ok h
def fnB (x m : Str) : Fact := fun K => PySem.W.fnIn K (ma K (ga K x) m)
def kitB1 (t c : PySem.W.Frag → Value) (b : Bool) : Fact := fun K => decide (PySem.W.kitOne K (t K) (c K) = some b)
def kitA1 (t : PySem.W.Frag → Value) (cs : List Str) (b : Bool) : Fact := fun K => decide (PySem.W.kitAny K (t K) (cs.map fun x => .ref (ga K x)) = some b)
def fa_ (f : Fa) : Fact := fun K => f.ok K
end HP

set_option Elab.async false
set_option linter.all false
set_option maxRecDepth 100000
set_option maxHeartbeats 4000000
/-! the top's run in parts: the looks by themselves, the facts group by group -/
namespace HP
open PySem PySem.Spec PyProof.Rows L2 He HandSHeadRun PySem.W
/-- the facts over a written list of addresses -/
def obsL (as : List Addr) (fa : List Fact) (fn : List DefA) (g : Addr → Option Obj) : Al := obsA fa fn (frG g as)
def hookL (as : List Addr) (fa : List Fact) (fn : List DefA) : PySem.W.Hook where
  α := Al
  obs := fun s => obsL as fa fn s.heap.get?
  val := fun _ => wantA fn
  says := fun _ h => ∃ K : PySem.W.Frag, K.In h ∧ SaysA fa fn K
  of := fun _ _ e => ⟨_, frG_in, ⟨e⟩⟩
  keeps := fun _ _ _ ⟨K, hK, c⟩ k => ⟨K, PySem.W.Frag.In.keeps hK k, c⟩
theorem obsL_eq {as : List Addr} {fa : List Fact} {fn : List DefA} {g : Addr → Option Obj} {s : Shared} (h : ∀ a, g a = s.heap.get? a) : obsL as fa fn g = (hookL as fa fn).obs s := by
  rw [show g = s.heap.get? from funext h] <;> rfl
/-- the looks -/
def BaseEq (r : OpenRow) (q : Program) (M : Nat) (loose : List PySem.Str) (w : World) : Prop :=
  ∀ os : OsState, (endF (stepQ (denQ tabQ) r.prog w) M r.prog w os).map (fun s => (looksF r.prog (boot_heap w.params) s.abs, seenQ q loose (importedModules r.prog.main.body) (fun s => xlAt q [] s && recOk r.toRowW.records s) s.abs)) = some (true, openGood q loose)
/-- a group of facts -/
def PartEq (r : OpenRow) (M : Nat) (as : List Addr) (fa : List Fact) (fn : List DefA) (w : World) : Prop :=
  ∀ os : OsState, (endF (stepQ (denQ tabQ) r.prog w) M r.prog w os).map (fun s => obsL as fa fn (getT s)) = some (wantA fn)
theorem obsA_app {fa fa' : List Fact} {fn fn' : List DefA} {K : Frag} (h : obsA fa fn K = wantA fn) (h' : obsA fa' fn' K = wantA fn') : obsA (fa ++ fa') (fn ++ fn') K = wantA (fn ++ fn') := by
  unfold obsA wantA at *
  simp only [Prod.mk.injEq] at h h'
  obtain ⟨h1, h2⟩ := h
  obtain ⟨h3, h4⟩ := h'
  obtain ⟨a1, a2⟩ := ba h1
  obtain ⟨b1, b2⟩ := ba h3
  rw [List.all_append, List.all_append, List.map_append, List.map_append, h2, h4, a1, a2, b1, b2]
  rfl
theorem PartEq.app {r : OpenRow} {M : Nat} {as : List Addr} {fa fa' : List Fact} {fn fn' : List DefA} {w : World} (h : PartEq r M as fa fn w) (h' : PartEq r M as fa' fn' w) : PartEq r M as (fa ++ fa') (fn ++ fn') w := by
  intro os
  have e := h os
  have e' := h' os
  cases q : endF (stepQ (denQ tabQ) r.prog w) M r.prog w os with
  | none => rw [q] at e; cases e
  | some s =>
    rw [q] at e e'
    have e1 : obsL as fa fn (getT s) = wantA fn := Option.some.inj e
    have e2 : obsL as fa' fn' (getT s) = wantA fn' := Option.some.inj e'
    show some (obsL as (fa ++ fa') (fn ++ fn') (getT s)) = _
    exact congrArg some (obsA_app e1 e2)
theorem run_join {r : OpenRow} {q : Program} {M : Nat} {as : List Addr} {loose : List PySem.Str} {fa : List Fact} {fn : List DefA} {w : World} (h0 : BaseEq r q M loose w) (h : PartEq r M as fa fn w) :
    RunEq r q (hookL as fa fn) (fun s => obsL as fa fn (getT s)) M loose w := by
  intro os
  have e0 := h0 os
  have e := h os
  cases z : endF (stepQ (denQ tabQ) r.prog w) M r.prog w os with
  | none => rw [z] at e; cases e
  | some s =>
    rw [z] at e0 e
    have e1 := Option.some.inj e0
    have e2 : obsL as fa fn (getT s) = wantA fn := Option.some.inj e
    simp only [Prod.mk.injEq] at e1
    exact congrArg some (Prod.ext e1.1 (Prod.ext e1.2 e2))
end HP
namespace HP
open PySem PySem.Spec PyProof.Rows L2 He HandSHeadRun PySem.W
/-- what isinstance asks of a caught exception's class -/
def excCB (x : Str) : Fact := fun K => eqO (findIn K (.ref (ga K x)) "__getattribute__") (some (some (.builtin "BaseException.__getattribute__"))) && (eqO (findIn K (.ref (ga K x)) "__getattr__") (some none) && (decide (subIn K (.ref (ga K x)) (.type "BaseException") = some true) && (hasDictIn K (ga K x) &&
  (eqO (findIn K (.ref (ga K x)) "__class__") (some (some (.builtin "object.__class__"))) && (eqO (specialIn K (.builtin "object.__class__") "__get__") (some (some (.builtin "getset_descriptor.__get__"))) && (decide (takesIn K (.builtin "object.__class__") = some true) && decide (mroIn K (ga K x) (.type "object") = some true)))))))
theorem excCB_ok {x : Str} {K : Frag} (h : excCB x K = true) : ExcC K (ga K x) := by
  obtain ⟨h1, h⟩ := ba h
  obtain ⟨h2, h⟩ := ba h
  obtain ⟨h3, h⟩ := ba h
  obtain ⟨h4, h⟩ := ba h
  obtain ⟨h5, h⟩ := ba h
  obtain ⟨h6, h⟩ := ba h
  obtain ⟨h7, h8⟩ := ba h
  exact ⟨eqO_ok h1, eqO_ok h2, of_decide_eq_true h3, h4, eqO_ok h5, eqO_ok h6, of_decide_eq_true h7, of_decide_eq_true h8⟩
end HP

set_option Elab.async false
set_option linter.all false
set_option maxRecDepth 100000
set_option maxHeartbeats 4000000
/-! facts about own exceptions with an own __init__ -/
namespace HX
open PySem PySem.Spec PyProof.Rows L2 He HandSHeadRun PySem.W HP
def oexK (K : Frag) (C : Addr) : Bool := match K.lookup C with
  | some ⟨.type "type", _, .cls cd, sl⟩ => (match cd.mro, sl.toList with
    | .ref C' :: bm, [_, _, _, _, some (.builtin n), _] => C' == C && n == "ValueError.__new__" && !cd.hasDel && cd.hasDict && PySem.HandSPX.refsVE bm
    | _, _ => false)
  | _ => false
def oexB (x : Str) : Fact := fun K => oexK K (ga K x) && (eqO (findIn K (.ref (ga K x)) "__setattr__") (some (some (.builtin "object.__setattr__"))) && (decide (subIn K (.ref (ga K x)) (.type "BaseException") = some true) && (decide (typeIn K (.ref (ga K x)) = some (.type "type")) && keepIn K (.ref (ga K x)))))
theorem oexB_ok {x : Str} {K : Frag} (h : oexB x K = true) : OexC K (ga K x) := by
  obtain ⟨q, h⟩ := ba h
  obtain ⟨h2, h⟩ := ba h
  obtain ⟨h3, h⟩ := ba h
  obtain ⟨h4, h5⟩ := ba h
  refine ⟨?_, eqO_ok h2, of_decide_eq_true h3, of_decide_eq_true h4, h5⟩
  unfold oexK at q
  split at q
  · rename_i dd cd sl ho
    split at q
    · rename_i C' bm k0 k1 k2 k3 n k5 hm hs
      simp only [Bool.and_eq_true, beq_iff_eq, Bool.not_eq_true'] at q
      obtain ⟨⟨⟨⟨rfl, rfl⟩, hdel⟩, hdi⟩, ht⟩ := q
      obtain ⟨nm, bs, mro, ns, qn, hd, sn, sub, ab, col, del⟩ := cd
      dsimp only at hm hdel hdi
      subst hm hdel hdi
      have hsl : sl = #[k0, k1, k2, k3, some (.builtin "ValueError.__new__"), k5] := by
        obtain ⟨l⟩ := sl
        simp only at hs
        rw [hs]
      subst hsl
      exact ⟨nm, qn, ns, bs, bm, sn, sub, ab, col, dd, k0, k1, k2, k3, k5, ho, ht⟩
    · cases q
  · cases q
/-- an own __init__ -/
def oinB (x : Str) : Fact := fun K => eqO (findIn K (.ref (ga K x)) "__init__") (some (some (.ref (fAd K (x, some "__init__"))))) && decide (typeIn K (.ref (fAd K (x, some "__init__"))) = some (.type "function"))
theorem oinB_ok {x : Str} {K : Frag} (h : oinB x K = true) : findIn K (.ref (ga K x)) "__init__" = some (some (.ref (fAd K (x, some "__init__")))) ∧ typeIn K (.ref (fAd K (x, some "__init__"))) = some (.type "function") := by
  obtain ⟨h1, h2⟩ := ba h
  exact ⟨eqO_ok h1, of_decide_eq_true h2⟩
/-- Base.__init__ of an own class over ValueError without an own one -/
def ceB (x : Str) : Fact := fun K => eqO (specialIn K (.ref (ga K x)) "__getattribute__") (some (some (.builtin "type.__getattribute__"))) && (decide (typeIn K (.ref (ga K x)) = some (.type "type")) && (readsIn K (ga K x) (.type "type") && (match findCls K (.ref (ga K x)) (.type "type") "__init__" with
  | some (.val (.builtin b)) => b == "ValueError.__init__"
  | _ => false)))
theorem ceB_ok {x : Str} {K : Frag} (h : ceB x K = true) : specialIn K (.ref (ga K x)) "__getattribute__" = some (some (.builtin "type.__getattribute__")) ∧ typeIn K (.ref (ga K x)) = some (.type "type") ∧ readsIn K (ga K x) (.type "type") = true ∧ findCls K (.ref (ga K x)) (.type "type") "__init__" = some (.val (.builtin "ValueError.__init__")) := by
  obtain ⟨h1, h⟩ := ba h
  obtain ⟨h2, h⟩ := ba h
  obtain ⟨h3, h4⟩ := ba h
  refine ⟨eqO_ok h1, of_decide_eq_true h2, h3, ?_⟩
  split at h4
  · rename_i b e
    rw [e, beq_iff_eq.mp h4]
  · cases h4
/-- no attribute of the class -/
def noB (x f : Str) : Fact := fun K => eqO (findIn K (.ref (ga K x)) f) (some none)
theorem noB_ok {x f : Str} {K : Frag} (h : noB x f K = true) : findIn K (.ref (ga K x)) f = some none := eqO_ok h
end HX

set_option Elab.async false
set_option linter.all false
set_option maxRecDepth 100000
set_option maxHeartbeats 4000000
/-! values as data: lists, tuples, small dicts, flat values; their repr, their type -/
namespace DQ
open PySem PySem.Spec PyProof.Rows L2 RT
mutual
inductive Dq (H : Hp) : V → PyData → Prop
  | non : Dq H .non .none
  | bl (b : Bool) : Dq H (.bl b) (.bool b)
  | int (i : Int) : Dq H (.int i) (.int i)
  | str (x : Str) : Dq H (.str x) (.str x)
  | lst {a : Addr} {xs : List V} {ds : List PyData} (e : H a = some (.lst xs)) (h : DqA H xs ds) : Dq H (.ref a) (.list ds)
  | tup {a : Addr} {xs : List V} {ds : List PyData} (e : H a = some (.tup xs)) (h : DqA H xs ds) : Dq H (.ref a) (.tuple ds)
  | d0 {a : Addr} (e : H a = some (.dT [])) : Dq H (.ref a) (.dict [])
  | d1 {a : Addr} {k : Int} {v : V} {d : PyData} (e : H a = some (.dK [(.inl k, v)])) (h : Dq H v d) : Dq H (.ref a) (.dict [(.int k, d)])
inductive DqA (H : Hp) : List V → List PyData → Prop
  | nil : DqA H [] []
  | cons {v : V} {vs : List V} {d : PyData} {ds : List PyData} (h : Dq H v d) (t : DqA H vs ds) : DqA H (v :: vs) (d :: ds)
end
mutual
theorem Dq.same {H H' : Hp} (e : Same H H') : ∀ {v : V} {d : PyData}, Dq H v d → Dq H' v d
  | _, _, .non => .non
  | _, _, .bl b => .bl b
  | _, _, .int i => .int i
  | _, _, .str x => .str x
  | _, _, .lst h k => .lst (e _ _ h) (DqA.same e k)
  | _, _, .tup h k => .tup (e _ _ h) (DqA.same e k)
  | _, _, .d0 h => .d0 (e _ _ h)
  | _, _, .d1 h k => .d1 (e _ _ h) (Dq.same e k)
theorem DqA.same {H H' : Hp} (e : Same H H') : ∀ {vs : List V} {ds : List PyData}, DqA H vs ds → DqA H' vs ds
  | _, _, .nil => .nil
  | _, _, .cons h t => .cons (Dq.same e h) (DqA.same e t)
end
theorem DqA.len {H : Hp} : ∀ {vs : List V} {ds : List PyData}, DqA H vs ds → vs.length = ds.length
  | _, _, .nil => rfl
  | _, _, .cons _ t => congrArg (· + 1) t.len
theorem DqA.app {H : Hp} : ∀ {vs us : List V} {ds es : List PyData}, DqA H vs ds → DqA H us es → DqA H (vs ++ us) (ds ++ es)
  | _, _, _, _, .nil, k => k
  | _, _, _, _, .cons h t, k => .cons h (t.app k)
theorem DqA.take {H : Hp} : ∀ {vs : List V} {ds : List PyData} (n : Nat), DqA H vs ds → DqA H (vs.take n) (ds.take n)
  | _, _, 0, _ => .nil
  | _, _, _ + 1, .nil => .nil
  | _, _, n + 1, .cons h t => .cons h (t.take n)
theorem DqA.drop {H : Hp} : ∀ {vs : List V} {ds : List PyData} (n : Nat), DqA H vs ds → DqA H (vs.drop n) (ds.drop n)
  | _, _, 0, h => h
  | _, _, _ + 1, .nil => .nil
  | _, _, n + 1, .cons _ t => t.drop n
theorem DqA.get {H : Hp} : ∀ {vs : List V} {ds : List PyData}, DqA H vs ds → ∀ {i : Nat} {v : V}, vs[i]? = some v → ∃ d, ds[i]? = some d ∧ Dq H v d
  | _, _, .nil, i, v, e => by cases e
  | _, _, .cons h r, 0, v, e => by cases e; exact ⟨_, rfl, h⟩
  | _, _, .cons h r, i + 1, v, e => r.get e
/-- the module table is no list -/
def SysOk (K : PySem.W.Frag) : Prop := ∃ o, K.lookup sysModules = some o ∧ o.cls ≠ .type "list"
def sysB : HP.Fact := fun K => match K.lookup sysModules with
  | some o => !decide (o.cls = .type "list")
  | none => false
theorem sysB_ok {K : PySem.W.Frag} (h : sysB K = true) : SysOk K := by
  unfold sysB at h
  split at h
  · rename_i o e
    exact ⟨o, e, fun z => by rw [decide_eq_true z] at h; cases h⟩
  · cases h
section
variable {X : Cx} {pins : List (Addr × Obj)} {σ : L2.St} {H : Hp} {s : Shared}
theorem keyIs_inl {k : Int} {v : Value} (h : keyIs (.inl k) v = true) : ∃ t, v = .int k t := by
  rcases keyIs_shape h with ⟨i, t, e, rfl⟩ | ⟨x, t, e, _⟩
  · cases e
    exact ⟨t, rfl⟩
  · cases e
theorem PairsOne {knd : KeyKind X.prog X.w L2.Key} {en : DictEntry} {rest : List DictEntry} {k : L2.Key} {v : Value} (h : Pairs knd (en :: rest) [(k, v)]) : knd.is k en.key = true ∧ en.val = v ∧ rest = [] := by
  generalize e : [(k, v)] = l at h
  cases h with
  | cons h1 h2 h3 =>
    cases e
    cases h3
    exact ⟨h1, h2, rfl⟩
mutual
theorem Dq.reads (I : Inv X pins σ H s) (sm : SysOk X.K) : ∀ {v : V} {d : PyData}, Dq H v d → ∀ {u : Value}, RelV v u → ∃ as, Reads s.heap u d as ∧ sysModules ∉ as
  | _, _, .non, u, r => by cases r; exact ⟨_, Reads.none, List.not_mem_nil⟩
  | _, _, .bl b, u, r => by cases r; exact ⟨_, Reads.bool b, List.not_mem_nil⟩
  | _, _, .int i, u, r => by obtain ⟨t, rfl⟩ := r; exact ⟨_, Reads.int i t, List.not_mem_nil⟩
  | _, _, .str x, u, r => by obtain ⟨t, rfl⟩ := r; exact ⟨_, Reads.str x t, List.not_mem_nil⟩
  | _, _, .lst (a := a) h k, u, r => by
    cases r
    obtain ⟨_, its, n, rv, e⟩ := I.hok a _ h
    obtain ⟨as, hr, hn⟩ := DqA.reads I sm k rv
    refine ⟨a :: as, Reads.list e rfl rfl (by simpa using hr), fun z => ?_⟩
    rcases List.mem_cons.mp z with z | z
    · obtain ⟨o, ho, hc⟩ := sm
      have := I.kIn _ _ ho
      rw [z, e] at this
      cases this
      exact hc rfl
    · exact hn z
  | _, _, .tup (a := a) h k, u, r => by
    cases r
    obtain ⟨_, its, rv, o, ho, hc, n, hd⟩ := I.hok a _ h
    obtain ⟨as, hr, hn⟩ := DqA.reads I sm k rv
    exact ⟨as, Reads.tuple ho hc hd (by simpa using hr), hn⟩
  | _, _, .d0 (a := a) h, u, r => by
    cases r
    obtain ⟨_, ne, xs, px, o, es, ep, ho, hx, hd, he, _⟩ := I.hok a _ h
    cases px
    refine ⟨a :: [] ++ [], Reads.dict ho hx.1 hd ?_ ?_, fun z => ?_⟩
    · rw [he]; exact ReadsAll.nil
    · rw [he]; exact ReadsAll.nil
    · rcases List.mem_cons.mp z with z | z
      · rw [← z] at ne
        cases ne
      · cases z
  | _, _, .d1 (a := a) h k, u, r => by
    cases r
    obtain ⟨_, ne, vs, kv, o, es, ep, ho, hx, hd, ks, ps, _⟩ := I.hok a _ h
    cases kv with
    | cons p t =>
      cases t
      cases es_e : es.toList with
      | nil => rw [es_e] at ps; cases ps
      | cons en rest =>
        rw [es_e] at ps
        rename_i b
        obtain ⟨bk, bv⟩ := b
        obtain ⟨p1, p2⟩ := p
        simp only at p1 p2
        obtain ⟨hk, hv, hr0⟩ := PairsOne ps
        subst hr0
        rw [← p1] at hk
        rw [← hv] at p2
        obtain ⟨t, ek⟩ := keyIs_inl hk
        obtain ⟨as, hr, hn⟩ := Dq.reads I sm k p2
        refine ⟨a :: ([] ++ []) ++ (as ++ []), Reads.dict ho hx.1 hd ?_ ?_, fun z => ?_⟩
        · rw [es_e]
          show ReadsAll s.heap [en.key] [.int _] ([] ++ [])
          rw [ek]
          exact .cons (.int _ t) .nil
        · rw [es_e]
          show ReadsAll s.heap [en.val] [_] (as ++ [])
          exact .cons hr .nil
        · rw [List.append_nil, List.append_nil] at z
          rcases List.mem_cons.mp z with z | z
          · rw [← z] at ne
            cases ne
          · exact hn z
theorem DqA.reads (I : Inv X pins σ H s) (sm : SysOk X.K) : ∀ {vs : List V} {ds : List PyData}, DqA H vs ds → ∀ {us : List Value}, Vals vs us → ∃ as, ReadsAll s.heap us ds as ∧ sysModules ∉ as
  | _, _, .nil, us, r => by cases r; exact ⟨_, ReadsAll.nil, List.not_mem_nil⟩
  | _, _, .cons h t, us, r => by
    cases r with
    | cons r1 r2 =>
      obtain ⟨as, q1, n1⟩ := Dq.reads I sm h r1
      obtain ⟨bs, q2, n2⟩ := DqA.reads I sm t r2
      exact ⟨_, ReadsAll.cons q1 q2, fun z => (List.mem_append.mp z).elim n1 n2⟩
end

/-- repr of data, small dicts too -/
def rReprQ (K : PySem.W.Frag) : List V → Hp → VK → Prop := fun xs H Q => ∃ (a : Addr) (d : PyData), xs = [.ref a] ∧ Dq H (.ref a) d ∧ d.showable = true ∧ d.depth ≤ 40 ∧ d.shown.length ≤ sizeLine ∧ Q (.str d.shown) H
theorem call_reprQ (sm : SysOk X.K) (hG : X.A.guards = some []) (hu : X.A.units + 64 < cLine) : CallR X (.builtin "repr") (rReprQ X.K) := by
  intro pins s σ H xs us Q I r h
  obtain ⟨a, d, rfl, D, hs, hz, hl, q⟩ := h
  obtain ⟨u, rfl, ru⟩ := vals1' r
  obtain ⟨as, rd, hn⟩ := D.reads I sm ru
  cases (show u = Value.ref a from ru)
  exact repr_of_reads' rd hs (fun _ => hn) hG (by omega) (fun _ _ e => e) (fun h' u tk k => ⟨.str d.shown, H, I.kept k, ⟨u, rfl⟩, q⟩) hl
/-- xs.count(y), flat items -/
def rCntF (K : PySem.W.Frag) : V → List V → Hp → VK → Prop := fun x xs H Q => ∃ (p : Addr) (ys : List V) (y : V), x = .ref p ∧ xs = [y] ∧ SqL K H p ys ∧ flatV y = true ∧ ys.all flatV = true ∧ Q (.int (ys.countP (fun z => eqV z y) : Nat)) H
theorem cnt_eq {y : V} : ∀ {ys : List V} {us : List Value}, Vals ys us → ys.all flatV = true → us.countP (eqU y) = ys.countP (fun z => eqV z y)
  | _, _, .nil, _ => rfl
  | z :: ys, u :: us, .cons r t, f => by
    rw [List.all_cons, Bool.and_eq_true] at f
    rw [List.countP_cons, List.countP_cons, cnt_eq t f.2, eqU_of r f.1]
theorem mt_countF : MtR X "list.count" (rCntF X.K) := by
  intro pins s σ H x xs v us Q I rx rxs h
  obtain ⟨p, ys, y, rfl, rfl, hs, fy, fys, q⟩ := h
  cases rx
  obtain ⟨u, rfl, ru⟩ := rxs.one
  obtain ⟨its, rv, ⟨⟨cls, dd, data, sl⟩, n, ho, hc, hdn, hd⟩, hlen⟩ := I.list hs
  simp only at hc hd
  subst hc hd
  refine call_meets PySem.F.slot_list_count ⟨_, ho, rfl⟩ PySem.F.entry_list_count (PySem.F.args_list_count_2 _ _)
    (SeqAt.list_countAt p its.toArray n dd sl u (eqU y)) ⟨ho, fun u' hu' => mem_eqAt ru fy rv fys u' (by simpa using hu'), ?_⟩
  refine ⟨.int _, H, I.tok _, ⟨s.toks, ?_⟩, q⟩
  show Value.int ((its.toArray.toList.countP (eqU y) : Nat) : Int) s.toks = _
  rw [show its.toArray.toList = its from by simp, cnt_eq rv fys]
end
/-! ### kinds -/
def typS : PyData → String
  | .none => "NoneType"
  | .bool _ => "bool"
  | .int _ => "int"
  | .str _ => "str"
  | .list _ => "list"
  | .tuple _ => "tuple"
  | .dict _ => "dict"
theorem Dq.ty {K : PySem.W.Frag} {H : Hp} {v : V} {d : PyData} (h : Dq H v d) : TyY K H v (.type (typS d)) := by
  cases h with
  | non => exact .base (.base .non)
  | bl b => exact .base (.base (.bl b))
  | int i => exact .base (.base (.int i))
  | str x => exact .base (.base (.str x))
  | lst h => exact .base (.base (.lst h))
  | tup h => exact .base (.base (.tup h))
  | d0 h => exact .base (.base (.dT h))
  | d1 h => exact .base (.base (.dK h))
def isI : PyData → Bool
  | .int _ => true
  | _ => false
def isB : PyData → Bool
  | .bool _ => true
  | _ => false
def isT : PyData → Bool
  | .tuple _ => true
  | _ => false
def isL : PyData → Bool
  | .list _ => true
  | _ => false
theorem kit_int {K : PySem.W.Frag} (d : PyData) : PySem.W.kitOne K (.type (typS d)) (.type "int") = some (isI d || isB d) := by
  cases d <;> (refine kit_ty ?_; dsimp only [typS, isI, isB, isT, isL]; decide +kernel)
theorem kit_bool {K : PySem.W.Frag} (d : PyData) : PySem.W.kitOne K (.type (typS d)) (.type "bool") = some (isB d) := by
  cases d <;> (refine kit_ty ?_; dsimp only [typS, isI, isB, isT, isL]; decide +kernel)
theorem kit_tuple {K : PySem.W.Frag} (d : PyData) : PySem.W.kitOne K (.type (typS d)) (.type "tuple") = some (isT d) := by
  cases d <;> (refine kit_ty ?_; dsimp only [typS, isI, isB, isT, isL]; decide +kernel)
theorem kit_list {K : PySem.W.Frag} (d : PyData) : PySem.W.kitOne K (.type (typS d)) (.type "list") = some (isL d) := by
  cases d <;> (refine kit_ty ?_; dsimp only [typS, isI, isB, isT, isL]; decide +kernel)
/-- promises may be joined -/
theorem FnOk_or {P : Program} {w : World} {K : PySem.W.Frag} {mg : Str → Option Value} {base : Heap} {CX : CXT} {k : Nat} {f : Addr} {fd : FuncData} {ps : List Str} {sp sp' : Sp} (F : FnOk P w K mg base CX k f fd ps sp) (G : FnOk P w K mg base CX k f fd ps sp') :
    FnOk P w K mg base CX k f fd ps (fun vs H Q E => sp vs H Q E ∨ sp' vs H Q E) :=
  ⟨fun vs H Q E h => h.elim (F.len vs H Q E) (G.len vs H Q E), fun A outer s H args us vs Q E hr env hb hv h => h.elim (F.run A outer s H args us vs Q E hr env hb hv) (G.run A outer s H args us vs Q E hr env hb hv)⟩
end DQ

set_option Elab.async false
set_option linter.all false
set_option maxRecDepth 100000
set_option maxHeartbeats 4000000
namespace K09
open PySem PySem.Spec PyProof.Rows L2 RT
def top (i : Nat) : Stmt := PySem.Challenge.pw_plotpens_k09_routines_too_large.main.body.getD i (.Pass ⟨0, 0, 0, 0⟩)
abbrev s_wall : Stmt := top 0
abbrev sInvalidText_init : Stmt := inClass (top 3) 0
abbrev sInvalidSource_init : Stmt := inClass (top 4) 0
abbrev sTooDeep_init : Stmt := inClass (top 5) 0
abbrev sTooLarge_init : Stmt := inClass (top 6) 0
abbrev sis_integer : Stmt := top 35
abbrev sis_integer_within : Stmt := top 36
abbrev sis_decimal : Stmt := top 37
abbrev scheck_times : Stmt := top 38
abbrev swords_of : Stmt := top 45
abbrev sis_letter : Stmt := top 46
abbrev snumber_of : Stmt := top 47
abbrev swrong_word : Stmt := top 48
abbrev smirrored : Stmt := top 49
abbrev sbackward : Stmt := top 50
abbrev s_is_counted : Stmt := top 51
abbrev s_is_number : Stmt := top 52
abbrev sPart_init : Stmt := inClass (top 54) 0
abbrev ssize_of : Stmt := top 55
abbrev slevels_of : Stmt := top 56
abbrev sparts_of_words : Stmt := top 57
abbrev s_parts_from : Stmt := top 58
abbrev scount_in : Stmt := top 59
abbrev sProgram_init : Stmt := inClass (top 61) 0
abbrev sProgram_text : Stmt := inClass (top 61) 1
abbrev sProgram_length : Stmt := inClass (top 61) 2
abbrev sProgram_depth : Stmt := inClass (top 61) 3
abbrev sProgram_len : Stmt := inClass (top 61) 4
abbrev sProgram_eq : Stmt := inClass (top 61) 5
abbrev sProgram_contains : Stmt := inClass (top 61) 6
abbrev sProgram_add : Stmt := inClass (top 61) 7
abbrev sProgram_mul : Stmt := inClass (top 61) 8
abbrev sProgram_neg : Stmt := inClass (top 61) 9
abbrev sProgram_invert : Stmt := inClass (top 61) 10
abbrev scheck_text : Stmt := top 62
abbrev scheck_program : Stmt := top 63
abbrev sread_source : Stmt := top 68
abbrev sroutine : Stmt := top 69
abbrev snames_of : Stmt := top 70
abbrev s_read_lines : Stmt := top 71
abbrev s_wrong_in_named : Stmt := top 72
abbrev s_is_naming : Stmt := top 73
abbrev s_name_of : Stmt := top 74
abbrev s_program_of : Stmt := top 75
abbrev s_measure : Stmt := top 76
abbrev s_replaced : Stmt := top 77
abbrev s_law_bag : Stmt := top 79
abbrev s_law_pick : Stmt := top 80
abbrev s_law_number : Stmt := top 81
abbrev s_law_words : Stmt := top 82
abbrev s_law_length : Stmt := top 83
abbrev s_law_steps : Stmt := top 84
abbrev s_law_short : Stmt := top 85
abbrev s_law_names : Stmt := top 86
abbrev s_law_source : Stmt := top 87
abbrev s_law_text : Stmt := top 88
abbrev s_law_written : Stmt := top 89
abbrev s_law_class : Stmt := top 90
abbrev s_law_told : Stmt := top 91
abbrev s_law_growing : Stmt := top 92
abbrev s_law_sizes : Stmt := top 93
abbrev slaw : Stmt := top 94
abbrev NInvalidText_init : List Str := ["self", "index"]
theorem scInvalidText_init : FnScope NInvalidText_init ["self", "index"] (defScope sInvalidText_init) := ⟨rfl, rfl, rfl, by decide +kernel, rfl, by decide +kernel, by decide +kernel⟩
abbrev NInvalidSource_init : List Str := ["self", "line", "index"]
theorem scInvalidSource_init : FnScope NInvalidSource_init ["self", "line", "index"] (defScope sInvalidSource_init) := ⟨rfl, rfl, rfl, by decide +kernel, rfl, by decide +kernel, by decide +kernel⟩
abbrev NTooDeep_init : List Str := ["self", "limit"]
theorem scTooDeep_init : FnScope NTooDeep_init ["self", "limit"] (defScope sTooDeep_init) := ⟨rfl, rfl, rfl, by decide +kernel, rfl, by decide +kernel, by decide +kernel⟩
abbrev NTooLarge_init : List Str := ["self", "limit"]
theorem scTooLarge_init : FnScope NTooLarge_init ["self", "limit"] (defScope sTooLarge_init) := ⟨rfl, rfl, rfl, by decide +kernel, rfl, by decide +kernel, by decide +kernel⟩
abbrev Nis_integer : List Str := ["value"]
theorem scis_integer : FnScope Nis_integer ["value"] (defScope sis_integer) := ⟨rfl, rfl, rfl, by decide +kernel, rfl, by decide +kernel, by decide +kernel⟩
abbrev Nis_integer_within : List Str := ["value", "least", "most"]
theorem scis_integer_within : FnScope Nis_integer_within ["value", "least", "most"] (defScope sis_integer_within) := ⟨rfl, rfl, rfl, by decide +kernel, rfl, by decide +kernel, by decide +kernel⟩
abbrev Nis_decimal : List Str := ["word"]
theorem scis_decimal : FnScope Nis_decimal ["word"] (defScope sis_decimal) := ⟨rfl, rfl, rfl, by decide +kernel, rfl, by decide +kernel, by decide +kernel⟩
abbrev Ncheck_times : List Str := ["times"]
theorem sccheck_times : FnScope Ncheck_times ["times"] (defScope scheck_times) := ⟨rfl, rfl, rfl, by decide +kernel, rfl, by decide +kernel, by decide +kernel⟩
abbrev Nwords_of : List Str := ["text"]
theorem scwords_of : FnScope Nwords_of ["text"] (defScope swords_of) := ⟨rfl, rfl, rfl, by decide +kernel, rfl, by decide +kernel, by decide +kernel⟩
abbrev Nis_letter : List Str := ["value"]
theorem scis_letter : FnScope Nis_letter ["value"] (defScope sis_letter) := ⟨rfl, rfl, rfl, by decide +kernel, rfl, by decide +kernel, by decide +kernel⟩
abbrev Nnumber_of : List Str := ["word"]
theorem scnumber_of : FnScope Nnumber_of ["word"] (defScope snumber_of) := ⟨rfl, rfl, rfl, by decide +kernel, rfl, by decide +kernel, by decide +kernel⟩
abbrev Nwrong_word : List Str := ["words", "names", "depth", "at", "word", "opens", "closes", "needed"]
theorem scwrong_word : FnScope Nwrong_word ["words", "names"] (defScope swrong_word) := ⟨rfl, rfl, rfl, by decide +kernel, rfl, by decide +kernel, by decide +kernel⟩
abbrev Nmirrored : List Str := ["words"]
theorem scmirrored : FnScope Nmirrored ["words"] (defScope smirrored) := ⟨rfl, rfl, rfl, by decide +kernel, rfl, by decide +kernel, by decide +kernel⟩
abbrev Nbackward : List Str := ["words", "found", "numbers", "word"]
theorem scbackward : FnScope Nbackward ["words"] (defScope sbackward) := ⟨rfl, rfl, rfl, by decide +kernel, rfl, by decide +kernel, by decide +kernel⟩
abbrev N_is_counted : List Str := ["word"]
theorem sc_is_counted : FnScope N_is_counted ["word"] (defScope s_is_counted) := ⟨rfl, rfl, rfl, by decide +kernel, rfl, by decide +kernel, by decide +kernel⟩
abbrev N_is_number : List Str := ["digits"]
theorem sc_is_number : FnScope N_is_number ["digits"] (defScope s_is_number) := ⟨rfl, rfl, rfl, by decide +kernel, rfl, by decide +kernel, by decide +kernel⟩
abbrev NPart_init : List Str := ["self", "letter", "times", "inner"]
theorem scPart_init : FnScope NPart_init ["self", "letter", "times", "inner"] (defScope sPart_init) := ⟨rfl, rfl, rfl, by decide +kernel, rfl, by decide +kernel, by decide +kernel⟩
abbrev Nsize_of : List Str := ["parts"]
theorem scsize_of : FnScope Nsize_of ["parts"] (defScope ssize_of) := ⟨rfl, rfl, rfl, by decide +kernel, rfl, by decide +kernel, by decide +kernel⟩
abbrev Nlevels_of : List Str := ["parts"]
theorem sclevels_of : FnScope Nlevels_of ["parts"] (defScope slevels_of) := ⟨rfl, rfl, rfl, by decide +kernel, rfl, by decide +kernel, by decide +kernel⟩
abbrev Nparts_of_words : List Str := ["words", "parts", "_"]
theorem scparts_of_words : FnScope Nparts_of_words ["words"] (defScope sparts_of_words) := ⟨rfl, rfl, rfl, by decide +kernel, rfl, by decide +kernel, by decide +kernel⟩
abbrev N_parts_from : List Str := ["words", "start", "parts", "at", "inner"]
theorem sc_parts_from : FnScope N_parts_from ["words", "start"] (defScope s_parts_from) := ⟨rfl, rfl, rfl, by decide +kernel, rfl, by decide +kernel, by decide +kernel⟩
abbrev Ncount_in : List Str := ["parts", "letter", "total", "part", "once"]
theorem sccount_in : FnScope Ncount_in ["parts", "letter"] (defScope scount_in) := ⟨rfl, rfl, rfl, by decide +kernel, rfl, by decide +kernel, by decide +kernel⟩
abbrev NProgram_init : List Str := ["self", "text"]
theorem scProgram_init : FnScope NProgram_init ["self", "text"] (defScope sProgram_init) := ⟨rfl, rfl, rfl, by decide +kernel, rfl, by decide +kernel, by decide +kernel⟩
abbrev NProgram_text : List Str := ["self"]
theorem scProgram_text : FnScope NProgram_text ["self"] (defScope sProgram_text) := ⟨rfl, rfl, rfl, by decide +kernel, rfl, by decide +kernel, by decide +kernel⟩
abbrev NProgram_length : List Str := ["self"]
theorem scProgram_length : FnScope NProgram_length ["self"] (defScope sProgram_length) := ⟨rfl, rfl, rfl, by decide +kernel, rfl, by decide +kernel, by decide +kernel⟩
abbrev NProgram_depth : List Str := ["self"]
theorem scProgram_depth : FnScope NProgram_depth ["self"] (defScope sProgram_depth) := ⟨rfl, rfl, rfl, by decide +kernel, rfl, by decide +kernel, by decide +kernel⟩
abbrev NProgram_len : List Str := ["self"]
theorem scProgram_len : FnScope NProgram_len ["self"] (defScope sProgram_len) := ⟨rfl, rfl, rfl, by decide +kernel, rfl, by decide +kernel, by decide +kernel⟩
abbrev NProgram_eq : List Str := ["self", "other"]
theorem scProgram_eq : FnScope NProgram_eq ["self", "other"] (defScope sProgram_eq) := ⟨rfl, rfl, rfl, by decide +kernel, rfl, by decide +kernel, by decide +kernel⟩
abbrev NProgram_contains : List Str := ["self", "x"]
theorem scProgram_contains : FnScope NProgram_contains ["self", "x"] (defScope sProgram_contains) := ⟨rfl, rfl, rfl, by decide +kernel, rfl, by decide +kernel, by decide +kernel⟩
abbrev NProgram_add : List Str := ["self", "other"]
theorem scProgram_add : FnScope NProgram_add ["self", "other"] (defScope sProgram_add) := ⟨rfl, rfl, rfl, by decide +kernel, rfl, by decide +kernel, by decide +kernel⟩
abbrev NProgram_mul : List Str := ["self", "other"]
theorem scProgram_mul : FnScope NProgram_mul ["self", "other"] (defScope sProgram_mul) := ⟨rfl, rfl, rfl, by decide +kernel, rfl, by decide +kernel, by decide +kernel⟩
abbrev NProgram_neg : List Str := ["self"]
theorem scProgram_neg : FnScope NProgram_neg ["self"] (defScope sProgram_neg) := ⟨rfl, rfl, rfl, by decide +kernel, rfl, by decide +kernel, by decide +kernel⟩
abbrev NProgram_invert : List Str := ["self"]
theorem scProgram_invert : FnScope NProgram_invert ["self"] (defScope sProgram_invert) := ⟨rfl, rfl, rfl, by decide +kernel, rfl, by decide +kernel, by decide +kernel⟩
abbrev Ncheck_text : List Str := ["text", "wrong"]
theorem sccheck_text : FnScope Ncheck_text ["text"] (defScope scheck_text) := ⟨rfl, rfl, rfl, by decide +kernel, rfl, by decide +kernel, by decide +kernel⟩
abbrev Ncheck_program : List Str := ["program"]
theorem sccheck_program : FnScope Ncheck_program ["program"] (defScope scheck_program) := ⟨rfl, rfl, rfl, by decide +kernel, rfl, by decide +kernel, by decide +kernel⟩
abbrev Nread_source : List Str := ["source", "named", "last"]
theorem scread_source : FnScope Nread_source ["source"] (defScope sread_source) := ⟨rfl, rfl, rfl, by decide +kernel, rfl, by decide +kernel, by decide +kernel⟩
abbrev Nroutine : List Str := ["source", "name", "named", "_"]
theorem scroutine : FnScope Nroutine ["source", "name"] (defScope sroutine) := ⟨rfl, rfl, rfl, by decide +kernel, rfl, by decide +kernel, by decide +kernel⟩
abbrev Nnames_of : List Str := ["source", "named", "_"]
theorem scnames_of : FnScope Nnames_of ["source"] (defScope snames_of) := ⟨rfl, rfl, rfl, by decide +kernel, rfl, by decide +kernel, by decide +kernel⟩
abbrev N_read_lines : List Str := ["source", "lines", "named", "at", "words", "last", "wrong"]
theorem sc_read_lines : FnScope N_read_lines ["source"] (defScope s_read_lines) := ⟨rfl, rfl, rfl, by decide +kernel, rfl, by decide +kernel, by decide +kernel⟩
abbrev N_wrong_in_named : List Str := ["words", "named", "wrong"]
theorem sc_wrong_in_named : FnScope N_wrong_in_named ["words", "named"] (defScope s_wrong_in_named) := ⟨rfl, rfl, rfl, by decide +kernel, rfl, by decide +kernel, by decide +kernel⟩
abbrev N_is_naming : List Str := ["word", "name"]
theorem sc_is_naming : FnScope N_is_naming ["word"] (defScope s_is_naming) := ⟨rfl, rfl, rfl, by decide +kernel, rfl, by decide +kernel, by decide +kernel⟩
abbrev N_name_of : List Str := ["words"]
theorem sc_name_of : FnScope N_name_of ["words"] (defScope s_name_of) := ⟨rfl, rfl, rfl, by decide +kernel, rfl, by decide +kernel, by decide +kernel⟩
abbrev N_program_of : List Str := ["words", "named", "measures", "name", "many", "deep"]
theorem sc_program_of : FnScope N_program_of ["words", "named"] (defScope s_program_of) := ⟨rfl, rfl, rfl, by decide +kernel, rfl, by decide +kernel, by decide +kernel⟩
abbrev N_measure : List Str := ["words", "measures", "many", "deep", "level", "word", "more", "levels"]
theorem sc_measure : FnScope N_measure ["words", "measures"] (defScope s_measure) := ⟨rfl, rfl, rfl, by decide +kernel, rfl, by decide +kernel, by decide +kernel⟩
abbrev N_replaced : List Str := ["words", "named", "found", "word"]
theorem sc_replaced : FnScope N_replaced ["words", "named"] (defScope s_replaced) := ⟨rfl, rfl, rfl, by decide +kernel, rfl, by decide +kernel, by decide +kernel⟩
abbrev N_law_bag : List Str := ["cell"]
theorem sc_law_bag : FnScope N_law_bag ["cell"] (defScope s_law_bag) := ⟨rfl, rfl, rfl, by decide +kernel, rfl, by decide +kernel, by decide +kernel⟩
abbrev N_law_pick : List Str := ["bag", "many", "told", "first", "second"]
theorem sc_law_pick : FnScope N_law_pick ["bag", "many"] (defScope s_law_pick) := ⟨rfl, rfl, rfl, by decide +kernel, rfl, by decide +kernel, by decide +kernel⟩
abbrev N_law_number : List Str := ["bag", "far"]
theorem sc_law_number : FnScope N_law_number ["bag", "far"] (defScope s_law_number) := ⟨rfl, rfl, rfl, by decide +kernel, rfl, by decide +kernel, by decide +kernel⟩
abbrev N_law_words : List Str := ["bag", "most", "deep", "letters", "far", "found", "many", "way", "room", "part"]
theorem sc_law_words : FnScope N_law_words ["bag", "most", "deep", "letters", "far"] (defScope s_law_words) := ⟨rfl, rfl, rfl, by decide +kernel, rfl, by decide +kernel, by decide +kernel⟩
abbrev N_law_length : List Str := ["words", "totals", "word", "one"]
theorem sc_law_length : FnScope N_law_length ["words"] (defScope s_law_length) := ⟨rfl, rfl, rfl, by decide +kernel, rfl, by decide +kernel, by decide +kernel⟩
abbrev N_law_steps : List Str := ["words", "parts", "word", "one"]
theorem sc_law_steps : FnScope N_law_steps ["words"] (defScope s_law_steps) := ⟨rfl, rfl, rfl, by decide +kernel, rfl, by decide +kernel, by decide +kernel⟩
abbrev N_law_short : List Str := ["bag", "most", "letters", "size", "found"]
theorem sc_law_short : FnScope N_law_short ["bag", "most", "letters", "size"] (defScope s_law_short) := ⟨rfl, rfl, rfl, by decide +kernel, rfl, by decide +kernel, by decide +kernel⟩
abbrev N_law_names : List Str := ["bag", "many", "found", "size", "name"]
theorem sc_law_names : FnScope N_law_names ["bag", "many"] (defScope s_law_names) := ⟨rfl, rfl, rfl, by decide +kernel, rfl, by decide +kernel, by decide +kernel⟩
abbrev N_law_source : List Str := ["bag", "most", "far", "many", "names", "lines", "k", "words", "turn", "at"]
theorem sc_law_source : FnScope N_law_source ["bag", "most", "far"] (defScope s_law_source) := ⟨rfl, rfl, rfl, by decide +kernel, rfl, by decide +kernel, by decide +kernel⟩
abbrev N_law_text : List Str := ["names", "lines", "rows"]
theorem sc_law_text : FnScope N_law_text ["names", "lines"] (defScope s_law_text) := ⟨rfl, rfl, rfl, by decide +kernel, rfl, by decide +kernel, by decide +kernel⟩
abbrev N_law_written : List Str := ["names", "lines", "limit", "found", "words", "row", "word", "part"]
theorem sc_law_written : FnScope N_law_written ["names", "lines", "limit"] (defScope s_law_written) := ⟨rfl, rfl, rfl, by decide +kernel, rfl, by decide +kernel, by decide +kernel⟩
abbrev N_law_class : List Str := ["caught", "some", "names", "name"]
theorem sc_law_class : FnScope N_law_class ["caught"] (defScope s_law_class) := ⟨rfl, rfl, rfl, by decide +kernel, rfl, by decide +kernel, by decide +kernel⟩
abbrev N_law_told : List Str := ["source", "name", "caught", "told", "e"]
theorem sc_law_told : FnScope N_law_told ["source", "name"] (defScope s_law_told) := ⟨rfl, rfl, rfl, by decide +kernel, rfl, by decide +kernel, by decide +kernel⟩
abbrev N_law_growing : List Str := ["bag", "many", "names", "lines", "k", "part", "way", "deep", "words"]
theorem sc_law_growing : FnScope N_law_growing ["bag"] (defScope s_law_growing) := ⟨rfl, rfl, rfl, by decide +kernel, rfl, by decide +kernel, by decide +kernel⟩
abbrev N_law_sizes : List Str := ["names", "lines", "found", "words", "size", "here", "deepest", "word", "more", "deep"]
theorem sc_law_sizes : FnScope N_law_sizes ["names", "lines"] (defScope s_law_sizes) := ⟨rfl, rfl, rfl, by decide +kernel, rfl, by decide +kernel, by decide +kernel⟩
abbrev Nlaw : List Str := ["script", "cell", "bag", "names", "lines", "text", "sizes", "rows", "k", "due", "some", "bad"]
theorem sclaw : FnScope Nlaw ["script"] (defScope slaw) := ⟨rfl, rfl, rfl, by decide +kernel, rfl, by decide +kernel, by decide +kernel⟩
/-! ### the head -/
def dInvalidText_init : HP.DefA := ⟨fun K => He.fAd K ("InvalidText", some "__init__"), "__init__", "InvalidText.__init__", defArgs sInvalidText_init, defBody sInvalidText_init, defScope sInvalidText_init, [], []⟩
def dInvalidSource_init : HP.DefA := ⟨fun K => He.fAd K ("InvalidSource", some "__init__"), "__init__", "InvalidSource.__init__", defArgs sInvalidSource_init, defBody sInvalidSource_init, defScope sInvalidSource_init, [], []⟩
def dTooDeep_init : HP.DefA := ⟨fun K => He.fAd K ("TooDeep", some "__init__"), "__init__", "TooDeep.__init__", defArgs sTooDeep_init, defBody sTooDeep_init, defScope sTooDeep_init, [], []⟩
def dTooLarge_init : HP.DefA := ⟨fun K => He.fAd K ("TooLarge", some "__init__"), "__init__", "TooLarge.__init__", defArgs sTooLarge_init, defBody sTooLarge_init, defScope sTooLarge_init, [], []⟩
def dis_integer : HP.DefA := ⟨fun K => He.fAd K ("is_integer", none), "is_integer", "is_integer", defArgs sis_integer, defBody sis_integer, defScope sis_integer, [], []⟩
def dis_integer_within : HP.DefA := ⟨fun K => He.fAd K ("is_integer_within", none), "is_integer_within", "is_integer_within", defArgs sis_integer_within, defBody sis_integer_within, defScope sis_integer_within, [], []⟩
def dis_decimal : HP.DefA := ⟨fun K => He.fAd K ("is_decimal", none), "is_decimal", "is_decimal", defArgs sis_decimal, defBody sis_decimal, defScope sis_decimal, [], []⟩
def dcheck_times : HP.DefA := ⟨fun K => He.fAd K ("check_times", none), "check_times", "check_times", defArgs scheck_times, defBody scheck_times, defScope scheck_times, [], []⟩
def dwords_of : HP.DefA := ⟨fun K => He.fAd K ("words_of", none), "words_of", "words_of", defArgs swords_of, defBody swords_of, defScope swords_of, [], []⟩
def dis_letter : HP.DefA := ⟨fun K => He.fAd K ("is_letter", none), "is_letter", "is_letter", defArgs sis_letter, defBody sis_letter, defScope sis_letter, [], []⟩
def dnumber_of : HP.DefA := ⟨fun K => He.fAd K ("number_of", none), "number_of", "number_of", defArgs snumber_of, defBody snumber_of, defScope snumber_of, [], []⟩
def dwrong_word : HP.DefA := ⟨fun K => He.fAd K ("wrong_word", none), "wrong_word", "wrong_word", defArgs swrong_word, defBody swrong_word, defScope swrong_word, [], []⟩
def dmirrored : HP.DefA := ⟨fun K => He.fAd K ("mirrored", none), "mirrored", "mirrored", defArgs smirrored, defBody smirrored, defScope smirrored, [], []⟩
def dbackward : HP.DefA := ⟨fun K => He.fAd K ("backward", none), "backward", "backward", defArgs sbackward, defBody sbackward, defScope sbackward, [], []⟩
def d_is_counted : HP.DefA := ⟨fun K => He.fAd K ("_is_counted", none), "_is_counted", "_is_counted", defArgs s_is_counted, defBody s_is_counted, defScope s_is_counted, [], []⟩
def d_is_number : HP.DefA := ⟨fun K => He.fAd K ("_is_number", none), "_is_number", "_is_number", defArgs s_is_number, defBody s_is_number, defScope s_is_number, [], []⟩
def dPart_init : HP.DefA := ⟨fun K => He.fAd K ("Part", some "__init__"), "__init__", "Part.__init__", defArgs sPart_init, defBody sPart_init, defScope sPart_init, [], []⟩
def dsize_of : HP.DefA := ⟨fun K => He.fAd K ("size_of", none), "size_of", "size_of", defArgs ssize_of, defBody ssize_of, defScope ssize_of, [], []⟩
def dlevels_of : HP.DefA := ⟨fun K => He.fAd K ("levels_of", none), "levels_of", "levels_of", defArgs slevels_of, defBody slevels_of, defScope slevels_of, [], []⟩
def dparts_of_words : HP.DefA := ⟨fun K => He.fAd K ("parts_of_words", none), "parts_of_words", "parts_of_words", defArgs sparts_of_words, defBody sparts_of_words, defScope sparts_of_words, [], []⟩
def d_parts_from : HP.DefA := ⟨fun K => He.fAd K ("_parts_from", none), "_parts_from", "_parts_from", defArgs s_parts_from, defBody s_parts_from, defScope s_parts_from, [], []⟩
def dcount_in : HP.DefA := ⟨fun K => He.fAd K ("count_in", none), "count_in", "count_in", defArgs scount_in, defBody scount_in, defScope scount_in, [], []⟩
def dProgram_init : HP.DefA := ⟨fun K => He.fAd K ("Program", some "__init__"), "__init__", "Program.__init__", defArgs sProgram_init, defBody sProgram_init, defScope sProgram_init, [], []⟩
def dProgram_text : HP.DefA := ⟨HP.getA "Program" "text", "text", "Program.text", defArgs sProgram_text, defBody sProgram_text, defScope sProgram_text, [], []⟩
def dProgram_length : HP.DefA := ⟨HP.getA "Program" "length", "length", "Program.length", defArgs sProgram_length, defBody sProgram_length, defScope sProgram_length, [], []⟩
def dProgram_depth : HP.DefA := ⟨HP.getA "Program" "depth", "depth", "Program.depth", defArgs sProgram_depth, defBody sProgram_depth, defScope sProgram_depth, [], []⟩
def dProgram_len : HP.DefA := ⟨fun K => He.fAd K ("Program", some "__len__"), "__len__", "Program.__len__", defArgs sProgram_len, defBody sProgram_len, defScope sProgram_len, [], []⟩
def dProgram_eq : HP.DefA := ⟨fun K => He.fAd K ("Program", some "__eq__"), "__eq__", "Program.__eq__", defArgs sProgram_eq, defBody sProgram_eq, defScope sProgram_eq, [], []⟩
def dProgram_contains : HP.DefA := ⟨fun K => He.fAd K ("Program", some "__contains__"), "__contains__", "Program.__contains__", defArgs sProgram_contains, defBody sProgram_contains, defScope sProgram_contains, [], []⟩
def dProgram_add : HP.DefA := ⟨fun K => He.fAd K ("Program", some "__add__"), "__add__", "Program.__add__", defArgs sProgram_add, defBody sProgram_add, defScope sProgram_add, [], []⟩
def dProgram_mul : HP.DefA := ⟨fun K => He.fAd K ("Program", some "__mul__"), "__mul__", "Program.__mul__", defArgs sProgram_mul, defBody sProgram_mul, defScope sProgram_mul, [], []⟩
def dProgram_neg : HP.DefA := ⟨fun K => He.fAd K ("Program", some "__neg__"), "__neg__", "Program.__neg__", defArgs sProgram_neg, defBody sProgram_neg, defScope sProgram_neg, [], []⟩
def dProgram_invert : HP.DefA := ⟨fun K => He.fAd K ("Program", some "__invert__"), "__invert__", "Program.__invert__", defArgs sProgram_invert, defBody sProgram_invert, defScope sProgram_invert, [], []⟩
def dcheck_text : HP.DefA := ⟨fun K => He.fAd K ("check_text", none), "check_text", "check_text", defArgs scheck_text, defBody scheck_text, defScope scheck_text, [], []⟩
def dcheck_program : HP.DefA := ⟨fun K => He.fAd K ("check_program", none), "check_program", "check_program", defArgs scheck_program, defBody scheck_program, defScope scheck_program, [], []⟩
def dread_source : HP.DefA := ⟨fun K => He.fAd K ("read_source", none), "read_source", "read_source", defArgs sread_source, defBody sread_source, defScope sread_source, [], []⟩
def droutine : HP.DefA := ⟨fun K => He.fAd K ("routine", none), "routine", "routine", defArgs sroutine, defBody sroutine, defScope sroutine, [], []⟩
def dnames_of : HP.DefA := ⟨fun K => He.fAd K ("names_of", none), "names_of", "names_of", defArgs snames_of, defBody snames_of, defScope snames_of, [], []⟩
def d_read_lines : HP.DefA := ⟨fun K => He.fAd K ("_read_lines", none), "_read_lines", "_read_lines", defArgs s_read_lines, defBody s_read_lines, defScope s_read_lines, [], []⟩
def d_wrong_in_named : HP.DefA := ⟨fun K => He.fAd K ("_wrong_in_named", none), "_wrong_in_named", "_wrong_in_named", defArgs s_wrong_in_named, defBody s_wrong_in_named, defScope s_wrong_in_named, [], []⟩
def d_is_naming : HP.DefA := ⟨fun K => He.fAd K ("_is_naming", none), "_is_naming", "_is_naming", defArgs s_is_naming, defBody s_is_naming, defScope s_is_naming, [], []⟩
def d_name_of : HP.DefA := ⟨fun K => He.fAd K ("_name_of", none), "_name_of", "_name_of", defArgs s_name_of, defBody s_name_of, defScope s_name_of, [], []⟩
def d_program_of : HP.DefA := ⟨fun K => He.fAd K ("_program_of", none), "_program_of", "_program_of", defArgs s_program_of, defBody s_program_of, defScope s_program_of, [], []⟩
def d_measure : HP.DefA := ⟨fun K => He.fAd K ("_measure", none), "_measure", "_measure", defArgs s_measure, defBody s_measure, defScope s_measure, [], []⟩
def d_replaced : HP.DefA := ⟨fun K => He.fAd K ("_replaced", none), "_replaced", "_replaced", defArgs s_replaced, defBody s_replaced, defScope s_replaced, [], []⟩
def d_law_bag : HP.DefA := ⟨fun K => He.fAd K ("_law_bag", none), "_law_bag", "_law_bag", defArgs s_law_bag, defBody s_law_bag, defScope s_law_bag, [], []⟩
def d_law_pick : HP.DefA := ⟨fun K => He.fAd K ("_law_pick", none), "_law_pick", "_law_pick", defArgs s_law_pick, defBody s_law_pick, defScope s_law_pick, [], []⟩
def d_law_number : HP.DefA := ⟨fun K => He.fAd K ("_law_number", none), "_law_number", "_law_number", defArgs s_law_number, defBody s_law_number, defScope s_law_number, [], []⟩
def d_law_words : HP.DefA := ⟨fun K => He.fAd K ("_law_words", none), "_law_words", "_law_words", defArgs s_law_words, defBody s_law_words, defScope s_law_words, [], []⟩
def d_law_length : HP.DefA := ⟨fun K => He.fAd K ("_law_length", none), "_law_length", "_law_length", defArgs s_law_length, defBody s_law_length, defScope s_law_length, [], []⟩
def d_law_steps : HP.DefA := ⟨fun K => He.fAd K ("_law_steps", none), "_law_steps", "_law_steps", defArgs s_law_steps, defBody s_law_steps, defScope s_law_steps, [], []⟩
def d_law_short : HP.DefA := ⟨fun K => He.fAd K ("_law_short", none), "_law_short", "_law_short", defArgs s_law_short, defBody s_law_short, defScope s_law_short, [], []⟩
def d_law_names : HP.DefA := ⟨fun K => He.fAd K ("_law_names", none), "_law_names", "_law_names", defArgs s_law_names, defBody s_law_names, defScope s_law_names, [], []⟩
def d_law_source : HP.DefA := ⟨fun K => He.fAd K ("_law_source", none), "_law_source", "_law_source", defArgs s_law_source, defBody s_law_source, defScope s_law_source, [], []⟩
def d_law_text : HP.DefA := ⟨fun K => He.fAd K ("_law_text", none), "_law_text", "_law_text", defArgs s_law_text, defBody s_law_text, defScope s_law_text, [], []⟩
def d_law_written : HP.DefA := ⟨fun K => He.fAd K ("_law_written", none), "_law_written", "_law_written", defArgs s_law_written, defBody s_law_written, defScope s_law_written, [], []⟩
def d_law_class : HP.DefA := ⟨fun K => He.fAd K ("_law_class", none), "_law_class", "_law_class", defArgs s_law_class, defBody s_law_class, defScope s_law_class, [], []⟩
def d_law_told : HP.DefA := ⟨fun K => He.fAd K ("_law_told", none), "_law_told", "_law_told", defArgs s_law_told, defBody s_law_told, defScope s_law_told, [], []⟩
def d_law_growing : HP.DefA := ⟨fun K => He.fAd K ("_law_growing", none), "_law_growing", "_law_growing", defArgs s_law_growing, defBody s_law_growing, defScope s_law_growing, [], []⟩
def d_law_sizes : HP.DefA := ⟨fun K => He.fAd K ("_law_sizes", none), "_law_sizes", "_law_sizes", defArgs s_law_sizes, defBody s_law_sizes, defScope s_law_sizes, [], []⟩
def dlaw : HP.DefA := ⟨fun K => He.fAd K ("law", none), "law", "law", defArgs slaw, defBody slaw, defScope slaw, [], []⟩
def fns : List HP.DefA := [dInvalidText_init, dInvalidSource_init, dTooDeep_init, dTooLarge_init, dis_integer, dis_integer_within, dis_decimal, dcheck_times, dwords_of, dis_letter, dnumber_of, dwrong_word, dmirrored, dbackward, d_is_counted, d_is_number, dPart_init, dsize_of, dlevels_of, dparts_of_words, d_parts_from, dcount_in, dProgram_init, dProgram_text, dProgram_length, dProgram_depth, dProgram_len, dProgram_eq, dProgram_contains, dProgram_add, dProgram_mul, dProgram_neg, dProgram_invert, dcheck_text, dcheck_program, dread_source, droutine, dnames_of, d_read_lines, d_wrong_in_named, d_is_naming, d_name_of, d_program_of, d_measure, d_replaced, d_law_bag, d_law_pick, d_law_number, d_law_words, d_law_length, d_law_steps, d_law_short, d_law_names, d_law_source, d_law_text, d_law_written, d_law_class, d_law_told, d_law_growing, d_law_sizes, dlaw]
def fa0 : List HP.Fact := [HP.fa_ (.glo "is_integer"), HP.fa_ (.glo "is_integer_within"), HP.fa_ (.glo "is_decimal"), HP.fa_ (.glo "check_times"), HP.fa_ (.glo "words_of"), HP.fa_ (.glo "is_letter"), HP.fa_ (.glo "number_of"), HP.fa_ (.glo "wrong_word"), HP.fa_ (.glo "mirrored"), HP.fa_ (.glo "backward"), HP.fa_ (.glo "_is_counted"), HP.fa_ (.glo "_is_number"), HP.fa_ (.glo "size_of"), HP.fa_ (.glo "levels_of"), HP.fa_ (.glo "parts_of_words"), HP.fa_ (.glo "_parts_from"), HP.fa_ (.glo "count_in"), HP.propB "Program" "text", HP.propB "Program" "length", HP.propB "Program" "depth", HP.fa_ (.meth "Program" "__len__"), HP.fa_ (.meth "Program" "__eq__"), HP.fa_ (.meth "Program" "__contains__"), HP.fa_ (.meth "Program" "__add__"), HP.fa_ (.meth "Program" "__mul__")]
def fa1 : List HP.Fact := [HP.fa_ (.meth "Program" "__neg__"), HP.fa_ (.meth "Program" "__invert__"), HP.fa_ (.glo "check_text"), HP.fa_ (.glo "check_program"), HP.fa_ (.glo "read_source"), HP.fa_ (.glo "routine"), HP.fa_ (.glo "names_of"), HP.fa_ (.glo "_read_lines"), HP.fa_ (.glo "_wrong_in_named"), HP.fa_ (.glo "_is_naming"), HP.fa_ (.glo "_name_of"), HP.fa_ (.glo "_program_of"), HP.fa_ (.glo "_measure"), HP.fa_ (.glo "_replaced"), HP.fa_ (.glo "_law_bag"), HP.fa_ (.glo "_law_pick"), HP.fa_ (.glo "_law_number"), HP.fa_ (.glo "_law_words"), HP.fa_ (.glo "_law_length"), HP.fa_ (.glo "_law_steps"), HP.fa_ (.glo "_law_short"), HP.fa_ (.glo "_law_names"), HP.fa_ (.glo "_law_source"), HP.fa_ (.glo "_law_text"), HP.fa_ (.glo "_law_written")]
def fa2 : List HP.Fact := [HP.fa_ (.glo "_law_class"), HP.fa_ (.glo "_law_told"), HP.fa_ (.glo "_law_growing"), HP.fa_ (.glo "_law_sizes"), HP.fa_ (.glo "law"), HP.fa_ (.glo "PlotError"), HP.fa_ (.glo "InvalidText"), HP.fa_ (.glo "InvalidSource"), HP.fa_ (.glo "TooDeep"), HP.fa_ (.glo "TooLarge"), HP.fa_ (.glo "InvalidProgram"), HP.fa_ (.glo "InvalidTimes"), HP.fa_ (.glo "InvalidIndex"), HP.fa_ (.glo "InvalidLetter"), HP.fa_ (.glo "InvalidName"), HP.fa_ (.glo "HasPen"), HP.fa_ (.glo "InvalidMotion"), HP.fa_ (.glo "InvalidPose"), HP.fa_ (.glo "InvalidPoint"), HP.fa_ (.glo "InvalidEdge"), HP.fa_ (.glo "InvalidPicture"), HP.fa_ (.glo "InvalidTurn"), HP.fa_ (.glo "InvalidFace"), HP.fa_ (.glo "InvalidFaces"), HP.fa_ (.glo "NotEven")]
def fa3 : List HP.Fact := [HP.fa_ (.glo "NotClosed"), HP.fa_ (.glo "InvalidIntervals"), HP.fa_ (.glo "InvalidPlace"), HP.fa_ (.glo "NotDrifting"), HP.fa_ (.glo "InvalidCount"), HP.fa_ (.glo "NoSteps"), HP.fa_ (.glo "InvalidOperation"), HP.fa_ (.glo "Nothing"), HP.fa_ (.glo "InvalidArt"), HP.fa_ (.glo "InvalidCommand"), HP.fa_ (.glo "Part"), HP.fa_ (.cls "Part"), HP.fa_ (.mkr "Part"), HP.isiB "Part", HP.kitB1 (fun K => .ref (He.ga K "Part")) (fun K => .ref (He.ga K "Part")) true, HP.fa_ (.noat "Part" "letter"), HP.fa_ (.noat "Part" "times"), HP.fa_ (.noat "Part" "inner"), HP.fa_ (.noat "Part" "unit"), HP.fa_ (.noat "Part" "size"), HP.fa_ (.noat "Part" "levels"), HP.fa_ (.glo "Program"), HP.fa_ (.cls "Program"), HP.fa_ (.mkr "Program"), HP.isiB "Program"]
def fa4 : List HP.Fact := [HP.kitB1 (fun K => .ref (He.ga K "Program")) (fun K => .ref (He.ga K "Program")) true, HP.fa_ (.noat "Program" "_text"), HP.fa_ (.noat "Program" "_words"), HP.fa_ (.noat "Program" "_parts"), HP.fa_ (.noat "Program" "_length"), HP.fa_ (.noat "Program" "_depth"), HP.fa_ (.free "ValueError"), HP.fa_ (.free "bool"), HP.fa_ (.free "enumerate"), HP.fa_ (.free "int"), HP.fa_ (.free "isinstance"), HP.fa_ (.free "len"), HP.fa_ (.free "list"), HP.fa_ (.free "max"), HP.fa_ (.free "property"), HP.fa_ (.free "range"), HP.fa_ (.free "repr"), HP.fa_ (.free "reversed"), HP.fa_ (.free "str"), HP.fa_ (.free "sum"), HP.fa_ (.free "tuple"), HP.fa_ (.int "MOST_TIMES" (1000000000000000000000000000000)), HP.fa_ (.int "MOST_DIGITS" (31)), HP.fa_ (.int "MOST_WORDS" (1000)), HP.fa_ (.int "MOST_DEPTH" (12))]
def fa5 : List HP.Fact := [HP.fa_ (.int "MOST_LINES" (20)), HP.fa_ (.int "SHORTEST_NAME" (2)), HP.fa_ (.int "LONGEST_NAME" (8)), HP.fa_ (.glo "LETTERS"), HP.tupB "LETTERS" [.str "f", .str "b", .str "l", .str "r", .str "u", .str "d"], HP.fa_ (.exc "InvalidName"), HP.excCB "InvalidName", HP.fa_ (.exm "InvalidName" "PlotError" true), HP.kitB1 (fun K => (.ref (He.ga K "InvalidName"))) (fun K => (.ref (He.ga K "InvalidText"))) false, HP.kitB1 (fun K => (.ref (He.ga K "InvalidName"))) (fun K => (.ref (He.ga K "InvalidSource"))) false, HP.kitB1 (fun K => (.ref (He.ga K "InvalidName"))) (fun K => (.ref (He.ga K "InvalidProgram"))) false, HP.kitB1 (fun K => (.ref (He.ga K "InvalidName"))) (fun K => (.ref (He.ga K "InvalidTimes"))) false, HP.kitB1 (fun K => (.ref (He.ga K "InvalidName"))) (fun K => (.ref (He.ga K "InvalidIndex"))) false, HP.kitB1 (fun K => (.ref (He.ga K "InvalidName"))) (fun K => (.ref (He.ga K "InvalidLetter"))) false, HP.kitB1 (fun K => (.ref (He.ga K "InvalidName"))) (fun K => (.ref (He.ga K "InvalidName"))) true, HP.kitB1 (fun K => (.ref (He.ga K "InvalidName"))) (fun K => (.ref (He.ga K "HasPen"))) false, HP.kitB1 (fun K => (.ref (He.ga K "InvalidName"))) (fun K => (.ref (He.ga K "TooDeep"))) false, HP.kitB1 (fun K => (.ref (He.ga K "InvalidName"))) (fun K => (.ref (He.ga K "TooLarge"))) false, HP.kitB1 (fun K => (.ref (He.ga K "InvalidName"))) (fun _ => .type "ValueError") true, HP.kitA1 (fun K => (.ref (He.ga K "InvalidName"))) ["InvalidArt", "InvalidCommand", "InvalidCount", "InvalidEdge", "InvalidFace", "InvalidFaces"] false, HP.kitA1 (fun K => (.ref (He.ga K "InvalidName"))) ["InvalidIntervals", "InvalidMotion", "InvalidOperation", "InvalidPicture", "InvalidPlace"] false, HP.kitA1 (fun K => (.ref (He.ga K "InvalidName"))) ["InvalidPoint", "InvalidPose", "InvalidTurn", "NoSteps", "NotClosed", "NotDrifting", "NotEven", "Nothing"] false, HX.oexB "TooDeep", HX.oinB "TooDeep", HX.noB "TooDeep" "limit"]
def fa6 : List HP.Fact := [HP.excCB "TooDeep", HP.fa_ (.exm "TooDeep" "PlotError" true), HP.kitB1 (fun K => (.ref (He.ga K "TooDeep"))) (fun K => (.ref (He.ga K "InvalidText"))) false, HP.kitB1 (fun K => (.ref (He.ga K "TooDeep"))) (fun K => (.ref (He.ga K "InvalidSource"))) false, HP.kitB1 (fun K => (.ref (He.ga K "TooDeep"))) (fun K => (.ref (He.ga K "InvalidProgram"))) false, HP.kitB1 (fun K => (.ref (He.ga K "TooDeep"))) (fun K => (.ref (He.ga K "InvalidTimes"))) false, HP.kitB1 (fun K => (.ref (He.ga K "TooDeep"))) (fun K => (.ref (He.ga K "InvalidIndex"))) false, HP.kitB1 (fun K => (.ref (He.ga K "TooDeep"))) (fun K => (.ref (He.ga K "InvalidLetter"))) false, HP.kitB1 (fun K => (.ref (He.ga K "TooDeep"))) (fun K => (.ref (He.ga K "InvalidName"))) false, HP.kitB1 (fun K => (.ref (He.ga K "TooDeep"))) (fun K => (.ref (He.ga K "HasPen"))) false, HP.kitB1 (fun K => (.ref (He.ga K "TooDeep"))) (fun K => (.ref (He.ga K "TooDeep"))) true, HP.kitB1 (fun K => (.ref (He.ga K "TooDeep"))) (fun K => (.ref (He.ga K "TooLarge"))) false, HP.kitB1 (fun K => (.ref (He.ga K "TooDeep"))) (fun _ => .type "ValueError") true, HP.kitA1 (fun K => (.ref (He.ga K "TooDeep"))) ["InvalidArt", "InvalidCommand", "InvalidCount", "InvalidEdge", "InvalidFace", "InvalidFaces"] false, HP.kitA1 (fun K => (.ref (He.ga K "TooDeep"))) ["InvalidIntervals", "InvalidMotion", "InvalidOperation", "InvalidPicture", "InvalidPlace"] false, HP.kitA1 (fun K => (.ref (He.ga K "TooDeep"))) ["InvalidPoint", "InvalidPose", "InvalidTurn", "NoSteps", "NotClosed", "NotDrifting", "NotEven", "Nothing"] false, HX.oexB "TooLarge", HX.oinB "TooLarge", HX.noB "TooLarge" "limit", HP.excCB "TooLarge", HP.fa_ (.exm "TooLarge" "PlotError" true), HP.kitB1 (fun K => (.ref (He.ga K "TooLarge"))) (fun K => (.ref (He.ga K "InvalidText"))) false, HP.kitB1 (fun K => (.ref (He.ga K "TooLarge"))) (fun K => (.ref (He.ga K "InvalidSource"))) false, HP.kitB1 (fun K => (.ref (He.ga K "TooLarge"))) (fun K => (.ref (He.ga K "InvalidProgram"))) false, HP.kitB1 (fun K => (.ref (He.ga K "TooLarge"))) (fun K => (.ref (He.ga K "InvalidTimes"))) false]
def fa7 : List HP.Fact := [HP.kitB1 (fun K => (.ref (He.ga K "TooLarge"))) (fun K => (.ref (He.ga K "InvalidIndex"))) false, HP.kitB1 (fun K => (.ref (He.ga K "TooLarge"))) (fun K => (.ref (He.ga K "InvalidLetter"))) false, HP.kitB1 (fun K => (.ref (He.ga K "TooLarge"))) (fun K => (.ref (He.ga K "InvalidName"))) false, HP.kitB1 (fun K => (.ref (He.ga K "TooLarge"))) (fun K => (.ref (He.ga K "HasPen"))) false, HP.kitB1 (fun K => (.ref (He.ga K "TooLarge"))) (fun K => (.ref (He.ga K "TooDeep"))) false, HP.kitB1 (fun K => (.ref (He.ga K "TooLarge"))) (fun K => (.ref (He.ga K "TooLarge"))) true, HP.kitB1 (fun K => (.ref (He.ga K "TooLarge"))) (fun _ => .type "ValueError") true, HP.kitA1 (fun K => (.ref (He.ga K "TooLarge"))) ["InvalidArt", "InvalidCommand", "InvalidCount", "InvalidEdge", "InvalidFace", "InvalidFaces"] false, HP.kitA1 (fun K => (.ref (He.ga K "TooLarge"))) ["InvalidIntervals", "InvalidMotion", "InvalidOperation", "InvalidPicture", "InvalidPlace"] false, HP.kitA1 (fun K => (.ref (He.ga K "TooLarge"))) ["InvalidPoint", "InvalidPose", "InvalidTurn", "NoSteps", "NotClosed", "NotDrifting", "NotEven", "Nothing"] false, HX.ceB "PlotError", DQ.sysB, HP.firstB "Program", HP.neB "Program", HP.notFirstB "Program" (fun K => (.ref (He.ga K "Program"))), HP.notFirstB "Program" (fun _ => .type "NoneType"), HP.kitB1 (fun _ => .type "NoneType") (fun K => (.ref (He.ga K "Program"))) false, HP.notFirstB "Program" (fun _ => .type "int"), HP.kitB1 (fun _ => .type "int") (fun K => (.ref (He.ga K "Program"))) false, HP.notFirstB "Program" (fun _ => .type "bool"), HP.kitB1 (fun _ => .type "bool") (fun K => (.ref (He.ga K "Program"))) false, HP.notFirstB "Program" (fun _ => .type "str"), HP.kitB1 (fun _ => .type "str") (fun K => (.ref (He.ga K "Program"))) false, HP.notFirstB "Program" (fun _ => .type "list"), HP.kitB1 (fun _ => .type "list") (fun K => (.ref (He.ga K "Program"))) false]
def fa8 : List HP.Fact := [HP.notFirstB "Program" (fun _ => .type "tuple"), HP.kitB1 (fun _ => .type "tuple") (fun K => (.ref (He.ga K "Program"))) false, HP.notFirstB "Program" (fun _ => .type "dict"), HP.kitB1 (fun _ => .type "dict") (fun K => (.ref (He.ga K "Program"))) false, HP.rightB "Program" .Mult "int"]
def facts : List HP.Fact := fa0 ++ fa1 ++ fa2 ++ fa3 ++ fa4 ++ fa5 ++ fa6 ++ fa7 ++ fa8
def nm0 : List Str := ["_wall", "PlotError", "InvalidText", "InvalidSource", "TooDeep", "TooLarge", "InvalidProgram", "InvalidTimes", "InvalidIndex", "InvalidLetter", "InvalidName", "HasPen", "InvalidMotion", "InvalidPose", "InvalidPoint", "InvalidEdge", "InvalidPicture", "InvalidTurn", "InvalidFace", "InvalidFaces", "NotEven", "NotClosed", "InvalidIntervals", "InvalidPlace", "NotDrifting", "InvalidCount", "NoSteps", "InvalidOperation", "Nothing", "InvalidArt"]
def nm1 : List Str := ["InvalidCommand", "MOST_TIMES", "MOST_DIGITS", "is_integer", "is_integer_within", "is_decimal", "check_times", "LETTERS", "MOST_WORDS", "MOST_DEPTH", "MIRRORED", "UNDONE", "words_of", "is_letter", "number_of", "wrong_word", "mirrored", "backward", "_is_counted", "_is_number", "Part", "size_of", "levels_of", "parts_of_words", "_parts_from", "count_in", "Program", "check_text", "check_program", "MOST_LINES"]
def nm2 : List Str := ["SHORTEST_NAME", "LONGEST_NAME", "read_source", "routine", "names_of", "_read_lines", "_wrong_in_named", "_is_naming", "_name_of", "_program_of", "_measure", "_replaced", "_law_bag", "_law_pick", "_law_number", "_law_words", "_law_length", "_law_steps", "_law_short", "_law_names", "_law_source", "_law_text", "_law_written", "_law_class", "_law_told", "_law_growing", "_law_sizes"]
def names : List Str := nm0 ++ nm1 ++ nm2
structure Tx (K : PySem.W.Frag) (mg : Str → Option Value) : Prop where
  g_is_integer : mg "is_integer" = some (.ref (He.ga K "is_integer"))
  g_is_integer_within : mg "is_integer_within" = some (.ref (He.ga K "is_integer_within"))
  g_is_decimal : mg "is_decimal" = some (.ref (He.ga K "is_decimal"))
  g_check_times : mg "check_times" = some (.ref (He.ga K "check_times"))
  g_words_of : mg "words_of" = some (.ref (He.ga K "words_of"))
  g_is_letter : mg "is_letter" = some (.ref (He.ga K "is_letter"))
  g_number_of : mg "number_of" = some (.ref (He.ga K "number_of"))
  g_wrong_word : mg "wrong_word" = some (.ref (He.ga K "wrong_word"))
  g_mirrored : mg "mirrored" = some (.ref (He.ga K "mirrored"))
  g_backward : mg "backward" = some (.ref (He.ga K "backward"))
  g__is_counted : mg "_is_counted" = some (.ref (He.ga K "_is_counted"))
  g__is_number : mg "_is_number" = some (.ref (He.ga K "_is_number"))
  g_size_of : mg "size_of" = some (.ref (He.ga K "size_of"))
  g_levels_of : mg "levels_of" = some (.ref (He.ga K "levels_of"))
  g_parts_of_words : mg "parts_of_words" = some (.ref (He.ga K "parts_of_words"))
  g__parts_from : mg "_parts_from" = some (.ref (He.ga K "_parts_from"))
  g_count_in : mg "count_in" = some (.ref (He.ga K "count_in"))
  p_Program_text : PropOf K (He.ga K "Program") "text" (He.ma K (He.ga K "Program") "text") (HP.getA "Program" "text" K)
  p_Program_length : PropOf K (He.ga K "Program") "length" (He.ma K (He.ga K "Program") "length") (HP.getA "Program" "length" K)
  p_Program_depth : PropOf K (He.ga K "Program") "depth" (He.ma K (He.ga K "Program") "depth") (HP.getA "Program" "depth" K)
  m_Program_len : Meth K (He.ga K "Program") "__len__" (He.ma K (He.ga K "Program") "__len__")
  m_Program_eq : Meth K (He.ga K "Program") "__eq__" (He.ma K (He.ga K "Program") "__eq__")
  m_Program_contains : Meth K (He.ga K "Program") "__contains__" (He.ma K (He.ga K "Program") "__contains__")
  m_Program_add : Meth K (He.ga K "Program") "__add__" (He.ma K (He.ga K "Program") "__add__")
  m_Program_mul : Meth K (He.ga K "Program") "__mul__" (He.ma K (He.ga K "Program") "__mul__")
  m_Program_neg : Meth K (He.ga K "Program") "__neg__" (He.ma K (He.ga K "Program") "__neg__")
  m_Program_invert : Meth K (He.ga K "Program") "__invert__" (He.ma K (He.ga K "Program") "__invert__")
  g_check_text : mg "check_text" = some (.ref (He.ga K "check_text"))
  g_check_program : mg "check_program" = some (.ref (He.ga K "check_program"))
  g_read_source : mg "read_source" = some (.ref (He.ga K "read_source"))
  g_routine : mg "routine" = some (.ref (He.ga K "routine"))
  g_names_of : mg "names_of" = some (.ref (He.ga K "names_of"))
  g__read_lines : mg "_read_lines" = some (.ref (He.ga K "_read_lines"))
  g__wrong_in_named : mg "_wrong_in_named" = some (.ref (He.ga K "_wrong_in_named"))
  g__is_naming : mg "_is_naming" = some (.ref (He.ga K "_is_naming"))
  g__name_of : mg "_name_of" = some (.ref (He.ga K "_name_of"))
  g__program_of : mg "_program_of" = some (.ref (He.ga K "_program_of"))
  g__measure : mg "_measure" = some (.ref (He.ga K "_measure"))
  g__replaced : mg "_replaced" = some (.ref (He.ga K "_replaced"))
  g__law_bag : mg "_law_bag" = some (.ref (He.ga K "_law_bag"))
  g__law_pick : mg "_law_pick" = some (.ref (He.ga K "_law_pick"))
  g__law_number : mg "_law_number" = some (.ref (He.ga K "_law_number"))
  g__law_words : mg "_law_words" = some (.ref (He.ga K "_law_words"))
  g__law_length : mg "_law_length" = some (.ref (He.ga K "_law_length"))
  g__law_steps : mg "_law_steps" = some (.ref (He.ga K "_law_steps"))
  g__law_short : mg "_law_short" = some (.ref (He.ga K "_law_short"))
  g__law_names : mg "_law_names" = some (.ref (He.ga K "_law_names"))
  g__law_source : mg "_law_source" = some (.ref (He.ga K "_law_source"))
  g__law_text : mg "_law_text" = some (.ref (He.ga K "_law_text"))
  g__law_written : mg "_law_written" = some (.ref (He.ga K "_law_written"))
  g__law_class : mg "_law_class" = some (.ref (He.ga K "_law_class"))
  g__law_told : mg "_law_told" = some (.ref (He.ga K "_law_told"))
  g__law_growing : mg "_law_growing" = some (.ref (He.ga K "_law_growing"))
  g__law_sizes : mg "_law_sizes" = some (.ref (He.ga K "_law_sizes"))
  g_law : mg "law" = some (.ref (He.ga K "law"))
  g_PlotError : mg "PlotError" = some (.ref (He.ga K "PlotError"))
  g_InvalidText : mg "InvalidText" = some (.ref (He.ga K "InvalidText"))
  g_InvalidSource : mg "InvalidSource" = some (.ref (He.ga K "InvalidSource"))
  g_TooDeep : mg "TooDeep" = some (.ref (He.ga K "TooDeep"))
  g_TooLarge : mg "TooLarge" = some (.ref (He.ga K "TooLarge"))
  g_InvalidProgram : mg "InvalidProgram" = some (.ref (He.ga K "InvalidProgram"))
  g_InvalidTimes : mg "InvalidTimes" = some (.ref (He.ga K "InvalidTimes"))
  g_InvalidIndex : mg "InvalidIndex" = some (.ref (He.ga K "InvalidIndex"))
  g_InvalidLetter : mg "InvalidLetter" = some (.ref (He.ga K "InvalidLetter"))
  g_InvalidName : mg "InvalidName" = some (.ref (He.ga K "InvalidName"))
  g_HasPen : mg "HasPen" = some (.ref (He.ga K "HasPen"))
  g_InvalidMotion : mg "InvalidMotion" = some (.ref (He.ga K "InvalidMotion"))
  g_InvalidPose : mg "InvalidPose" = some (.ref (He.ga K "InvalidPose"))
  g_InvalidPoint : mg "InvalidPoint" = some (.ref (He.ga K "InvalidPoint"))
  g_InvalidEdge : mg "InvalidEdge" = some (.ref (He.ga K "InvalidEdge"))
  g_InvalidPicture : mg "InvalidPicture" = some (.ref (He.ga K "InvalidPicture"))
  g_InvalidTurn : mg "InvalidTurn" = some (.ref (He.ga K "InvalidTurn"))
  g_InvalidFace : mg "InvalidFace" = some (.ref (He.ga K "InvalidFace"))
  g_InvalidFaces : mg "InvalidFaces" = some (.ref (He.ga K "InvalidFaces"))
  g_NotEven : mg "NotEven" = some (.ref (He.ga K "NotEven"))
  g_NotClosed : mg "NotClosed" = some (.ref (He.ga K "NotClosed"))
  g_InvalidIntervals : mg "InvalidIntervals" = some (.ref (He.ga K "InvalidIntervals"))
  g_InvalidPlace : mg "InvalidPlace" = some (.ref (He.ga K "InvalidPlace"))
  g_NotDrifting : mg "NotDrifting" = some (.ref (He.ga K "NotDrifting"))
  g_InvalidCount : mg "InvalidCount" = some (.ref (He.ga K "InvalidCount"))
  g_NoSteps : mg "NoSteps" = some (.ref (He.ga K "NoSteps"))
  g_InvalidOperation : mg "InvalidOperation" = some (.ref (He.ga K "InvalidOperation"))
  g_Nothing : mg "Nothing" = some (.ref (He.ga K "Nothing"))
  g_InvalidArt : mg "InvalidArt" = some (.ref (He.ga K "InvalidArt"))
  g_InvalidCommand : mg "InvalidCommand" = some (.ref (He.ga K "InvalidCommand"))
  g_Part : mg "Part" = some (.ref (He.ga K "Part"))
  c_Part : Cls K (He.ga K "Part")
  k_Part : Mk K (He.ga K "Part") (He.ma K (He.ga K "Part") "__init__")
  i_Part : HP.IsiC K (He.ga K "Part")
  t_Part : PySem.W.kitOne K (.ref (He.ga K "Part")) (.ref (He.ga K "Part")) = some true
  n_Part_letter : NoAttr K (He.ga K "Part") "letter"
  n_Part_times : NoAttr K (He.ga K "Part") "times"
  n_Part_inner : NoAttr K (He.ga K "Part") "inner"
  n_Part_unit : NoAttr K (He.ga K "Part") "unit"
  n_Part_size : NoAttr K (He.ga K "Part") "size"
  n_Part_levels : NoAttr K (He.ga K "Part") "levels"
  g_Program : mg "Program" = some (.ref (He.ga K "Program"))
  c_Program : Cls K (He.ga K "Program")
  k_Program : Mk K (He.ga K "Program") (He.ma K (He.ga K "Program") "__init__")
  i_Program : HP.IsiC K (He.ga K "Program")
  t_Program : PySem.W.kitOne K (.ref (He.ga K "Program")) (.ref (He.ga K "Program")) = some true
  n_Program__text : NoAttr K (He.ga K "Program") "_text"
  n_Program__words : NoAttr K (He.ga K "Program") "_words"
  n_Program__parts : NoAttr K (He.ga K "Program") "_parts"
  n_Program__length : NoAttr K (He.ga K "Program") "_length"
  n_Program__depth : NoAttr K (He.ga K "Program") "_depth"
  z_ValueError : mg "ValueError" = none
  z_bool : mg "bool" = none
  z_enumerate : mg "enumerate" = none
  z_int : mg "int" = none
  z_isinstance : mg "isinstance" = none
  z_len : mg "len" = none
  z_list : mg "list" = none
  z_max : mg "max" = none
  z_property : mg "property" = none
  z_range : mg "range" = none
  z_repr : mg "repr" = none
  z_reversed : mg "reversed" = none
  z_str : mg "str" = none
  z_sum : mg "sum" = none
  z_tuple : mg "tuple" = none
  v_MOST_TIMES : ∃ t, mg "MOST_TIMES" = some (.int (1000000000000000000000000000000) t)
  v_MOST_DIGITS : ∃ t, mg "MOST_DIGITS" = some (.int (31) t)
  v_MOST_WORDS : ∃ t, mg "MOST_WORDS" = some (.int (1000) t)
  v_MOST_DEPTH : ∃ t, mg "MOST_DEPTH" = some (.int (12) t)
  v_MOST_LINES : ∃ t, mg "MOST_LINES" = some (.int (20) t)
  v_SHORTEST_NAME : ∃ t, mg "SHORTEST_NAME" = some (.int (2) t)
  v_LONGEST_NAME : ∃ t, mg "LONGEST_NAME" = some (.int (8) t)
  g_LETTERS : mg "LETTERS" = some (.ref (He.ga K "LETTERS"))
  l_LETTERS : ∀ H : Hp, SqT K H (He.ga K "LETTERS") ([.str "f", .str "b", .str "l", .str "r", .str "u", .str "d"] : List V)
  x_InvalidName : PySem.W.excIn K (He.ga K "InvalidName") He.veBase "ValueError.__new__" = true ∧ PySem.W.keepIn K (.ref (He.ga K "InvalidName")) = true ∧ PySem.W.subIn K (.ref (He.ga K "InvalidName")) (.type "BaseException") = some true ∧ PySem.W.typeIn K (.ref (He.ga K "InvalidName")) = some (.type "type")
  e_InvalidName : ExcC K (He.ga K "InvalidName")
  pe_InvalidName : PySem.W.exmOne K (.ref (He.ga K "InvalidName")) (.ref (He.ga K "PlotError")) = some true
  q_InvalidName_InvalidText : PySem.W.kitOne K (.ref (He.ga K "InvalidName")) (.ref (He.ga K "InvalidText")) = some false
  q_InvalidName_InvalidSource : PySem.W.kitOne K (.ref (He.ga K "InvalidName")) (.ref (He.ga K "InvalidSource")) = some false
  q_InvalidName_InvalidProgram : PySem.W.kitOne K (.ref (He.ga K "InvalidName")) (.ref (He.ga K "InvalidProgram")) = some false
  q_InvalidName_InvalidTimes : PySem.W.kitOne K (.ref (He.ga K "InvalidName")) (.ref (He.ga K "InvalidTimes")) = some false
  q_InvalidName_InvalidIndex : PySem.W.kitOne K (.ref (He.ga K "InvalidName")) (.ref (He.ga K "InvalidIndex")) = some false
  q_InvalidName_InvalidLetter : PySem.W.kitOne K (.ref (He.ga K "InvalidName")) (.ref (He.ga K "InvalidLetter")) = some false
  q_InvalidName_InvalidName : PySem.W.kitOne K (.ref (He.ga K "InvalidName")) (.ref (He.ga K "InvalidName")) = some true
  q_InvalidName_HasPen : PySem.W.kitOne K (.ref (He.ga K "InvalidName")) (.ref (He.ga K "HasPen")) = some false
  q_InvalidName_TooDeep : PySem.W.kitOne K (.ref (He.ga K "InvalidName")) (.ref (He.ga K "TooDeep")) = some false
  q_InvalidName_TooLarge : PySem.W.kitOne K (.ref (He.ga K "InvalidName")) (.ref (He.ga K "TooLarge")) = some false
  q_InvalidName_VE : PySem.W.kitOne K (.ref (He.ga K "InvalidName")) (.type "ValueError") = some true
  qa0_InvalidName : PySem.W.kitAny K (.ref (He.ga K "InvalidName")) ((["InvalidArt", "InvalidCommand", "InvalidCount", "InvalidEdge", "InvalidFace", "InvalidFaces"] : List Str).map fun x => .ref (He.ga K x)) = some false
  qa1_InvalidName : PySem.W.kitAny K (.ref (He.ga K "InvalidName")) ((["InvalidIntervals", "InvalidMotion", "InvalidOperation", "InvalidPicture", "InvalidPlace"] : List Str).map fun x => .ref (He.ga K x)) = some false
  qa2_InvalidName : PySem.W.kitAny K (.ref (He.ga K "InvalidName")) ((["InvalidPoint", "InvalidPose", "InvalidTurn", "NoSteps", "NotClosed", "NotDrifting", "NotEven", "Nothing"] : List Str).map fun x => .ref (He.ga K x)) = some false
  ox_TooDeep : OexC K (He.ga K "TooDeep")
  oi_TooDeep : PySem.W.findIn K (.ref (He.ga K "TooDeep")) "__init__" = some (some (.ref (He.fAd K ("TooDeep", some "__init__")))) ∧ PySem.W.typeIn K (.ref (He.fAd K ("TooDeep", some "__init__"))) = some (.type "function")
  no_TooDeep_limit : PySem.W.findIn K (.ref (He.ga K "TooDeep")) "limit" = some none
  e_TooDeep : ExcC K (He.ga K "TooDeep")
  pe_TooDeep : PySem.W.exmOne K (.ref (He.ga K "TooDeep")) (.ref (He.ga K "PlotError")) = some true
  q_TooDeep_InvalidText : PySem.W.kitOne K (.ref (He.ga K "TooDeep")) (.ref (He.ga K "InvalidText")) = some false
  q_TooDeep_InvalidSource : PySem.W.kitOne K (.ref (He.ga K "TooDeep")) (.ref (He.ga K "InvalidSource")) = some false
  q_TooDeep_InvalidProgram : PySem.W.kitOne K (.ref (He.ga K "TooDeep")) (.ref (He.ga K "InvalidProgram")) = some false
  q_TooDeep_InvalidTimes : PySem.W.kitOne K (.ref (He.ga K "TooDeep")) (.ref (He.ga K "InvalidTimes")) = some false
  q_TooDeep_InvalidIndex : PySem.W.kitOne K (.ref (He.ga K "TooDeep")) (.ref (He.ga K "InvalidIndex")) = some false
  q_TooDeep_InvalidLetter : PySem.W.kitOne K (.ref (He.ga K "TooDeep")) (.ref (He.ga K "InvalidLetter")) = some false
  q_TooDeep_InvalidName : PySem.W.kitOne K (.ref (He.ga K "TooDeep")) (.ref (He.ga K "InvalidName")) = some false
  q_TooDeep_HasPen : PySem.W.kitOne K (.ref (He.ga K "TooDeep")) (.ref (He.ga K "HasPen")) = some false
  q_TooDeep_TooDeep : PySem.W.kitOne K (.ref (He.ga K "TooDeep")) (.ref (He.ga K "TooDeep")) = some true
  q_TooDeep_TooLarge : PySem.W.kitOne K (.ref (He.ga K "TooDeep")) (.ref (He.ga K "TooLarge")) = some false
  q_TooDeep_VE : PySem.W.kitOne K (.ref (He.ga K "TooDeep")) (.type "ValueError") = some true
  qa0_TooDeep : PySem.W.kitAny K (.ref (He.ga K "TooDeep")) ((["InvalidArt", "InvalidCommand", "InvalidCount", "InvalidEdge", "InvalidFace", "InvalidFaces"] : List Str).map fun x => .ref (He.ga K x)) = some false
  qa1_TooDeep : PySem.W.kitAny K (.ref (He.ga K "TooDeep")) ((["InvalidIntervals", "InvalidMotion", "InvalidOperation", "InvalidPicture", "InvalidPlace"] : List Str).map fun x => .ref (He.ga K x)) = some false
  qa2_TooDeep : PySem.W.kitAny K (.ref (He.ga K "TooDeep")) ((["InvalidPoint", "InvalidPose", "InvalidTurn", "NoSteps", "NotClosed", "NotDrifting", "NotEven", "Nothing"] : List Str).map fun x => .ref (He.ga K x)) = some false
  ox_TooLarge : OexC K (He.ga K "TooLarge")
  oi_TooLarge : PySem.W.findIn K (.ref (He.ga K "TooLarge")) "__init__" = some (some (.ref (He.fAd K ("TooLarge", some "__init__")))) ∧ PySem.W.typeIn K (.ref (He.fAd K ("TooLarge", some "__init__"))) = some (.type "function")
  no_TooLarge_limit : PySem.W.findIn K (.ref (He.ga K "TooLarge")) "limit" = some none
  e_TooLarge : ExcC K (He.ga K "TooLarge")
  pe_TooLarge : PySem.W.exmOne K (.ref (He.ga K "TooLarge")) (.ref (He.ga K "PlotError")) = some true
  q_TooLarge_InvalidText : PySem.W.kitOne K (.ref (He.ga K "TooLarge")) (.ref (He.ga K "InvalidText")) = some false
  q_TooLarge_InvalidSource : PySem.W.kitOne K (.ref (He.ga K "TooLarge")) (.ref (He.ga K "InvalidSource")) = some false
  q_TooLarge_InvalidProgram : PySem.W.kitOne K (.ref (He.ga K "TooLarge")) (.ref (He.ga K "InvalidProgram")) = some false
  q_TooLarge_InvalidTimes : PySem.W.kitOne K (.ref (He.ga K "TooLarge")) (.ref (He.ga K "InvalidTimes")) = some false
  q_TooLarge_InvalidIndex : PySem.W.kitOne K (.ref (He.ga K "TooLarge")) (.ref (He.ga K "InvalidIndex")) = some false
  q_TooLarge_InvalidLetter : PySem.W.kitOne K (.ref (He.ga K "TooLarge")) (.ref (He.ga K "InvalidLetter")) = some false
  q_TooLarge_InvalidName : PySem.W.kitOne K (.ref (He.ga K "TooLarge")) (.ref (He.ga K "InvalidName")) = some false
  q_TooLarge_HasPen : PySem.W.kitOne K (.ref (He.ga K "TooLarge")) (.ref (He.ga K "HasPen")) = some false
  q_TooLarge_TooDeep : PySem.W.kitOne K (.ref (He.ga K "TooLarge")) (.ref (He.ga K "TooDeep")) = some false
  q_TooLarge_TooLarge : PySem.W.kitOne K (.ref (He.ga K "TooLarge")) (.ref (He.ga K "TooLarge")) = some true
  q_TooLarge_VE : PySem.W.kitOne K (.ref (He.ga K "TooLarge")) (.type "ValueError") = some true
  qa0_TooLarge : PySem.W.kitAny K (.ref (He.ga K "TooLarge")) ((["InvalidArt", "InvalidCommand", "InvalidCount", "InvalidEdge", "InvalidFace", "InvalidFaces"] : List Str).map fun x => .ref (He.ga K x)) = some false
  qa1_TooLarge : PySem.W.kitAny K (.ref (He.ga K "TooLarge")) ((["InvalidIntervals", "InvalidMotion", "InvalidOperation", "InvalidPicture", "InvalidPlace"] : List Str).map fun x => .ref (He.ga K x)) = some false
  qa2_TooLarge : PySem.W.kitAny K (.ref (He.ga K "TooLarge")) ((["InvalidPoint", "InvalidPose", "InvalidTurn", "NoSteps", "NotClosed", "NotDrifting", "NotEven", "Nothing"] : List Str).map fun x => .ref (He.ga K x)) = some false
  ce_PlotError : PySem.W.specialIn K (.ref (He.ga K "PlotError")) "__getattribute__" = some (some (.builtin "type.__getattribute__")) ∧ PySem.W.typeIn K (.ref (He.ga K "PlotError")) = some (.type "type") ∧ PySem.W.readsIn K (He.ga K "PlotError") (.type "type") = true ∧ PySem.W.findCls K (.ref (He.ga K "PlotError")) (.type "type") "__init__" = some (.val (.builtin "ValueError.__init__"))
  sm : DQ.SysOk K
  f_Program : PySem.W.selfFirst K (He.ga K "Program") = true
  ne_Program : PySem.W.findIn K (.ref (He.ga K "Program")) "__ne__" = some (some (.builtin "object.__ne__"))
  nf_self : PySem.W.notFirst K (He.ga K "Program") (.ref (He.ga K "Program")) = true
  nf_none : PySem.W.notFirst K (He.ga K "Program") (.type "NoneType") = true
  kt_none : PySem.W.kitOne K (.type "NoneType") (.ref (He.ga K "Program")) = some false
  nf_int : PySem.W.notFirst K (He.ga K "Program") (.type "int") = true
  kt_int : PySem.W.kitOne K (.type "int") (.ref (He.ga K "Program")) = some false
  nf_bool : PySem.W.notFirst K (He.ga K "Program") (.type "bool") = true
  kt_bool : PySem.W.kitOne K (.type "bool") (.ref (He.ga K "Program")) = some false
  nf_str : PySem.W.notFirst K (He.ga K "Program") (.type "str") = true
  kt_str : PySem.W.kitOne K (.type "str") (.ref (He.ga K "Program")) = some false
  nf_list : PySem.W.notFirst K (He.ga K "Program") (.type "list") = true
  kt_list : PySem.W.kitOne K (.type "list") (.ref (He.ga K "Program")) = some false
  nf_tuple : PySem.W.notFirst K (He.ga K "Program") (.type "tuple") = true
  kt_tuple : PySem.W.kitOne K (.type "tuple") (.ref (He.ga K "Program")) = some false
  nf_dict : PySem.W.notFirst K (He.ga K "Program") (.type "dict") = true
  kt_dict : PySem.W.kitOne K (.type "dict") (.ref (He.ga K "Program")) = some false
  r_Mult_int : RT.RightT K (He.ga K "Program") .Mult "int"
structure Ds (K : PySem.W.Frag) where
  fd_InvalidText_init : FuncData
  F_InvalidText_init : FunD K "__init__" "InvalidText.__init__" (defArgs sInvalidText_init) (defBody sInvalidText_init) (defScope sInvalidText_init) [] [] (dInvalidText_init.adr K) fd_InvalidText_init
  fd_InvalidSource_init : FuncData
  F_InvalidSource_init : FunD K "__init__" "InvalidSource.__init__" (defArgs sInvalidSource_init) (defBody sInvalidSource_init) (defScope sInvalidSource_init) [] [] (dInvalidSource_init.adr K) fd_InvalidSource_init
  fd_TooDeep_init : FuncData
  F_TooDeep_init : FunD K "__init__" "TooDeep.__init__" (defArgs sTooDeep_init) (defBody sTooDeep_init) (defScope sTooDeep_init) [] [] (dTooDeep_init.adr K) fd_TooDeep_init
  fd_TooLarge_init : FuncData
  F_TooLarge_init : FunD K "__init__" "TooLarge.__init__" (defArgs sTooLarge_init) (defBody sTooLarge_init) (defScope sTooLarge_init) [] [] (dTooLarge_init.adr K) fd_TooLarge_init
  fd_is_integer : FuncData
  F_is_integer : FunD K "is_integer" "is_integer" (defArgs sis_integer) (defBody sis_integer) (defScope sis_integer) [] [] (dis_integer.adr K) fd_is_integer
  fd_is_integer_within : FuncData
  F_is_integer_within : FunD K "is_integer_within" "is_integer_within" (defArgs sis_integer_within) (defBody sis_integer_within) (defScope sis_integer_within) [] [] (dis_integer_within.adr K) fd_is_integer_within
  fd_is_decimal : FuncData
  F_is_decimal : FunD K "is_decimal" "is_decimal" (defArgs sis_decimal) (defBody sis_decimal) (defScope sis_decimal) [] [] (dis_decimal.adr K) fd_is_decimal
  fd_check_times : FuncData
  F_check_times : FunD K "check_times" "check_times" (defArgs scheck_times) (defBody scheck_times) (defScope scheck_times) [] [] (dcheck_times.adr K) fd_check_times
  fd_words_of : FuncData
  F_words_of : FunD K "words_of" "words_of" (defArgs swords_of) (defBody swords_of) (defScope swords_of) [] [] (dwords_of.adr K) fd_words_of
  fd_is_letter : FuncData
  F_is_letter : FunD K "is_letter" "is_letter" (defArgs sis_letter) (defBody sis_letter) (defScope sis_letter) [] [] (dis_letter.adr K) fd_is_letter
  fd_number_of : FuncData
  F_number_of : FunD K "number_of" "number_of" (defArgs snumber_of) (defBody snumber_of) (defScope snumber_of) [] [] (dnumber_of.adr K) fd_number_of
  fd_wrong_word : FuncData
  F_wrong_word : FunD K "wrong_word" "wrong_word" (defArgs swrong_word) (defBody swrong_word) (defScope swrong_word) [] [] (dwrong_word.adr K) fd_wrong_word
  fd_mirrored : FuncData
  F_mirrored : FunD K "mirrored" "mirrored" (defArgs smirrored) (defBody smirrored) (defScope smirrored) [] [] (dmirrored.adr K) fd_mirrored
  fd_backward : FuncData
  F_backward : FunD K "backward" "backward" (defArgs sbackward) (defBody sbackward) (defScope sbackward) [] [] (dbackward.adr K) fd_backward
  fd__is_counted : FuncData
  F__is_counted : FunD K "_is_counted" "_is_counted" (defArgs s_is_counted) (defBody s_is_counted) (defScope s_is_counted) [] [] (d_is_counted.adr K) fd__is_counted
  fd__is_number : FuncData
  F__is_number : FunD K "_is_number" "_is_number" (defArgs s_is_number) (defBody s_is_number) (defScope s_is_number) [] [] (d_is_number.adr K) fd__is_number
  fd_Part_init : FuncData
  F_Part_init : FunD K "__init__" "Part.__init__" (defArgs sPart_init) (defBody sPart_init) (defScope sPart_init) [] [] (dPart_init.adr K) fd_Part_init
  fd_size_of : FuncData
  F_size_of : FunD K "size_of" "size_of" (defArgs ssize_of) (defBody ssize_of) (defScope ssize_of) [] [] (dsize_of.adr K) fd_size_of
  fd_levels_of : FuncData
  F_levels_of : FunD K "levels_of" "levels_of" (defArgs slevels_of) (defBody slevels_of) (defScope slevels_of) [] [] (dlevels_of.adr K) fd_levels_of
  fd_parts_of_words : FuncData
  F_parts_of_words : FunD K "parts_of_words" "parts_of_words" (defArgs sparts_of_words) (defBody sparts_of_words) (defScope sparts_of_words) [] [] (dparts_of_words.adr K) fd_parts_of_words
  fd__parts_from : FuncData
  F__parts_from : FunD K "_parts_from" "_parts_from" (defArgs s_parts_from) (defBody s_parts_from) (defScope s_parts_from) [] [] (d_parts_from.adr K) fd__parts_from
  fd_count_in : FuncData
  F_count_in : FunD K "count_in" "count_in" (defArgs scount_in) (defBody scount_in) (defScope scount_in) [] [] (dcount_in.adr K) fd_count_in
  fd_Program_init : FuncData
  F_Program_init : FunD K "__init__" "Program.__init__" (defArgs sProgram_init) (defBody sProgram_init) (defScope sProgram_init) [] [] (dProgram_init.adr K) fd_Program_init
  fd_Program_text : FuncData
  F_Program_text : FunD K "text" "Program.text" (defArgs sProgram_text) (defBody sProgram_text) (defScope sProgram_text) [] [] (dProgram_text.adr K) fd_Program_text
  fd_Program_length : FuncData
  F_Program_length : FunD K "length" "Program.length" (defArgs sProgram_length) (defBody sProgram_length) (defScope sProgram_length) [] [] (dProgram_length.adr K) fd_Program_length
  fd_Program_depth : FuncData
  F_Program_depth : FunD K "depth" "Program.depth" (defArgs sProgram_depth) (defBody sProgram_depth) (defScope sProgram_depth) [] [] (dProgram_depth.adr K) fd_Program_depth
  fd_Program_len : FuncData
  F_Program_len : FunD K "__len__" "Program.__len__" (defArgs sProgram_len) (defBody sProgram_len) (defScope sProgram_len) [] [] (dProgram_len.adr K) fd_Program_len
  fd_Program_eq : FuncData
  F_Program_eq : FunD K "__eq__" "Program.__eq__" (defArgs sProgram_eq) (defBody sProgram_eq) (defScope sProgram_eq) [] [] (dProgram_eq.adr K) fd_Program_eq
  fd_Program_contains : FuncData
  F_Program_contains : FunD K "__contains__" "Program.__contains__" (defArgs sProgram_contains) (defBody sProgram_contains) (defScope sProgram_contains) [] [] (dProgram_contains.adr K) fd_Program_contains
  fd_Program_add : FuncData
  F_Program_add : FunD K "__add__" "Program.__add__" (defArgs sProgram_add) (defBody sProgram_add) (defScope sProgram_add) [] [] (dProgram_add.adr K) fd_Program_add
  fd_Program_mul : FuncData
  F_Program_mul : FunD K "__mul__" "Program.__mul__" (defArgs sProgram_mul) (defBody sProgram_mul) (defScope sProgram_mul) [] [] (dProgram_mul.adr K) fd_Program_mul
  fd_Program_neg : FuncData
  F_Program_neg : FunD K "__neg__" "Program.__neg__" (defArgs sProgram_neg) (defBody sProgram_neg) (defScope sProgram_neg) [] [] (dProgram_neg.adr K) fd_Program_neg
  fd_Program_invert : FuncData
  F_Program_invert : FunD K "__invert__" "Program.__invert__" (defArgs sProgram_invert) (defBody sProgram_invert) (defScope sProgram_invert) [] [] (dProgram_invert.adr K) fd_Program_invert
  fd_check_text : FuncData
  F_check_text : FunD K "check_text" "check_text" (defArgs scheck_text) (defBody scheck_text) (defScope scheck_text) [] [] (dcheck_text.adr K) fd_check_text
  fd_check_program : FuncData
  F_check_program : FunD K "check_program" "check_program" (defArgs scheck_program) (defBody scheck_program) (defScope scheck_program) [] [] (dcheck_program.adr K) fd_check_program
  fd_read_source : FuncData
  F_read_source : FunD K "read_source" "read_source" (defArgs sread_source) (defBody sread_source) (defScope sread_source) [] [] (dread_source.adr K) fd_read_source
  fd_routine : FuncData
  F_routine : FunD K "routine" "routine" (defArgs sroutine) (defBody sroutine) (defScope sroutine) [] [] (droutine.adr K) fd_routine
  fd_names_of : FuncData
  F_names_of : FunD K "names_of" "names_of" (defArgs snames_of) (defBody snames_of) (defScope snames_of) [] [] (dnames_of.adr K) fd_names_of
  fd__read_lines : FuncData
  F__read_lines : FunD K "_read_lines" "_read_lines" (defArgs s_read_lines) (defBody s_read_lines) (defScope s_read_lines) [] [] (d_read_lines.adr K) fd__read_lines
  fd__wrong_in_named : FuncData
  F__wrong_in_named : FunD K "_wrong_in_named" "_wrong_in_named" (defArgs s_wrong_in_named) (defBody s_wrong_in_named) (defScope s_wrong_in_named) [] [] (d_wrong_in_named.adr K) fd__wrong_in_named
  fd__is_naming : FuncData
  F__is_naming : FunD K "_is_naming" "_is_naming" (defArgs s_is_naming) (defBody s_is_naming) (defScope s_is_naming) [] [] (d_is_naming.adr K) fd__is_naming
  fd__name_of : FuncData
  F__name_of : FunD K "_name_of" "_name_of" (defArgs s_name_of) (defBody s_name_of) (defScope s_name_of) [] [] (d_name_of.adr K) fd__name_of
  fd__program_of : FuncData
  F__program_of : FunD K "_program_of" "_program_of" (defArgs s_program_of) (defBody s_program_of) (defScope s_program_of) [] [] (d_program_of.adr K) fd__program_of
  fd__measure : FuncData
  F__measure : FunD K "_measure" "_measure" (defArgs s_measure) (defBody s_measure) (defScope s_measure) [] [] (d_measure.adr K) fd__measure
  fd__replaced : FuncData
  F__replaced : FunD K "_replaced" "_replaced" (defArgs s_replaced) (defBody s_replaced) (defScope s_replaced) [] [] (d_replaced.adr K) fd__replaced
  fd__law_bag : FuncData
  F__law_bag : FunD K "_law_bag" "_law_bag" (defArgs s_law_bag) (defBody s_law_bag) (defScope s_law_bag) [] [] (d_law_bag.adr K) fd__law_bag
  fd__law_pick : FuncData
  F__law_pick : FunD K "_law_pick" "_law_pick" (defArgs s_law_pick) (defBody s_law_pick) (defScope s_law_pick) [] [] (d_law_pick.adr K) fd__law_pick
  fd__law_number : FuncData
  F__law_number : FunD K "_law_number" "_law_number" (defArgs s_law_number) (defBody s_law_number) (defScope s_law_number) [] [] (d_law_number.adr K) fd__law_number
  fd__law_words : FuncData
  F__law_words : FunD K "_law_words" "_law_words" (defArgs s_law_words) (defBody s_law_words) (defScope s_law_words) [] [] (d_law_words.adr K) fd__law_words
  fd__law_length : FuncData
  F__law_length : FunD K "_law_length" "_law_length" (defArgs s_law_length) (defBody s_law_length) (defScope s_law_length) [] [] (d_law_length.adr K) fd__law_length
  fd__law_steps : FuncData
  F__law_steps : FunD K "_law_steps" "_law_steps" (defArgs s_law_steps) (defBody s_law_steps) (defScope s_law_steps) [] [] (d_law_steps.adr K) fd__law_steps
  fd__law_short : FuncData
  F__law_short : FunD K "_law_short" "_law_short" (defArgs s_law_short) (defBody s_law_short) (defScope s_law_short) [] [] (d_law_short.adr K) fd__law_short
  fd__law_names : FuncData
  F__law_names : FunD K "_law_names" "_law_names" (defArgs s_law_names) (defBody s_law_names) (defScope s_law_names) [] [] (d_law_names.adr K) fd__law_names
  fd__law_source : FuncData
  F__law_source : FunD K "_law_source" "_law_source" (defArgs s_law_source) (defBody s_law_source) (defScope s_law_source) [] [] (d_law_source.adr K) fd__law_source
  fd__law_text : FuncData
  F__law_text : FunD K "_law_text" "_law_text" (defArgs s_law_text) (defBody s_law_text) (defScope s_law_text) [] [] (d_law_text.adr K) fd__law_text
  fd__law_written : FuncData
  F__law_written : FunD K "_law_written" "_law_written" (defArgs s_law_written) (defBody s_law_written) (defScope s_law_written) [] [] (d_law_written.adr K) fd__law_written
  fd__law_class : FuncData
  F__law_class : FunD K "_law_class" "_law_class" (defArgs s_law_class) (defBody s_law_class) (defScope s_law_class) [] [] (d_law_class.adr K) fd__law_class
  fd__law_told : FuncData
  F__law_told : FunD K "_law_told" "_law_told" (defArgs s_law_told) (defBody s_law_told) (defScope s_law_told) [] [] (d_law_told.adr K) fd__law_told
  fd__law_growing : FuncData
  F__law_growing : FunD K "_law_growing" "_law_growing" (defArgs s_law_growing) (defBody s_law_growing) (defScope s_law_growing) [] [] (d_law_growing.adr K) fd__law_growing
  fd__law_sizes : FuncData
  F__law_sizes : FunD K "_law_sizes" "_law_sizes" (defArgs s_law_sizes) (defBody s_law_sizes) (defScope s_law_sizes) [] [] (d_law_sizes.adr K) fd__law_sizes
  fd_law : FuncData
  F_law : FunD K "law" "law" (defArgs slaw) (defBody slaw) (defScope slaw) [] [] (dlaw.adr K) fd_law
theorem tx_of {K : PySem.W.Frag} {h : Heap} {mg : Str → Option Value} (X : K.In h) (G : h.Ns mainGlobals mg) (c : HP.SaysA facts fns K) : Tx K mg where
  g_is_integer := He.glo_ok X G (c.fact 0 rfl)
  g_is_integer_within := He.glo_ok X G (c.fact 1 rfl)
  g_is_decimal := He.glo_ok X G (c.fact 2 rfl)
  g_check_times := He.glo_ok X G (c.fact 3 rfl)
  g_words_of := He.glo_ok X G (c.fact 4 rfl)
  g_is_letter := He.glo_ok X G (c.fact 5 rfl)
  g_number_of := He.glo_ok X G (c.fact 6 rfl)
  g_wrong_word := He.glo_ok X G (c.fact 7 rfl)
  g_mirrored := He.glo_ok X G (c.fact 8 rfl)
  g_backward := He.glo_ok X G (c.fact 9 rfl)
  g__is_counted := He.glo_ok X G (c.fact 10 rfl)
  g__is_number := He.glo_ok X G (c.fact 11 rfl)
  g_size_of := He.glo_ok X G (c.fact 12 rfl)
  g_levels_of := He.glo_ok X G (c.fact 13 rfl)
  g_parts_of_words := He.glo_ok X G (c.fact 14 rfl)
  g__parts_from := He.glo_ok X G (c.fact 15 rfl)
  g_count_in := He.glo_ok X G (c.fact 16 rfl)
  p_Program_text := HP.propB_ok (c.fact 17 rfl)
  p_Program_length := HP.propB_ok (c.fact 18 rfl)
  p_Program_depth := HP.propB_ok (c.fact 19 rfl)
  m_Program_len := He.meth_ok (c.fact 20 rfl)
  m_Program_eq := He.meth_ok (c.fact 21 rfl)
  m_Program_contains := He.meth_ok (c.fact 22 rfl)
  m_Program_add := He.meth_ok (c.fact 23 rfl)
  m_Program_mul := He.meth_ok (c.fact 24 rfl)
  m_Program_neg := He.meth_ok (c.fact 25 rfl)
  m_Program_invert := He.meth_ok (c.fact 26 rfl)
  g_check_text := He.glo_ok X G (c.fact 27 rfl)
  g_check_program := He.glo_ok X G (c.fact 28 rfl)
  g_read_source := He.glo_ok X G (c.fact 29 rfl)
  g_routine := He.glo_ok X G (c.fact 30 rfl)
  g_names_of := He.glo_ok X G (c.fact 31 rfl)
  g__read_lines := He.glo_ok X G (c.fact 32 rfl)
  g__wrong_in_named := He.glo_ok X G (c.fact 33 rfl)
  g__is_naming := He.glo_ok X G (c.fact 34 rfl)
  g__name_of := He.glo_ok X G (c.fact 35 rfl)
  g__program_of := He.glo_ok X G (c.fact 36 rfl)
  g__measure := He.glo_ok X G (c.fact 37 rfl)
  g__replaced := He.glo_ok X G (c.fact 38 rfl)
  g__law_bag := He.glo_ok X G (c.fact 39 rfl)
  g__law_pick := He.glo_ok X G (c.fact 40 rfl)
  g__law_number := He.glo_ok X G (c.fact 41 rfl)
  g__law_words := He.glo_ok X G (c.fact 42 rfl)
  g__law_length := He.glo_ok X G (c.fact 43 rfl)
  g__law_steps := He.glo_ok X G (c.fact 44 rfl)
  g__law_short := He.glo_ok X G (c.fact 45 rfl)
  g__law_names := He.glo_ok X G (c.fact 46 rfl)
  g__law_source := He.glo_ok X G (c.fact 47 rfl)
  g__law_text := He.glo_ok X G (c.fact 48 rfl)
  g__law_written := He.glo_ok X G (c.fact 49 rfl)
  g__law_class := He.glo_ok X G (c.fact 50 rfl)
  g__law_told := He.glo_ok X G (c.fact 51 rfl)
  g__law_growing := He.glo_ok X G (c.fact 52 rfl)
  g__law_sizes := He.glo_ok X G (c.fact 53 rfl)
  g_law := He.glo_ok X G (c.fact 54 rfl)
  g_PlotError := He.glo_ok X G (c.fact 55 rfl)
  g_InvalidText := He.glo_ok X G (c.fact 56 rfl)
  g_InvalidSource := He.glo_ok X G (c.fact 57 rfl)
  g_TooDeep := He.glo_ok X G (c.fact 58 rfl)
  g_TooLarge := He.glo_ok X G (c.fact 59 rfl)
  g_InvalidProgram := He.glo_ok X G (c.fact 60 rfl)
  g_InvalidTimes := He.glo_ok X G (c.fact 61 rfl)
  g_InvalidIndex := He.glo_ok X G (c.fact 62 rfl)
  g_InvalidLetter := He.glo_ok X G (c.fact 63 rfl)
  g_InvalidName := He.glo_ok X G (c.fact 64 rfl)
  g_HasPen := He.glo_ok X G (c.fact 65 rfl)
  g_InvalidMotion := He.glo_ok X G (c.fact 66 rfl)
  g_InvalidPose := He.glo_ok X G (c.fact 67 rfl)
  g_InvalidPoint := He.glo_ok X G (c.fact 68 rfl)
  g_InvalidEdge := He.glo_ok X G (c.fact 69 rfl)
  g_InvalidPicture := He.glo_ok X G (c.fact 70 rfl)
  g_InvalidTurn := He.glo_ok X G (c.fact 71 rfl)
  g_InvalidFace := He.glo_ok X G (c.fact 72 rfl)
  g_InvalidFaces := He.glo_ok X G (c.fact 73 rfl)
  g_NotEven := He.glo_ok X G (c.fact 74 rfl)
  g_NotClosed := He.glo_ok X G (c.fact 75 rfl)
  g_InvalidIntervals := He.glo_ok X G (c.fact 76 rfl)
  g_InvalidPlace := He.glo_ok X G (c.fact 77 rfl)
  g_NotDrifting := He.glo_ok X G (c.fact 78 rfl)
  g_InvalidCount := He.glo_ok X G (c.fact 79 rfl)
  g_NoSteps := He.glo_ok X G (c.fact 80 rfl)
  g_InvalidOperation := He.glo_ok X G (c.fact 81 rfl)
  g_Nothing := He.glo_ok X G (c.fact 82 rfl)
  g_InvalidArt := He.glo_ok X G (c.fact 83 rfl)
  g_InvalidCommand := He.glo_ok X G (c.fact 84 rfl)
  g_Part := He.glo_ok X G (c.fact 85 rfl)
  c_Part := He.cls_ok (c.fact 86 rfl)
  k_Part := He.mkr_ok (c.fact 87 rfl)
  i_Part := HP.isiB_ok (c.fact 88 rfl)
  t_Part := of_decide_eq_true (c.fact 89 rfl)
  n_Part_letter := He.noat_ok (c.fact 90 rfl)
  n_Part_times := He.noat_ok (c.fact 91 rfl)
  n_Part_inner := He.noat_ok (c.fact 92 rfl)
  n_Part_unit := He.noat_ok (c.fact 93 rfl)
  n_Part_size := He.noat_ok (c.fact 94 rfl)
  n_Part_levels := He.noat_ok (c.fact 95 rfl)
  g_Program := He.glo_ok X G (c.fact 96 rfl)
  c_Program := He.cls_ok (c.fact 97 rfl)
  k_Program := He.mkr_ok (c.fact 98 rfl)
  i_Program := HP.isiB_ok (c.fact 99 rfl)
  t_Program := of_decide_eq_true (c.fact 100 rfl)
  n_Program__text := He.noat_ok (c.fact 101 rfl)
  n_Program__words := He.noat_ok (c.fact 102 rfl)
  n_Program__parts := He.noat_ok (c.fact 103 rfl)
  n_Program__length := He.noat_ok (c.fact 104 rfl)
  n_Program__depth := He.noat_ok (c.fact 105 rfl)
  z_ValueError := He.free_ok X G (c.fact 106 rfl)
  z_bool := He.free_ok X G (c.fact 107 rfl)
  z_enumerate := He.free_ok X G (c.fact 108 rfl)
  z_int := He.free_ok X G (c.fact 109 rfl)
  z_isinstance := He.free_ok X G (c.fact 110 rfl)
  z_len := He.free_ok X G (c.fact 111 rfl)
  z_list := He.free_ok X G (c.fact 112 rfl)
  z_max := He.free_ok X G (c.fact 113 rfl)
  z_property := He.free_ok X G (c.fact 114 rfl)
  z_range := He.free_ok X G (c.fact 115 rfl)
  z_repr := He.free_ok X G (c.fact 116 rfl)
  z_reversed := He.free_ok X G (c.fact 117 rfl)
  z_str := He.free_ok X G (c.fact 118 rfl)
  z_sum := He.free_ok X G (c.fact 119 rfl)
  z_tuple := He.free_ok X G (c.fact 120 rfl)
  v_MOST_TIMES := He.int_ok X G (c.fact 121 rfl)
  v_MOST_DIGITS := He.int_ok X G (c.fact 122 rfl)
  v_MOST_WORDS := He.int_ok X G (c.fact 123 rfl)
  v_MOST_DEPTH := He.int_ok X G (c.fact 124 rfl)
  v_MOST_LINES := He.int_ok X G (c.fact 125 rfl)
  v_SHORTEST_NAME := He.int_ok X G (c.fact 126 rfl)
  v_LONGEST_NAME := He.int_ok X G (c.fact 127 rfl)
  g_LETTERS := He.glo_ok X G (c.fact 128 rfl)
  l_LETTERS := HP.tupB_ok (c.fact 129 rfl)
  x_InvalidName := He.exc_ok (c.fact 130 rfl)
  e_InvalidName := HP.excCB_ok (c.fact 131 rfl)
  pe_InvalidName := He.exm_ok (c.fact 132 rfl)
  q_InvalidName_InvalidText := of_decide_eq_true (c.fact 133 rfl)
  q_InvalidName_InvalidSource := of_decide_eq_true (c.fact 134 rfl)
  q_InvalidName_InvalidProgram := of_decide_eq_true (c.fact 135 rfl)
  q_InvalidName_InvalidTimes := of_decide_eq_true (c.fact 136 rfl)
  q_InvalidName_InvalidIndex := of_decide_eq_true (c.fact 137 rfl)
  q_InvalidName_InvalidLetter := of_decide_eq_true (c.fact 138 rfl)
  q_InvalidName_InvalidName := of_decide_eq_true (c.fact 139 rfl)
  q_InvalidName_HasPen := of_decide_eq_true (c.fact 140 rfl)
  q_InvalidName_TooDeep := of_decide_eq_true (c.fact 141 rfl)
  q_InvalidName_TooLarge := of_decide_eq_true (c.fact 142 rfl)
  q_InvalidName_VE := of_decide_eq_true (c.fact 143 rfl)
  qa0_InvalidName := of_decide_eq_true (c.fact 144 rfl)
  qa1_InvalidName := of_decide_eq_true (c.fact 145 rfl)
  qa2_InvalidName := of_decide_eq_true (c.fact 146 rfl)
  ox_TooDeep := HX.oexB_ok (c.fact 147 rfl)
  oi_TooDeep := HX.oinB_ok (c.fact 148 rfl)
  no_TooDeep_limit := HX.noB_ok (c.fact 149 rfl)
  e_TooDeep := HP.excCB_ok (c.fact 150 rfl)
  pe_TooDeep := He.exm_ok (c.fact 151 rfl)
  q_TooDeep_InvalidText := of_decide_eq_true (c.fact 152 rfl)
  q_TooDeep_InvalidSource := of_decide_eq_true (c.fact 153 rfl)
  q_TooDeep_InvalidProgram := of_decide_eq_true (c.fact 154 rfl)
  q_TooDeep_InvalidTimes := of_decide_eq_true (c.fact 155 rfl)
  q_TooDeep_InvalidIndex := of_decide_eq_true (c.fact 156 rfl)
  q_TooDeep_InvalidLetter := of_decide_eq_true (c.fact 157 rfl)
  q_TooDeep_InvalidName := of_decide_eq_true (c.fact 158 rfl)
  q_TooDeep_HasPen := of_decide_eq_true (c.fact 159 rfl)
  q_TooDeep_TooDeep := of_decide_eq_true (c.fact 160 rfl)
  q_TooDeep_TooLarge := of_decide_eq_true (c.fact 161 rfl)
  q_TooDeep_VE := of_decide_eq_true (c.fact 162 rfl)
  qa0_TooDeep := of_decide_eq_true (c.fact 163 rfl)
  qa1_TooDeep := of_decide_eq_true (c.fact 164 rfl)
  qa2_TooDeep := of_decide_eq_true (c.fact 165 rfl)
  ox_TooLarge := HX.oexB_ok (c.fact 166 rfl)
  oi_TooLarge := HX.oinB_ok (c.fact 167 rfl)
  no_TooLarge_limit := HX.noB_ok (c.fact 168 rfl)
  e_TooLarge := HP.excCB_ok (c.fact 169 rfl)
  pe_TooLarge := He.exm_ok (c.fact 170 rfl)
  q_TooLarge_InvalidText := of_decide_eq_true (c.fact 171 rfl)
  q_TooLarge_InvalidSource := of_decide_eq_true (c.fact 172 rfl)
  q_TooLarge_InvalidProgram := of_decide_eq_true (c.fact 173 rfl)
  q_TooLarge_InvalidTimes := of_decide_eq_true (c.fact 174 rfl)
  q_TooLarge_InvalidIndex := of_decide_eq_true (c.fact 175 rfl)
  q_TooLarge_InvalidLetter := of_decide_eq_true (c.fact 176 rfl)
  q_TooLarge_InvalidName := of_decide_eq_true (c.fact 177 rfl)
  q_TooLarge_HasPen := of_decide_eq_true (c.fact 178 rfl)
  q_TooLarge_TooDeep := of_decide_eq_true (c.fact 179 rfl)
  q_TooLarge_TooLarge := of_decide_eq_true (c.fact 180 rfl)
  q_TooLarge_VE := of_decide_eq_true (c.fact 181 rfl)
  qa0_TooLarge := of_decide_eq_true (c.fact 182 rfl)
  qa1_TooLarge := of_decide_eq_true (c.fact 183 rfl)
  qa2_TooLarge := of_decide_eq_true (c.fact 184 rfl)
  ce_PlotError := HX.ceB_ok (c.fact 185 rfl)
  sm := DQ.sysB_ok (c.fact 186 rfl)
  f_Program := (c.fact 187 rfl)
  ne_Program := HP.neB_ok (c.fact 188 rfl)
  nf_self := (c.fact 189 rfl)
  nf_none := (c.fact 190 rfl)
  kt_none := of_decide_eq_true (c.fact 191 rfl)
  nf_int := (c.fact 192 rfl)
  kt_int := of_decide_eq_true (c.fact 193 rfl)
  nf_bool := (c.fact 194 rfl)
  kt_bool := of_decide_eq_true (c.fact 195 rfl)
  nf_str := (c.fact 196 rfl)
  kt_str := of_decide_eq_true (c.fact 197 rfl)
  nf_list := (c.fact 198 rfl)
  kt_list := of_decide_eq_true (c.fact 199 rfl)
  nf_tuple := (c.fact 200 rfl)
  kt_tuple := of_decide_eq_true (c.fact 201 rfl)
  nf_dict := (c.fact 202 rfl)
  kt_dict := of_decide_eq_true (c.fact 203 rfl)
  r_Mult_int := HP.rightB_ok (c.fact 204 rfl)
theorem ds_of {K : PySem.W.Frag} (c : HP.SaysA facts fns K) : Nonempty (Ds K) := by
  obtain ⟨f0, p0⟩ := c.def_ 0 (d := dInvalidText_init) rfl
  obtain ⟨f1, p1⟩ := c.def_ 1 (d := dInvalidSource_init) rfl
  obtain ⟨f2, p2⟩ := c.def_ 2 (d := dTooDeep_init) rfl
  obtain ⟨f3, p3⟩ := c.def_ 3 (d := dTooLarge_init) rfl
  obtain ⟨f4, p4⟩ := c.def_ 4 (d := dis_integer) rfl
  obtain ⟨f5, p5⟩ := c.def_ 5 (d := dis_integer_within) rfl
  obtain ⟨f6, p6⟩ := c.def_ 6 (d := dis_decimal) rfl
  obtain ⟨f7, p7⟩ := c.def_ 7 (d := dcheck_times) rfl
  obtain ⟨f8, p8⟩ := c.def_ 8 (d := dwords_of) rfl
  obtain ⟨f9, p9⟩ := c.def_ 9 (d := dis_letter) rfl
  obtain ⟨f10, p10⟩ := c.def_ 10 (d := dnumber_of) rfl
  obtain ⟨f11, p11⟩ := c.def_ 11 (d := dwrong_word) rfl
  obtain ⟨f12, p12⟩ := c.def_ 12 (d := dmirrored) rfl
  obtain ⟨f13, p13⟩ := c.def_ 13 (d := dbackward) rfl
  obtain ⟨f14, p14⟩ := c.def_ 14 (d := d_is_counted) rfl
  obtain ⟨f15, p15⟩ := c.def_ 15 (d := d_is_number) rfl
  obtain ⟨f16, p16⟩ := c.def_ 16 (d := dPart_init) rfl
  obtain ⟨f17, p17⟩ := c.def_ 17 (d := dsize_of) rfl
  obtain ⟨f18, p18⟩ := c.def_ 18 (d := dlevels_of) rfl
  obtain ⟨f19, p19⟩ := c.def_ 19 (d := dparts_of_words) rfl
  obtain ⟨f20, p20⟩ := c.def_ 20 (d := d_parts_from) rfl
  obtain ⟨f21, p21⟩ := c.def_ 21 (d := dcount_in) rfl
  obtain ⟨f22, p22⟩ := c.def_ 22 (d := dProgram_init) rfl
  obtain ⟨f23, p23⟩ := c.def_ 23 (d := dProgram_text) rfl
  obtain ⟨f24, p24⟩ := c.def_ 24 (d := dProgram_length) rfl
  obtain ⟨f25, p25⟩ := c.def_ 25 (d := dProgram_depth) rfl
  obtain ⟨f26, p26⟩ := c.def_ 26 (d := dProgram_len) rfl
  obtain ⟨f27, p27⟩ := c.def_ 27 (d := dProgram_eq) rfl
  obtain ⟨f28, p28⟩ := c.def_ 28 (d := dProgram_contains) rfl
  obtain ⟨f29, p29⟩ := c.def_ 29 (d := dProgram_add) rfl
  obtain ⟨f30, p30⟩ := c.def_ 30 (d := dProgram_mul) rfl
  obtain ⟨f31, p31⟩ := c.def_ 31 (d := dProgram_neg) rfl
  obtain ⟨f32, p32⟩ := c.def_ 32 (d := dProgram_invert) rfl
  obtain ⟨f33, p33⟩ := c.def_ 33 (d := dcheck_text) rfl
  obtain ⟨f34, p34⟩ := c.def_ 34 (d := dcheck_program) rfl
  obtain ⟨f35, p35⟩ := c.def_ 35 (d := dread_source) rfl
  obtain ⟨f36, p36⟩ := c.def_ 36 (d := droutine) rfl
  obtain ⟨f37, p37⟩ := c.def_ 37 (d := dnames_of) rfl
  obtain ⟨f38, p38⟩ := c.def_ 38 (d := d_read_lines) rfl
  obtain ⟨f39, p39⟩ := c.def_ 39 (d := d_wrong_in_named) rfl
  obtain ⟨f40, p40⟩ := c.def_ 40 (d := d_is_naming) rfl
  obtain ⟨f41, p41⟩ := c.def_ 41 (d := d_name_of) rfl
  obtain ⟨f42, p42⟩ := c.def_ 42 (d := d_program_of) rfl
  obtain ⟨f43, p43⟩ := c.def_ 43 (d := d_measure) rfl
  obtain ⟨f44, p44⟩ := c.def_ 44 (d := d_replaced) rfl
  obtain ⟨f45, p45⟩ := c.def_ 45 (d := d_law_bag) rfl
  obtain ⟨f46, p46⟩ := c.def_ 46 (d := d_law_pick) rfl
  obtain ⟨f47, p47⟩ := c.def_ 47 (d := d_law_number) rfl
  obtain ⟨f48, p48⟩ := c.def_ 48 (d := d_law_words) rfl
  obtain ⟨f49, p49⟩ := c.def_ 49 (d := d_law_length) rfl
  obtain ⟨f50, p50⟩ := c.def_ 50 (d := d_law_steps) rfl
  obtain ⟨f51, p51⟩ := c.def_ 51 (d := d_law_short) rfl
  obtain ⟨f52, p52⟩ := c.def_ 52 (d := d_law_names) rfl
  obtain ⟨f53, p53⟩ := c.def_ 53 (d := d_law_source) rfl
  obtain ⟨f54, p54⟩ := c.def_ 54 (d := d_law_text) rfl
  obtain ⟨f55, p55⟩ := c.def_ 55 (d := d_law_written) rfl
  obtain ⟨f56, p56⟩ := c.def_ 56 (d := d_law_class) rfl
  obtain ⟨f57, p57⟩ := c.def_ 57 (d := d_law_told) rfl
  obtain ⟨f58, p58⟩ := c.def_ 58 (d := d_law_growing) rfl
  obtain ⟨f59, p59⟩ := c.def_ 59 (d := d_law_sizes) rfl
  obtain ⟨f60, p60⟩ := c.def_ 60 (d := dlaw) rfl
  exact ⟨⟨f0, p0, f1, p1, f2, p2, f3, p3, f4, p4, f5, p5, f6, p6, f7, p7, f8, p8, f9, p9, f10, p10, f11, p11, f12, p12, f13, p13, f14, p14, f15, p15, f16, p16, f17, p17, f18, p18, f19, p19, f20, p20, f21, p21, f22, p22, f23, p23, f24, p24, f25, p25, f26, p26, f27, p27, f28, p28, f29, p29, f30, p30, f31, p31, f32, p32, f33, p33, f34, p34, f35, p35, f36, p36, f37, p37, f38, p38, f39, p39, f40, p40, f41, p41, f42, p42, f43, p43, f44, p44, f45, p45, f46, p46, f47, p47, f48, p48, f49, p49, f50, p50, f51, p51, f52, p52, f53, p53, f54, p54, f55, p55, f56, p56, f57, p57, f58, p58, f59, p59, f60, p60⟩⟩
theorem b_InvalidText_init {K : PySem.W.Frag} (D : Ds K) : Binds K D.fd_InvalidText_init ["self", "index"] [] := D.F_InvalidText_init.bindsN fun _ _ _ _ _ _ us hl => match us, hl with | [_, _], _ => rfl
theorem b_InvalidSource_init {K : PySem.W.Frag} (D : Ds K) : Binds K D.fd_InvalidSource_init ["self", "line", "index"] [] := D.F_InvalidSource_init.bindsN fun _ _ _ _ _ _ us hl => match us, hl with | [_, _, _], _ => rfl
theorem b_TooDeep_init {K : PySem.W.Frag} (D : Ds K) : Binds K D.fd_TooDeep_init ["self", "limit"] [] := D.F_TooDeep_init.bindsN fun _ _ _ _ _ _ us hl => match us, hl with | [_, _], _ => rfl
theorem b_TooLarge_init {K : PySem.W.Frag} (D : Ds K) : Binds K D.fd_TooLarge_init ["self", "limit"] [] := D.F_TooLarge_init.bindsN fun _ _ _ _ _ _ us hl => match us, hl with | [_, _], _ => rfl
theorem b_is_integer {K : PySem.W.Frag} (D : Ds K) : Binds K D.fd_is_integer ["value"] [] := D.F_is_integer.bindsN fun _ _ _ _ _ _ us hl => match us, hl with | [_], _ => rfl
theorem b_is_integer_within {K : PySem.W.Frag} (D : Ds K) : Binds K D.fd_is_integer_within ["value", "least", "most"] [] := D.F_is_integer_within.bindsN fun _ _ _ _ _ _ us hl => match us, hl with | [_, _, _], _ => rfl
theorem b_is_decimal {K : PySem.W.Frag} (D : Ds K) : Binds K D.fd_is_decimal ["word"] [] := D.F_is_decimal.bindsN fun _ _ _ _ _ _ us hl => match us, hl with | [_], _ => rfl
theorem b_check_times {K : PySem.W.Frag} (D : Ds K) : Binds K D.fd_check_times ["times"] [] := D.F_check_times.bindsN fun _ _ _ _ _ _ us hl => match us, hl with | [_], _ => rfl
theorem b_words_of {K : PySem.W.Frag} (D : Ds K) : Binds K D.fd_words_of ["text"] [] := D.F_words_of.bindsN fun _ _ _ _ _ _ us hl => match us, hl with | [_], _ => rfl
theorem b_is_letter {K : PySem.W.Frag} (D : Ds K) : Binds K D.fd_is_letter ["value"] [] := D.F_is_letter.bindsN fun _ _ _ _ _ _ us hl => match us, hl with | [_], _ => rfl
theorem b_number_of {K : PySem.W.Frag} (D : Ds K) : Binds K D.fd_number_of ["word"] [] := D.F_number_of.bindsN fun _ _ _ _ _ _ us hl => match us, hl with | [_], _ => rfl
theorem b_wrong_word {K : PySem.W.Frag} (D : Ds K) : Binds K D.fd_wrong_word ["words", "names"] [] := D.F_wrong_word.bindsN fun _ _ _ _ _ _ us hl => match us, hl with | [_, _], _ => rfl
theorem b_mirrored {K : PySem.W.Frag} (D : Ds K) : Binds K D.fd_mirrored ["words"] [] := D.F_mirrored.bindsN fun _ _ _ _ _ _ us hl => match us, hl with | [_], _ => rfl
theorem b_backward {K : PySem.W.Frag} (D : Ds K) : Binds K D.fd_backward ["words"] [] := D.F_backward.bindsN fun _ _ _ _ _ _ us hl => match us, hl with | [_], _ => rfl
theorem b__is_counted {K : PySem.W.Frag} (D : Ds K) : Binds K D.fd__is_counted ["word"] [] := D.F__is_counted.bindsN fun _ _ _ _ _ _ us hl => match us, hl with | [_], _ => rfl
theorem b__is_number {K : PySem.W.Frag} (D : Ds K) : Binds K D.fd__is_number ["digits"] [] := D.F__is_number.bindsN fun _ _ _ _ _ _ us hl => match us, hl with | [_], _ => rfl
theorem b_Part_init {K : PySem.W.Frag} (D : Ds K) : Binds K D.fd_Part_init ["self", "letter", "times", "inner"] [] := D.F_Part_init.bindsN fun _ _ _ _ _ _ us hl => match us, hl with | [_, _, _, _], _ => rfl
theorem b_size_of {K : PySem.W.Frag} (D : Ds K) : Binds K D.fd_size_of ["parts"] [] := D.F_size_of.bindsN fun _ _ _ _ _ _ us hl => match us, hl with | [_], _ => rfl
theorem b_levels_of {K : PySem.W.Frag} (D : Ds K) : Binds K D.fd_levels_of ["parts"] [] := D.F_levels_of.bindsN fun _ _ _ _ _ _ us hl => match us, hl with | [_], _ => rfl
theorem b_parts_of_words {K : PySem.W.Frag} (D : Ds K) : Binds K D.fd_parts_of_words ["words"] [] := D.F_parts_of_words.bindsN fun _ _ _ _ _ _ us hl => match us, hl with | [_], _ => rfl
theorem b__parts_from {K : PySem.W.Frag} (D : Ds K) : Binds K D.fd__parts_from ["words", "start"] [] := D.F__parts_from.bindsN fun _ _ _ _ _ _ us hl => match us, hl with | [_, _], _ => rfl
theorem b_count_in {K : PySem.W.Frag} (D : Ds K) : Binds K D.fd_count_in ["parts", "letter"] [] := D.F_count_in.bindsN fun _ _ _ _ _ _ us hl => match us, hl with | [_, _], _ => rfl
theorem b_Program_init {K : PySem.W.Frag} (D : Ds K) : Binds K D.fd_Program_init ["self", "text"] [] := D.F_Program_init.bindsN fun _ _ _ _ _ _ us hl => match us, hl with | [_, _], _ => rfl
theorem b_Program_text {K : PySem.W.Frag} (D : Ds K) : Binds K D.fd_Program_text ["self"] [] := D.F_Program_text.bindsN fun _ _ _ _ _ _ us hl => match us, hl with | [_], _ => rfl
theorem b_Program_length {K : PySem.W.Frag} (D : Ds K) : Binds K D.fd_Program_length ["self"] [] := D.F_Program_length.bindsN fun _ _ _ _ _ _ us hl => match us, hl with | [_], _ => rfl
theorem b_Program_depth {K : PySem.W.Frag} (D : Ds K) : Binds K D.fd_Program_depth ["self"] [] := D.F_Program_depth.bindsN fun _ _ _ _ _ _ us hl => match us, hl with | [_], _ => rfl
theorem b_Program_len {K : PySem.W.Frag} (D : Ds K) : Binds K D.fd_Program_len ["self"] [] := D.F_Program_len.bindsN fun _ _ _ _ _ _ us hl => match us, hl with | [_], _ => rfl
theorem b_Program_eq {K : PySem.W.Frag} (D : Ds K) : Binds K D.fd_Program_eq ["self", "other"] [] := D.F_Program_eq.bindsN fun _ _ _ _ _ _ us hl => match us, hl with | [_, _], _ => rfl
theorem b_Program_contains {K : PySem.W.Frag} (D : Ds K) : Binds K D.fd_Program_contains ["self", "x"] [] := D.F_Program_contains.bindsN fun _ _ _ _ _ _ us hl => match us, hl with | [_, _], _ => rfl
theorem b_Program_add {K : PySem.W.Frag} (D : Ds K) : Binds K D.fd_Program_add ["self", "other"] [] := D.F_Program_add.bindsN fun _ _ _ _ _ _ us hl => match us, hl with | [_, _], _ => rfl
theorem b_Program_mul {K : PySem.W.Frag} (D : Ds K) : Binds K D.fd_Program_mul ["self", "other"] [] := D.F_Program_mul.bindsN fun _ _ _ _ _ _ us hl => match us, hl with | [_, _], _ => rfl
theorem b_Program_neg {K : PySem.W.Frag} (D : Ds K) : Binds K D.fd_Program_neg ["self"] [] := D.F_Program_neg.bindsN fun _ _ _ _ _ _ us hl => match us, hl with | [_], _ => rfl
theorem b_Program_invert {K : PySem.W.Frag} (D : Ds K) : Binds K D.fd_Program_invert ["self"] [] := D.F_Program_invert.bindsN fun _ _ _ _ _ _ us hl => match us, hl with | [_], _ => rfl
theorem b_check_text {K : PySem.W.Frag} (D : Ds K) : Binds K D.fd_check_text ["text"] [] := D.F_check_text.bindsN fun _ _ _ _ _ _ us hl => match us, hl with | [_], _ => rfl
theorem b_check_program {K : PySem.W.Frag} (D : Ds K) : Binds K D.fd_check_program ["program"] [] := D.F_check_program.bindsN fun _ _ _ _ _ _ us hl => match us, hl with | [_], _ => rfl
theorem b_read_source {K : PySem.W.Frag} (D : Ds K) : Binds K D.fd_read_source ["source"] [] := D.F_read_source.bindsN fun _ _ _ _ _ _ us hl => match us, hl with | [_], _ => rfl
theorem b_routine {K : PySem.W.Frag} (D : Ds K) : Binds K D.fd_routine ["source", "name"] [] := D.F_routine.bindsN fun _ _ _ _ _ _ us hl => match us, hl with | [_, _], _ => rfl
theorem b_names_of {K : PySem.W.Frag} (D : Ds K) : Binds K D.fd_names_of ["source"] [] := D.F_names_of.bindsN fun _ _ _ _ _ _ us hl => match us, hl with | [_], _ => rfl
theorem b__read_lines {K : PySem.W.Frag} (D : Ds K) : Binds K D.fd__read_lines ["source"] [] := D.F__read_lines.bindsN fun _ _ _ _ _ _ us hl => match us, hl with | [_], _ => rfl
theorem b__wrong_in_named {K : PySem.W.Frag} (D : Ds K) : Binds K D.fd__wrong_in_named ["words", "named"] [] := D.F__wrong_in_named.bindsN fun _ _ _ _ _ _ us hl => match us, hl with | [_, _], _ => rfl
theorem b__is_naming {K : PySem.W.Frag} (D : Ds K) : Binds K D.fd__is_naming ["word"] [] := D.F__is_naming.bindsN fun _ _ _ _ _ _ us hl => match us, hl with | [_], _ => rfl
theorem b__name_of {K : PySem.W.Frag} (D : Ds K) : Binds K D.fd__name_of ["words"] [] := D.F__name_of.bindsN fun _ _ _ _ _ _ us hl => match us, hl with | [_], _ => rfl
theorem b__program_of {K : PySem.W.Frag} (D : Ds K) : Binds K D.fd__program_of ["words", "named"] [] := D.F__program_of.bindsN fun _ _ _ _ _ _ us hl => match us, hl with | [_, _], _ => rfl
theorem b__measure {K : PySem.W.Frag} (D : Ds K) : Binds K D.fd__measure ["words", "measures"] [] := D.F__measure.bindsN fun _ _ _ _ _ _ us hl => match us, hl with | [_, _], _ => rfl
theorem b__replaced {K : PySem.W.Frag} (D : Ds K) : Binds K D.fd__replaced ["words", "named"] [] := D.F__replaced.bindsN fun _ _ _ _ _ _ us hl => match us, hl with | [_, _], _ => rfl
theorem b__law_bag {K : PySem.W.Frag} (D : Ds K) : Binds K D.fd__law_bag ["cell"] [] := D.F__law_bag.bindsN fun _ _ _ _ _ _ us hl => match us, hl with | [_], _ => rfl
theorem b__law_pick {K : PySem.W.Frag} (D : Ds K) : Binds K D.fd__law_pick ["bag", "many"] [] := D.F__law_pick.bindsN fun _ _ _ _ _ _ us hl => match us, hl with | [_, _], _ => rfl
theorem b__law_number {K : PySem.W.Frag} (D : Ds K) : Binds K D.fd__law_number ["bag", "far"] [] := D.F__law_number.bindsN fun _ _ _ _ _ _ us hl => match us, hl with | [_, _], _ => rfl
theorem b__law_words {K : PySem.W.Frag} (D : Ds K) : Binds K D.fd__law_words ["bag", "most", "deep", "letters", "far"] [] := D.F__law_words.bindsN fun _ _ _ _ _ _ us hl => match us, hl with | [_, _, _, _, _], _ => rfl
theorem b__law_length {K : PySem.W.Frag} (D : Ds K) : Binds K D.fd__law_length ["words"] [] := D.F__law_length.bindsN fun _ _ _ _ _ _ us hl => match us, hl with | [_], _ => rfl
theorem b__law_steps {K : PySem.W.Frag} (D : Ds K) : Binds K D.fd__law_steps ["words"] [] := D.F__law_steps.bindsN fun _ _ _ _ _ _ us hl => match us, hl with | [_], _ => rfl
theorem b__law_short {K : PySem.W.Frag} (D : Ds K) : Binds K D.fd__law_short ["bag", "most", "letters", "size"] [] := D.F__law_short.bindsN fun _ _ _ _ _ _ us hl => match us, hl with | [_, _, _, _], _ => rfl
theorem b__law_names {K : PySem.W.Frag} (D : Ds K) : Binds K D.fd__law_names ["bag", "many"] [] := D.F__law_names.bindsN fun _ _ _ _ _ _ us hl => match us, hl with | [_, _], _ => rfl
theorem b__law_source {K : PySem.W.Frag} (D : Ds K) : Binds K D.fd__law_source ["bag", "most", "far"] [] := D.F__law_source.bindsN fun _ _ _ _ _ _ us hl => match us, hl with | [_, _, _], _ => rfl
theorem b__law_text {K : PySem.W.Frag} (D : Ds K) : Binds K D.fd__law_text ["names", "lines"] [] := D.F__law_text.bindsN fun _ _ _ _ _ _ us hl => match us, hl with | [_, _], _ => rfl
theorem b__law_written {K : PySem.W.Frag} (D : Ds K) : Binds K D.fd__law_written ["names", "lines", "limit"] [] := D.F__law_written.bindsN fun _ _ _ _ _ _ us hl => match us, hl with | [_, _, _], _ => rfl
theorem b__law_class {K : PySem.W.Frag} (D : Ds K) : Binds K D.fd__law_class ["caught"] [] := D.F__law_class.bindsN fun _ _ _ _ _ _ us hl => match us, hl with | [_], _ => rfl
theorem b__law_told {K : PySem.W.Frag} (D : Ds K) : Binds K D.fd__law_told ["source", "name"] [] := D.F__law_told.bindsN fun _ _ _ _ _ _ us hl => match us, hl with | [_, _], _ => rfl
theorem b__law_growing {K : PySem.W.Frag} (D : Ds K) : Binds K D.fd__law_growing ["bag"] [] := D.F__law_growing.bindsN fun _ _ _ _ _ _ us hl => match us, hl with | [_], _ => rfl
theorem b__law_sizes {K : PySem.W.Frag} (D : Ds K) : Binds K D.fd__law_sizes ["names", "lines"] [] := D.F__law_sizes.bindsN fun _ _ _ _ _ _ us hl => match us, hl with | [_, _], _ => rfl
theorem b_law {K : PySem.W.Frag} (D : Ds K) : Binds K D.fd_law ["script"] [] := D.F_law.bindsN fun _ _ _ _ _ _ us hl => match us, hl with | [_], _ => rfl
abbrev Rw : PySem.W.OpenRow := PySem.W.OpenLaw.row PySem.Challenge.rw_plotpens_k09_routines_too_large
def as0 : List Addr := [3, 6, 4, 21, 31, 51, 70, 89, 108, 120, 132, 144, 156, 168, 180, 192, 204, 216, 228, 240, 252, 264, 276, 288, 300, 312, 324, 336, 348, 360, 372, 384, 396, 408, 417, 424, 431, 438, 439, 440, 441, 448, 455, 462, 469, 474, 481, 488, 495, 512, 521, 526, 533, 540, 547, 637, 648, 655, 662, 669, 676, 681, 688, 695, 702, 709, 716, 723, 730, 737, 744, 751, 758, 765, 772, 777, 784, 789, 796, 803, 810, 815, 822, 829, 0, 20, 30, 50, 69, 88, 107, 119, 131, 143, 155, 167, 179, 191, 203, 215]
def as1 : List Addr := [227, 239, 251, 263, 275, 287, 299, 311, 323, 335, 347, 359, 371, 383, 395, 407, 416, 423, 430, 437, 447, 454, 461, 468, 473, 480, 487, 494, 511, 520, 525, 532, 539, 546, 636, 647, 654, 661, 668, 675, 680, 687, 694, 701, 708, 715, 722, 729, 736, 743, 750, 757, 764, 771, 776, 783, 788, 795, 802, 809, 814, 821, 828, 15, 16, 17, 18, 19, 29, 32, 48, 49, 67, 68, 86, 87, 105, 106, 118, 130, 142, 154, 166, 178, 190, 202, 214, 226, 238, 250, 262, 274, 286, 298, 310, 322, 334, 346, 358, 370]
def as2 : List Addr := [382, 394, 406, 411, 412, 413, 414, 415, 418, 419, 420, 421, 422, 425, 426, 427, 428, 429, 432, 433, 434, 435, 436, 442, 443, 444, 445, 446, 449, 450, 451, 452, 453, 456, 457, 458, 459, 460, 463, 464, 465, 466, 467, 470, 471, 472, 475, 476, 477, 478, 479, 482, 483, 484, 485, 486, 489, 490, 491, 492, 493, 509, 510, 513, 514, 517, 518, 519, 522, 523, 524, 527, 528, 529, 530, 531, 534, 535, 536, 537, 538, 541, 542, 543, 544, 545, 561, 569, 577, 585, 592, 599, 606, 613, 620, 627, 634, 635, 638, 639]
def as3 : List Addr := [642, 643, 644, 645, 646, 649, 650, 651, 652, 653, 656, 657, 658, 659, 660, 663, 664, 665, 666, 667, 670, 671, 672, 673, 674, 677, 678, 679, 682, 683, 684, 685, 686, 689, 690, 691, 692, 693, 696, 697, 698, 699, 700, 703, 704, 705, 706, 707, 710, 711, 712, 713, 714, 717, 718, 719, 720, 721, 724, 725, 726, 727, 728, 731, 732, 733, 734, 735, 738, 739, 740, 741, 742, 745, 746, 747, 748, 749, 752, 753, 754, 755, 756, 759, 760, 761, 762, 763, 766, 767, 768, 769, 770, 773, 774, 775, 778, 779, 780, 781]
def as4 : List Addr := [782, 785, 786, 787, 790, 791, 792, 793, 794, 797, 798, 799, 800, 801, 804, 805, 806, 807, 808, 811, 812, 813, 816, 817, 818, 819, 820, 823, 824, 825, 826, 827, 47, 66, 85, 104, 508, 560, 568, 576, 584, 591, 598, 605, 612, 619, 626, 633, 42, 43, 44, 45, 46, 61, 62, 63, 64, 65, 80, 81, 82, 83, 84, 99, 100, 101, 102, 103, 503, 504, 505, 506, 507, 555, 556, 557, 558, 559, 567, 575, 583, 586, 587, 588, 589, 590, 593, 594, 595, 596, 597, 600, 601, 602, 603, 604, 607, 608, 609, 610]
def as5 : List Addr := [611, 614, 615, 616, 617, 618, 621, 622, 623, 624, 625, 628, 629, 630, 631, 632, 562, 563, 564, 565, 566, 570, 571, 572, 573, 574, 578, 579, 580, 581, 582, 1, 2]
def as_ : List Addr := as0 ++ as1 ++ as2 ++ as3 ++ as4 ++ as5
abbrev hk : PySem.W.Hook := HP.hookL as_ facts fns
def ob (s : PySem.W.SharedT) : HP.Al := HP.obsL as_ facts fns (HandSHeadRun.getT s)
theorem ob_eq (s : PySem.W.SharedT) : ob s = hk.obs s.abs := HP.obsL_eq (HandSHeadRun.getT_eq s)
end K09

set_option Elab.async false
set_option linter.all false
set_option maxRecDepth 100000
set_option maxHeartbeats 0
namespace K09
open PySem PySem.Spec PyProof.Rows L2
theorem rb0 (w : World) : HP.BaseEq Rw (PySem.W.view Rw.prog [94]) 12000 names (w.withFollow "special-get-raises" false) := by
  intro os
  kernel_rfl
theorem rp0_0 (w : World) : HP.PartEq Rw 12000 as_ (fa0 ++ fa1 ++ fa2 ++ fa3) [] (w.withFollow "special-get-raises" false) := by
  intro os
  kernel_rfl
theorem rp0_1 (w : World) : HP.PartEq Rw 12000 as_ (fa4 ++ fa5 ++ fa6 ++ fa7) [] (w.withFollow "special-get-raises" false) := by
  intro os
  kernel_rfl
theorem rp0_2 (w : World) : HP.PartEq Rw 12000 as_ (fa8) fns (w.withFollow "special-get-raises" false) := by
  intro os
  kernel_rfl
theorem run0 (w : World) : HandSHeadRun.RunEq Rw (PySem.W.view Rw.prog [94]) hk ob 12000 names (w.withFollow "special-get-raises" false) := HP.run_join (rb0 w) (by
  have e := ((rp0_0 w).app (rp0_1 w)).app (rp0_2 w)
  simp only [List.append_assoc, List.nil_append] at e
  unfold facts
  simp only [List.append_assoc]
  exact e)
theorem rb1 (w : World) : HP.BaseEq Rw (PySem.W.view Rw.prog [94]) 12000 names (w.withFollow "special-get-raises" true) := by
  intro os
  kernel_rfl
theorem rp1_0 (w : World) : HP.PartEq Rw 12000 as_ (fa0 ++ fa1 ++ fa2 ++ fa3) [] (w.withFollow "special-get-raises" true) := by
  intro os
  kernel_rfl
theorem rp1_1 (w : World) : HP.PartEq Rw 12000 as_ (fa4 ++ fa5 ++ fa6 ++ fa7) [] (w.withFollow "special-get-raises" true) := by
  intro os
  kernel_rfl
theorem rp1_2 (w : World) : HP.PartEq Rw 12000 as_ (fa8) fns (w.withFollow "special-get-raises" true) := by
  intro os
  kernel_rfl
theorem run1 (w : World) : HandSHeadRun.RunEq Rw (PySem.W.view Rw.prog [94]) hk ob 12000 names (w.withFollow "special-get-raises" true) := HP.run_join (rb1 w) (by
  have e := ((rp1_0 w).app (rp1_1 w)).app (rp1_2 w)
  simp only [List.append_assoc, List.nil_append] at e
  unfold facts
  simp only [List.append_assoc]
  exact e)
theorem run (w : World) : HandSHeadRun.RunEq Rw (PySem.W.view Rw.prog [94]) hk ob 12000 names w := PySem.W.byRow2 "special-get-raises" (P := fun w => HandSHeadRun.RunEq Rw (PySem.W.view Rw.prog [94]) hk ob 12000 names w) run0 run1 w
end K09

set_option linter.all false
set_option maxRecDepth 100000
set_option maxHeartbeats 4000000
/-! words of program texts: signs -/
namespace WM
open PySem PySem.Spec PyProof.Rows L2 TL PySem.Builtin PySem.Builtin.Str PySem.StrLaws
/-- a word: an opening bracket, a closing one with its number, a letter so many times -/
inductive Wd where
  | op
  | cl (n : Nat)
  | lt (c : Nat) (n : Nat)
  deriving DecidableEq
def six : List Nat := [102, 98, 108, 114, 117, 100]
abbrev T30 : Nat := 1000000000000000000000000000000
def Wd.ok : Wd → Prop
  | .op => True
  | .cl n => 2 ≤ n ∧ n ≤ T30
  | .lt c n => c ∈ six ∧ 1 ≤ n ∧ n ≤ T30
def Wd.cps : Wd → List Nat
  | .op => [40]
  | .cl n => 41 :: numL n
  | .lt c n => if n = 1 then [c] else c :: numL n
def Wd.str (x : Wd) : Str := ⟨x.cps.toArray⟩
theorem tl_str (x : Wd) : tl x.str = x.cps := rfl
theorem len_tl (x : Str) : x.length = (tl x).length := by
  show x.cps.size = x.cps.toList.length
  rw [Array.length_toList]
theorem cps_len {x : Wd} (h : x.ok) : x.cps.length ≤ 32 := by
  cases x with
  | op => decide
  | cl n =>
    have := numL_len (n := n) (k := 31) (by decide) (by have h2 : n ≤ 1000000000000000000000000000000 := h.2; omega)
    simp only [Wd.cps, List.length_cons]
    omega
  | lt c n =>
    have := numL_len (n := n) (k := 31) (by decide) (by have h2 : n ≤ 1000000000000000000000000000000 := h.2.2; omega)
    simp only [Wd.cps]
    split
    · show 1 ≤ 32
      decide
    · simp only [List.length_cons]
      omega
theorem numL_head {n : Nat} (h : 1 ≤ n) : ∃ d r, numL n = d :: r ∧ 49 ≤ d ∧ d ≤ 57 := by
  induction n using Nat.strongRecOn with
  | ind n ih =>
    by_cases h10 : n < 10
    · exact ⟨48 + n, [], numL_lt h10, by omega, by omega⟩
    · obtain ⟨d, r, e, h1, h2⟩ := ih (n / 10) (by omega) (by omega)
      exact ⟨d, r ++ [48 + n % 10], by rw [numL_step (by omega), e]; rfl, h1, h2⟩
/-- the digits of a number, as a text -/
def dgS (n : Nat) : Str := ⟨(numL n).toArray⟩
theorem dgS_eq (n : Nat) : Str.ofString (toString ((n : Nat) : Int)) = dgS n := ext_tl (tl_num n)
theorem dg_len {n : Nat} (h : n ≤ T30) : (dgS n).length ≤ 31 := by
  rw [len_tl]
  exact numL_len (by decide) (by have h2 : n ≤ 1000000000000000000000000000000 := h; omega)
theorem dg_ascii (n : Nat) : Txt.isascii (dgS n) = true := by
  show (dgS n).cps.all (· < 128) = true
  rw [← Array.all_toList]
  refine List.all_eq_true.mpr fun c hc => ?_
  have := numL_digits n c hc
  simp only [decide_eq_true_eq]
  omega
theorem uni_digit : ∀ c, 48 ≤ c → c ≤ 57 → Unicode.isDigit c = true := by
  intro c h1 h2
  have : c = 48 ∨ c = 49 ∨ c = 50 ∨ c = 51 ∨ c = 52 ∨ c = 53 ∨ c = 54 ∨ c = 55 ∨ c = 56 ∨ c = 57 := by omega
  rcases this with rfl | rfl | rfl | rfl | rfl | rfl | rfl | rfl | rfl | rfl <;> decide +kernel
theorem dg_digit (n : Nat) : Txt.isdigit (dgS n) = true := by
  show (decide ((dgS n).length > 0) && (dgS n).cps.all Unicode.isDigit) = true
  have h1 : 0 < (dgS n).length := by
    rw [len_tl]
    exact List.length_pos_iff.mpr (numL_ne n)
  rw [decide_eq_true h1, Bool.true_and, ← Array.all_toList]
  refine List.all_eq_true.mpr fun c hc => ?_
  have := numL_digits n c hc
  exact uni_digit c this.1 this.2
theorem dg_int {n : Nat} (h : n ≤ T30) : intText? (dgS n) = some (n : Int) := by
  rw [← dgS_eq]
  refine int_num ?_
  have := dg_len h
  rw [len_tl] at this
  exact Nat.le_trans this (by decide)
/-- startswith of one sign -/
theorem starts1 (x : Str) (c : Nat) : Txt.startswith x ⟨#[c]⟩ = (match tl x with | [] => false | d :: _ => decide (d = c)) := by
  show (decide (0 + 1 ≤ x.length) && subAt x ⟨#[c]⟩ 0) = _
  rw [subAt_eq]
  have e1 : (⟨#[c]⟩ : Str).cps.toList = [c] := rfl
  have e2 : (⟨#[c]⟩ : Str).length = 1 := rfl
  have e3 : x.length = (tl x).length := len_tl x
  rw [e1, e2, e3]
  show (decide (0 + 1 ≤ (tl x).length) && (List.take 1 (List.drop 0 (tl x)) == [c])) = _
  cases tl x with
  | nil => rfl
  | cons d r =>
    show (decide (0 + 1 ≤ r.length + 1) && ([d] == [c])) = decide (d = c)
    rw [decide_eq_true (by omega), Bool.true_and]
    by_cases h : d = c
    · subst h
      simp
    · rw [decide_eq_false h]
      simp [h]
theorem dg_no0 {n : Nat} (h : 1 ≤ n) : Txt.startswith (dgS n) ⟨#[48]⟩ = false := by
  obtain ⟨d, r, e, h1, h2⟩ := numL_head h
  rw [starts1]
  have e2 : tl (dgS n) = d :: r := e
  rw [e2]
  exact decide_eq_false (by omega)
def sixB (x : Str) : Bool := inV (.str x) [.str "f", .str "b", .str "l", .str "r", .str "u", .str "d"]
theorem sixB_eq (x : Str) : sixB x = six.any fun c => decide (tl x = [c]) := by
  have e : ∀ (y : Str) (c : Nat), tl y = [c] → (y == x) = decide (tl x = [c]) := by
    intro y c h
    by_cases z : y = x
    · subst z
      rw [decide_eq_true h]
      exact beq_self_eq_true y
    · rw [decide_eq_false (fun w => z (ext_tl (h.trans w.symm)))]
      exact beq_false_of_ne z
  show ((("f" : Str) == x) || ((("b" : Str) == x) || ((("l" : Str) == x) || ((("r" : Str) == x) || ((("u" : Str) == x) || ((("d" : Str) == x) || false)))))) = _
  rw [e "f" 102 (by decide), e "b" 98 (by decide), e "l" 108 (by decide), e "r" 114 (by decide), e "u" 117 (by decide), e "d" 100 (by decide)]
  rfl
theorem six_one {c : Nat} (h : c ∈ six) : sixB ⟨#[c]⟩ = true := by
  rw [sixB_eq]
  exact List.any_eq_true.mpr ⟨c, h, decide_eq_true rfl⟩
theorem six_not {x : Str} (h : ∀ c ∈ six, tl x ≠ [c]) : sixB x = false := by
  rw [sixB_eq]
  exact List.any_eq_false.mpr fun c hc => by rw [decide_eq_false (h c hc)]; decide
/-- the first sign, the rest -/
theorem cut_first (d : Nat) (r : List Nat) : cutS ⟨(d :: r).toArray⟩ none (some 1) = ⟨#[d]⟩ := by
  refine ext_tl ?_
  have e2 : HT.sIx (d :: r).length (d :: r).length (some 1) = 1 := by
    have := HT.sIx_nat (d :: r).length (d :: r).length 1
    rw [show ((1 : Nat) : Int) = 1 from rfl] at this
    rw [this, List.length_cons]
    omega
  show ((d :: r).drop 0).take (HT.sIx (d :: r).length (d :: r).length (some 1) - 0) = [d]
  rw [e2]
  rfl
theorem cut_rest (d : Nat) (r : List Nat) : cutS ⟨(d :: r).toArray⟩ (some 1) none = ⟨r.toArray⟩ := by
  refine ext_tl ?_
  have e2 : HT.sIx (d :: r).length 0 (some 1) = 1 := by
    have := HT.sIx_nat (d :: r).length 0 1
    rw [show ((1 : Nat) : Int) = 1 from rfl] at this
    rw [this, List.length_cons]
    omega
  show ((d :: r).drop (HT.sIx (d :: r).length 0 (some 1))).take ((d :: r).length - HT.sIx (d :: r).length 0 (some 1)) = r
  rw [e2]
  show List.take (r.length + 1 - 1) r = r
  rw [Nat.add_sub_cancel, List.take_length]
theorem cl_cut (n : Nat) : cutS (Wd.cl n).str none (some 1) = ⟨#[41]⟩ ∧ cutS (Wd.cl n).str (some 1) none = dgS n := ⟨cut_first 41 (numL n), cut_rest 41 (numL n)⟩
theorem lt_cut (c : Nat) {n : Nat} (h : n ≠ 1) : cutS (Wd.lt c n).str none (some 1) = ⟨#[c]⟩ ∧ cutS (Wd.lt c n).str (some 1) none = dgS n := by
  have e : (Wd.lt c n).str = ⟨(c :: numL n).toArray⟩ := by
    show (⟨(if n = 1 then [c] else c :: numL n).toArray⟩ : Str) = _
    rw [if_neg h]
  rw [e]
  exact ⟨cut_first c (numL n), cut_rest c (numL n)⟩
theorem lt1_str (c : Nat) : (Wd.lt c 1).str = ⟨#[c]⟩ := rfl
theorem six_cl (n : Nat) : sixB (Wd.cl n).str = false := six_not fun c hc e => by
  have e : 41 :: numL n = [c] := e
  injection e with e1 e2
  exact numL_ne n e2
theorem six_lt (c : Nat) {n : Nat} (h : n ≠ 1) : sixB (Wd.lt c n).str = false := six_not fun d hd e => by
  have e : (if n = 1 then [c] else c :: numL n) = [d] := e
  rw [if_neg h] at e
  injection e with e1 e2
  exact numL_ne n e2
theorem six_41 : sixB ⟨#[41]⟩ = false := by decide
theorem op_starts : Txt.startswith Wd.op.str ⟨#[41]⟩ = false := by decide
theorem cl_starts (n : Nat) : Txt.startswith (Wd.cl n).str ⟨#[41]⟩ = true := by
  rw [starts1]
  show (match 41 :: numL n with | [] => false | d :: _ => decide (d = 41)) = true
  rfl
theorem six_ne {c : Nat} (h : c ∈ six) : c ≠ 41 ∧ c ≠ 40 ∧ c ≠ 32 := by
  simp only [six, List.mem_cons, List.not_mem_nil, or_false] at h
  omega
theorem lt_starts {c n : Nat} (h : c ∈ six) : Txt.startswith (Wd.lt c n).str ⟨#[41]⟩ = false := by
  rw [starts1]
  have e : tl (Wd.lt c n).str = if n = 1 then [c] else c :: numL n := rfl
  rw [e]
  have := (six_ne h).1
  by_cases h1 : n = 1
  · rw [if_pos h1]
    exact decide_eq_false this
  · rw [if_neg h1]
    exact decide_eq_false this
theorem is_op (x : Wd) (hx : x.ok) : (x.str = Wd.op.str) ↔ x = .op := by
  constructor
  · intro h
    have e : x.cps = [40] := congrArg tl h
    cases x with
    | op => rfl
    | cl n => cases e
    | lt c n =>
      have h6 := (six_ne hx.1).2.1
      simp only [Wd.cps] at e
      split at e
      · injection e with e1
        exact absurd e1 h6
      · injection e with e1
        exact absurd e1 h6
  · intro h
    rw [h]
theorem free_sp (x : Wd) (hx : x.ok) : 32 ∉ tl x.str := by
  have e : tl x.str = x.cps := rfl
  rw [e]
  cases x with
  | op => decide
  | cl n =>
    simp only [Wd.cps, List.mem_cons, not_or]
    exact ⟨by decide, numL_free (.inl (by decide))⟩
  | lt c n =>
    have h6 := (six_ne hx.1).2.2
    simp only [Wd.cps]
    split
    · simp only [List.mem_cons, List.not_mem_nil, or_false]
      exact fun z => h6 z.symm
    · simp only [List.mem_cons, not_or]
      exact ⟨fun z => h6 z.symm, numL_free (.inl (by decide))⟩
end WM

set_option Elab.async false
set_option linter.all false
set_option maxRecDepth 100000
set_option maxHeartbeats 4000000
namespace K09P
open PySem PySem.Spec PyProof.Rows L2 RT WM K09
section
variable {P : Program} {w : World} {K : PySem.W.Frag} {mg : Str → Option Value} {base : Heap}
theorem kit_ss {K : PySem.W.Frag} : PySem.W.kitOne K (.type "str") (.type "str") = some true := kit_ty (by decide +kernel)
def spLetter : Sp := fun vs H Q _ => ∃ x : Str, vs = [.str x] ∧ Q (.bl (sixB x)) H
theorem ok_letter (D : Ds K) (T : Tx K mg) : FnOk P w K mg base CX0 1 (dis_letter.adr K) D.fd_is_letter ["value"] spLetter := by
  refine D.F_is_letter.ok scis_letter (fun vs H Q E h => ?_) (fun cdv A outer s H vs Q E hr h => ?_)
  · obtain ⟨x, rfl, _⟩ := h
    rfl
  · obtain ⟨x, rfl, q⟩ := h
    refine ⟨_, PSs.nox (pss_one (ps_ret (pe_and (pe_callB call_isiY (by rfl) T.z_isinstance (by decide +kernel) (pa_cons (pv 0) (pa_cons (pe_bltn (v := .ty "str") (by rfl) T.z_str (by decide +kernel) rfl) pa_nil)))
      (pe_one (pe_cmpR op_in_seq (pv 0) (pe_glob (v := .ref (He.ga K "LETTERS")) rfl T.g_LETTERS rfl) (by rfl)))))), ?_⟩
    refine ⟨_, rfl, _, .ty "str", _, _, true, rfl, .ty "str", .base (.base (.str x)), kit_ss, true, rfl, iteT ?_⟩
    exact ⟨_, rfl, _, _, rfl, .inr (T.l_LETTERS H), rfl, rfl, q⟩
def spDec : Sp := fun vs H Q _ => ∃ n : Nat, vs = [.str (dgS n)] ∧ 2 ≤ n ∧ n ≤ T30 ∧ Q (.bl true) H
theorem dg_ne0 {n : Nat} (h : 2 ≤ n) : dgS n ≠ "0" := fun z => by
  have h1 := dg_no0 (n := n) (by omega)
  rw [z] at h1
  revert h1
  decide
theorem ok_dec (D : Ds K) (T : Tx K mg) : FnOk P w K mg base CX0 1 (dis_decimal.adr K) D.fd_is_decimal ["word"] spDec := by
  refine D.F_is_decimal.ok scis_decimal (fun vs H Q E h => ?_) (fun cdv A outer s H vs Q E hr h => ?_)
  · obtain ⟨n, rfl, _⟩ := h
    rfl
  · obtain ⟨n, rfl, h2, h30, q⟩ := h
    obtain ⟨tD, vD⟩ := T.v_MOST_DIGITS
    refine ⟨_, PSs.nox (pss_cons (ps_if (PW.pt (pw_or (pt_cmpR op_gt (pe_callB call_len_str (by rfl) T.z_len PySem.boot_len (pa_cons (pv 0) pa_nil)) (pe_glob (v := .int 31) rfl vD ⟨_, rfl⟩) (nomark _))
        (pw_or (pt_not (pt_val (pe_m0 PySem.F.slot_str_isascii PySem.F.type_str_isascii mt_isascii (pv 0)))) (pw_or1 (pt_not (pt_val (pe_m0 PySem.F.slot_str_isdigit PySem.F.type_str_isdigit mt_isdigit (pv 0))))))))
        (pss_one (ps_ret pe_bl)) pss_nil)
      (pss_one (ps_ret (pe_or (pe_cmpR op_eq (pv 0) pe_str (nomark _)) (pe_one (pe_not (pe_m1 PySem.F.slot_str_startswith PySem.F.type_str_startswith mt_startswith (pv 0) pe_str))))))), ?_⟩
    have hl := dg_len h30
    have h31 : ((dgS n).length : Int) ≤ 31 := by omega
    have hz : (dgS n).length ≤ sizeLine := Nat.le_trans hl (by decide)
    refine ⟨_, rfl, _, rfl, hz, _, _, rfl, rfl, _, rfl, ?_⟩
    rw [decide_eq_false (show ¬ ((dgS n).length : Int) > 31 by omega)]
    refine iteF ⟨_, rfl, ⟨_, rfl⟩, _, rfl, rfl, trivial, true, by rw [dg_ascii], iteF ⟨_, rfl, ⟨_, rfl⟩, _, rfl, rfl, trivial, true, by rw [dg_digit], iteF ?_⟩⟩
    refine ⟨_, rfl, rfl, false, congrArg V.bl (decide_eq_false fun z => by injection z with z; exact dg_ne0 h2 z), iteF ?_⟩
    refine ⟨_, rfl, ⟨_, rfl⟩, _, _, rfl, rfl, false, by rw [show Txt.startswith (dgS n) ("0" : Str) = false from dg_no0 (by omega)], q⟩
def spNumb : Sp := fun vs H Q _ => ∃ n : Nat, vs = [.str (dgS n)] ∧ 2 ≤ n ∧ n ≤ T30 ∧ Q (.bl true) H
theorem ok_numb (D : Ds K) (T : Tx K mg) : FnOk P w K mg base CX0 2 (d_is_number.adr K) D.fd__is_number ["digits"] spNumb := by
  have GD : FnOk P w K mg base CX0 1 _ _ _ spDec := ok_dec D T
  refine D.F__is_number.ok sc_is_number (fun vs H Q E h => ?_) (fun cdv A outer s H vs Q E hr h => ?_)
  · obtain ⟨n, rfl, _⟩ := h
    rfl
  · obtain ⟨n, rfl, h2, h30, q⟩ := h
    obtain ⟨tM, vM⟩ := T.v_MOST_TIMES
    refine ⟨_, PSs.nox (pss_one (ps_ret (pe_and (pe_call GD hr (by rfl) T.g_is_decimal D.F_is_decimal.kp (b_is_decimal D) .nil pass0 (pa_cons (pv 0) pa_nil))
        (pe_one (pe_chain op_le op_le pe_int (pe_callTy call_int_str (by rfl) T.z_int (by decide +kernel) (pa_cons (pv 0) pa_nil)) (pe_glob (v := .int 1000000000000000000000000000000) rfl vM ⟨_, rfl⟩)))))), ?_⟩
    have hl := dg_len h30
    have h30' : (n : Int) ≤ 1000000000000000000000000000000 := by
      have : n ≤ 1000000000000000000000000000000 := h30
      omega
    refine ⟨_, rfl, n, rfl, h2, h30, true, rfl, iteT ?_⟩
    refine ⟨_, rfl, _, _, rfl, dg_int h30, Nat.le_trans hl (by decide), _, _, rfl, rfl, true, by show V.bl (decide ((2 : Int) ≤ (n : Int))) = _; rw [decide_eq_true (show (2 : Int) ≤ (n : Int) by omega)], iteT ⟨_, _, rfl, rfl, ?_⟩⟩
    show Q (.bl (decide ((n : Int) ≤ 1000000000000000000000000000000))) H
    rw [decide_eq_true h30']
    exact q
def spCounted : Sp := fun vs H Q _ => ∃ x : Wd, vs = [.str x.str] ∧ x.ok ∧ x ≠ .op ∧ Q (.bl true) H
theorem ok_counted (D : Ds K) (T : Tx K mg) : FnOk P w K mg base CX0 3 (d_is_counted.adr K) D.fd__is_counted ["word"] spCounted := by
  have GL : FnOk P w K mg base CX0 1 _ _ _ spLetter := ok_letter D T
  have GN : FnOk P w K mg base CX0 2 _ _ _ spNumb := ok_numb D T
  refine D.F__is_counted.ok sc_is_counted (fun vs H Q E h => ?_) (fun cdv A outer s H vs Q E hr h => ?_)
  · obtain ⟨x, rfl, _⟩ := h
    rfl
  · obtain ⟨x, rfl, hx, hn, q⟩ := h
    have hz : x.str.length ≤ sizeLine := by
      rw [len_tl]
      exact Nat.le_trans (cps_len hx) (by decide)
    refine ⟨_, PSs.nox (pss_cons (ps_if (pt_val (pe_call GL (hr.mono (by decide)) (by rfl) T.g_is_letter D.F_is_letter.kp (b_is_letter D) .nil pass0 (pa_cons (pv 0) pa_nil))) (pss_one (ps_ret pe_bl)) pss_nil)
      (pss_one (ps_ret (pe_and (pe_or (pe_call GL (hr.mono (by decide)) (by rfl) T.g_is_letter D.F_is_letter.kp (b_is_letter D) .nil pass0 (pa_cons (pe_slice sl_str (pv 0) po_none (po_some pe_int)) pa_nil)) (pe_one (pe_m1 PySem.F.slot_str_startswith PySem.F.type_str_startswith mt_startswith (pv 0) pe_str)))
        (pe_one (pe_call GN hr (by rfl) T.g__is_number D.F__is_number.kp (b__is_number D) .nil pass0 (pa_cons (pe_slice sl_str (pv 0) (po_some pe_int) po_none) pa_nil))))))), ?_⟩
    refine ⟨_, rfl, _, rfl, _, rfl, ?_⟩
    cases x with
    | op => exact absurd rfl hn
    | cl n =>
      rw [six_cl]
      refine iteF ⟨_, rfl, 1, rfl, _, rfl, hz, _, rfl, ?_⟩
      rw [(cl_cut n).1, six_41]
      refine ⟨false, rfl, iteF ⟨_, rfl, ⟨_, rfl⟩, _, _, rfl, rfl, true, by rw [show Txt.startswith (Wd.cl n).str (")" : Str) = true from cl_starts n], iteT ?_⟩⟩
      exact ⟨_, rfl, 1, rfl, _, rfl, hz, n, by rw [(cl_cut n).2]; rfl, hx.1, hx.2, q⟩
    | lt c n =>
      by_cases h1 : n = 1
      · subst h1
        rw [show sixB (Wd.lt c 1).str = true from six_one hx.1]
        exact iteT q
      · rw [six_lt c h1]
        refine iteF ⟨_, rfl, 1, rfl, _, rfl, hz, _, rfl, ?_⟩
        rw [(lt_cut c h1).1, six_one hx.1]
        refine ⟨true, rfl, iteT ?_⟩
        refine ⟨true, rfl, iteT ?_⟩
        exact ⟨_, rfl, 1, rfl, _, rfl, hz, n, by rw [(lt_cut c h1).2]; rfl, by have := hx.2.1; omega, hx.2.2, q⟩
end
end K09P

set_option linter.all false
set_option maxRecDepth 100000
set_option maxHeartbeats 4000000
/-! rows of words -/
namespace WM
open PySem PySem.Spec PyProof.Rows L2 TL
def isOp : Wd → Bool
  | .op => true
  | _ => false
def isCl : Wd → Bool
  | .cl _ => true
  | _ => false
def b2 (b : Bool) : Int := if b then 1 else 0
def step (x : Wd) : Int := b2 (isOp x) - b2 (isCl x)
/-- how deep it is behind i words -/
def dep (ws : List Wd) (i : Nat) : Int := ((ws.take i).map step).sum
theorem dep_succ {ws : List Wd} {i : Nat} {x : Wd} (h : ws[i]? = some x) : dep ws (i + 1) = dep ws i + b2 (isOp x) - b2 (isCl x) := by
  unfold dep
  rw [List.take_succ, h, List.map_append, List.sum_append]
  show _ + (step x + 0) = _
  unfold step
  omega
/-- the words of a program text -/
structure OkW (ws : List Wd) : Prop where
  ok : ∀ x ∈ ws, x.ok
  most : ws.length ≤ 1000
  cl : ∀ (i n : Nat), ws[i]? = some (.cl n) → 0 < dep ws i ∧ ∀ j : Nat, j + 1 = i → ws[j]? ≠ some .op
  up : ∀ i : Nat, i ≤ ws.length → 0 ≤ dep ws i ∧ dep ws i ≤ 12
  need : ∀ (i : Nat) (x : Wd), ws[i]? = some x → (i : Int) + 1 + (dep ws (i + 1) + b2 (isOp x)) ≤ 1000
  shut : dep ws ws.length = 0
def wstrs (ws : List Wd) : List V := ws.map fun x => V.str x.str
def textOf (ws : List Wd) : Str := Str.join " " (ws.map Wd.str)
theorem joinL_len (S : List Nat) (B : Nat) : ∀ ps : List (List Nat), (∀ p ∈ ps, p.length ≤ B) → (joinL S ps).length ≤ ps.length * (B + S.length)
  | [], _ => by simp [joinL]
  | [p], h => by
    have := h p (List.mem_singleton.mpr rfl)
    simp only [joinL, List.length_singleton, Nat.one_mul]
    omega
  | p :: q :: r, h => by
    have h1 := h p (List.mem_cons_self ..)
    have h2 := joinL_len S B (q :: r) fun z hz => h z (List.mem_cons_of_mem _ hz)
    simp only [joinL, List.length_append, List.length_cons] at h2 ⊢
    rw [Nat.add_mul (r.length + 1) 1, Nat.one_mul]
    omega
theorem text_len {ws : List Wd} (h : OkW ws) : (textOf ws).length ≤ 33000 := by
  rw [len_tl]
  unfold textOf
  rw [tl_join]
  have h1 := joinL_len (tl " ") 32 ((ws.map Wd.str).map tl) (by
    intro p hp
    obtain ⟨s, hs, rfl⟩ := List.mem_map.mp hp
    obtain ⟨x, hx, rfl⟩ := List.mem_map.mp hs
    exact cps_len (h.ok x hx))
  have e : (tl (" " : Str)).length = 1 := rfl
  rw [List.length_map, List.length_map, e] at h1
  have := h.most
  omega
theorem text_ne {ws : List Wd} (hn : ws ≠ []) : (textOf ws : Str) ≠ "" := by
  intro e
  have e2 : tl (textOf ws) = [] := by rw [e]; rfl
  unfold textOf at e2
  rw [tl_join] at e2
  cases ws with
  | nil => exact hn rfl
  | cons x r =>
    have hx : x.cps ≠ [] := by
      cases x with
      | op => simp [Wd.cps]
      | cl n => simp [Wd.cps]
      | lt c n =>
        simp only [Wd.cps]
        split <;> simp
    cases r with
    | nil => exact hx e2
    | cons y r =>
      have e3 : x.cps ++ (tl (" " : Str) ++ _) = [] := e2
      exact hx (List.append_eq_nil_iff.mp e3).1
theorem split_text {ws : List Wd} (h : OkW ws) (hn : ws ≠ []) : Txt.split (textOf ws) " " = ws.map Wd.str := by
  have := split_join (y := " ") (s := 32) (S := []) rfl (by decide +kernel) (parts := ws.map Wd.str) (fun e => hn (List.map_eq_nil_iff.mp e)) (fun p hp => by
    obtain ⟨x, hx, rfl⟩ := List.mem_map.mp hp
    exact free_sp x (h.ok x hx))
  rw [join_eq] at this
  exact this
theorem for_enum {K : PySem.W.Frag} {a : Addr} {xs : List V} {g : TG} {tb : TS} {D : Ends} {σ : L2.St} {H : Hp} (Pv : Nat → L2.St → Hp → Prop) (h0 : Pv 0 σ H) (hl : ∀ i σ H, i ≤ xs.length → Pv i σ H → SqL K H a xs)
    (hs : ∀ i x σ H T, xs[i]? = some x → Pv i σ H → H T = none → g (.ref T) σ (upd H T (.tup [.int (i : Nat), x])) fun σ2 H2 => tb { D with nx := Pv (i + 1), ct := Pv (i + 1), bk := D.nx } σ2 H2) (hd : ∀ σ H, Pv xs.length σ H → D.nx σ H) :
    ∃ W : Nat → Nat → L2.St → Hp → Prop, (∃ m, W 0 m σ H) ∧ ∀ i m σ H, W i m σ H →
      ((Ite K a).stop i H ∧ D.nx σ H) ∨ ((Ite K a).go i H ∧ ∃ N : L2.St → Hp → Prop, (∀ σ' H', N σ' H' → ∃ m', m' < m ∧ W (i + 1) m' σ' H') ∧ ∀ x H', (Ite K a).yld i H x H' → g x σ H' fun σ2 H2 => tb { D with nx := N, ct := N, bk := D.nx } σ2 H2) := by
  refine ⟨fun i m σ H => m = xs.length - i ∧ i ≤ xs.length ∧ Pv i σ H, ⟨xs.length, by simp, Nat.zero_le _, h0⟩, ?_⟩
  rintro i m σ H ⟨rfl, hi, p⟩
  have q := hl i σ H hi p
  by_cases hlt : i < xs.length
  · refine .inr ⟨⟨xs, xs[i], q, by simp [hlt]⟩, Pv (i + 1), fun σ' H' p' => ⟨xs.length - (i + 1), by omega, rfl, hlt, p'⟩, fun x H' y => ?_⟩
    obtain ⟨T, v, rfl, hT, rfl, y⟩ := y
    exact hs i v σ _ T (y xs q) p hT
  · have e : i = xs.length := by omega
    subst e
    exact .inl ⟨⟨xs, q, Nat.le_refl _⟩, hd σ H p⟩
end WM

set_option Elab.async false
set_option linter.all false
set_option maxRecDepth 100000
set_option maxHeartbeats 4000000
namespace K09P
open PySem PySem.Spec PyProof.Rows L2 RT WM K09 TL
theorem same_new {H : Hp} {p : Addr} {o : HO} (h : H p = none) : Same H (upd H p o) := fun b x e => by
  rw [upd_ne (ne_of_none e h)]
  exact e
theorem Same.sql {K : PySem.W.Frag} {H H' : Hp} {a : Addr} {xs : List V} (e : Same H H') (h : SqL K H a xs) : SqL K H' a xs := by
  rcases h with (h | ⟨o, h⟩) | h
  · exact .inl (.inl (e _ _ h))
  · exact .inl (.inr ⟨o, e _ _ h⟩)
  · exact .inr h
theorem Same.sqt {K : PySem.W.Frag} {H H' : Hp} {a : Addr} {xs : List V} (e : Same H H') (h : SqT K H a xs) : SqT K H' a xs := by
  rcases h with (h | ⟨o, h⟩) | h
  · exact .inl (.inl (e _ _ h))
  · exact .inl (.inr ⟨o, e _ _ h⟩)
  · exact .inr h
theorem tupT {K : PySem.W.Frag} {H : Hp} {a : Addr} {xs : List V} (h : H a = some (.tup xs)) : SqT K H a xs := .inl (.inl h)
theorem lstL {K : PySem.W.Frag} {H : Hp} {a : Addr} {xs : List V} (h : H a = some (.lst xs)) : SqL K H a xs := .inl (.inl h)
section
variable {P : Program} {w : World} {K : PySem.W.Frag} {mg : Str → Option Value} {base : Heap}
def spWords : Sp := fun vs H Q _ => ∃ ws, vs = [.str (textOf ws)] ∧ OkW ws ∧ ∀ r H', Same H H' → H r = none → H' r = some (.lst (wstrs ws)) → Q (.ref r) H'
theorem ok_words (D : Ds K) (T : Tx K mg) : FnOk P w K mg base CX0 1 (dwords_of.adr K) D.fd_words_of ["text"] spWords := by
  refine D.F_words_of.ok scwords_of (fun vs H Q E h => ?_) (fun cdv A outer s H vs Q E hr h => ?_)
  · obtain ⟨x, rfl, _⟩ := h
    rfl
  · obtain ⟨ws, rfl, ok, q⟩ := h
    refine ⟨_, PSs.nox (pss_cons (ps_if (pt_cmpR op_eq (pv 0) pe_str (nomark _)) (pss_one (ps_ret (pe_lst pa_nil))) pss_nil)
      (pss_one (ps_ret (pe_split (pv 0) pe_str)))), ?_⟩
    have hl := text_len ok
    by_cases hn : ws = []
    · subst hn
      refine ⟨_, rfl, rfl, true, rfl, iteT ⟨by show 0 ≤ sizeLine; decide, fun l hl => q l _ (same_new hl) hl upd_same⟩⟩
    · refine ⟨_, rfl, rfl, false, by rw [decide_eq_false]; intro z; injection z with z; exact text_ne hn z, iteF ?_⟩
      refine ⟨_, rfl, ⟨_, rfl⟩, _, _, rfl, rfl, rfl, Nat.le_trans (Nat.add_le_add_right hl 2) (by decide), fun l hl => ?_⟩
      refine q l _ (same_new hl) hl ?_
      rw [upd_same, split_text ok hn, List.map_map]
      rfl
def numOf : Wd → Nat
  | .op => 1
  | .cl n => n
  | .lt _ n => n
def spNumOf : Sp := fun vs H Q _ => ∃ x : Wd, vs = [.str x.str] ∧ x.ok ∧ Q (.int (numOf x : Int)) H
theorem ok_numof (D : Ds K) (T : Tx K mg) : FnOk P w K mg base CX0 1 (dnumber_of.adr K) D.fd_number_of ["word"] spNumOf := by
  refine D.F_number_of.ok scnumber_of (fun vs H Q E h => ?_) (fun cdv A outer s H vs Q E hr h => ?_)
  · obtain ⟨x, rfl, _⟩ := h
    rfl
  · obtain ⟨x, rfl, hx, q⟩ := h
    have hz : x.str.length ≤ sizeLine := by
      rw [WM.len_tl]
      exact Nat.le_trans (cps_len hx) (by decide)
    refine ⟨_, PSs.nox (pss_cons (ps_if (pt_cmpR op_eq (pe_callB call_len_str (by rfl) T.z_len PySem.boot_len (pa_cons (pv 0) pa_nil)) pe_int (nomark _)) (pss_one (ps_ret pe_int)) pss_nil)
      (pss_one (ps_ret (pe_callTy call_int_str (by rfl) T.z_int (by decide +kernel) (pa_cons (pe_slice sl_str (pv 0) (po_some pe_int) po_none) pa_nil))))), ?_⟩
    refine ⟨_, rfl, _, rfl, hz, rfl, ?_⟩
    have big : ∀ n : Nat, (numL n).length ≠ 0 := fun n z => numL_ne n (List.length_eq_zero_iff.mp z)
    cases x with
    | op => exact ⟨true, rfl, iteT q⟩
    | cl n =>
      refine ⟨false, ?_, iteF ⟨_, rfl, 1, rfl, _, rfl, hz, _, n, rfl, ?_, ?_, q⟩⟩
      · rw [decide_eq_false]
        intro z
        injection z with z
        have z : (((numL n).length + 1 : Nat) : Int) = 1 := z
        have := big n
        omega
      · rw [(cl_cut n).2]
        exact dg_int hx.2
      · rw [(cl_cut n).2]
        exact Nat.le_trans (dg_len hx.2) (by decide)
    | lt c n =>
      by_cases h1 : n = 1
      · subst h1
        exact ⟨true, rfl, iteT q⟩
      · refine ⟨false, ?_, iteF ⟨_, rfl, 1, rfl, _, rfl, hz, _, n, rfl, ?_, ?_, q⟩⟩
        · rw [decide_eq_false]
          intro z
          injection z with z
          have e : (Wd.lt c n).str = ⟨(c :: numL n).toArray⟩ := by
            show (⟨(if n = 1 then [c] else c :: numL n).toArray⟩ : Str) = _
            rw [if_neg h1]
          rw [e] at z
          have z : (((numL n).length + 1 : Nat) : Int) = 1 := z
          have := big n
          omega
        · rw [(lt_cut c h1).2]
          exact dg_int hx.2.2
        · rw [(lt_cut c h1).2]
          exact Nat.le_trans (dg_len hx.2.2) (by decide)
def spWrong (K : PySem.W.Frag) : Sp := fun vs H Q _ => ∃ a b ws, vs = [.ref a, .ref b] ∧ SqL K H a (wstrs ws) ∧ SqT K H b [] ∧ OkW ws ∧ ∀ H', Same H H' → Q .non H'
theorem ok_wrong (D : Ds K) (T : Tx K mg) : FnOk P w K mg base CX0 4 (dwrong_word.adr K) D.fd_wrong_word ["words", "names"] (spWrong K) := by
  have GC : FnOk P w K mg base CX0 3 _ _ _ spCounted := ok_counted D T
  refine D.F_wrong_word.ok scwrong_word (fun vs H Q E h => ?_) (fun cdv A outer s H vs Q E hr h => ?_)
  · obtain ⟨a, b, ws, rfl, _⟩ := h
    rfl
  · obtain ⟨a, b, ws, rfl, ha, hb, ok, q⟩ := h
    have nd := scwrong_word.nd
    obtain ⟨tD, vD⟩ := T.v_MOST_DEPTH
    obtain ⟨tW, vW⟩ := T.v_MOST_WORDS
    refine ⟨_, PSs.nox (pss_cons (ps_set (i := 2) nd rfl (.inl rfl) pe_int)
      (pss_cons (ps_for PassesOwn.never rfl (pi_enum (by rfl) T.z_enumerate (pa_cons (pv 0) pa_nil)) (pg_tup (by rfl) (pgs_cons (pg_name (i := 3) nd rfl (.inl rfl)) (pgs_cons (pg_name (i := 4) nd rfl (.inl rfl)) pgs_nil)))
        (pss_cons (ps_set (i := 5) nd rfl (.inl rfl) (pe_cmpR op_eq (pv 4) pe_str (nomark _)))
        (pss_cons (ps_set (i := 6) nd rfl (.inl rfl) (pe_m1 PySem.F.slot_str_startswith PySem.F.type_str_startswith mt_startswith (pv 4) pe_str))
        (pss_cons (ps_if (pt_not (PW.pt (pw_or (pt_val (pv 5)) (pw_or (pt_cmpR op_in_seq (pv 4) (pv 1) (by rfl)) (pw_or1 (pt_val (pe_call GC hr (by rfl) T.g__is_counted D.F__is_counted.kp (b__is_counted D) .nil pass0 (pa_cons (pv 4) pa_nil)))))))) (pss_one (ps_ret (pv 3))) pss_nil)
        (pss_cons (ps_if (PW.pt (pw_and (pt_val (pv 6)) (pw_and1 (PW.pt (pw_or (pt_cmpR op_eq (pv 2) pe_int (nomark _)) (pw_or1 (pt_cmpR op_eq (pe_ix ix_list (pv 0) (pe_op op_sub (pv 3) pe_int) (fun _ _ => rfl)) pe_str (nomark _)))))))) (pss_one (ps_ret (pv 3))) pss_nil)
        (pss_cons (ps_set (i := 2) nd rfl (.inl rfl) (pe_op op_sub (pe_op op_add (pv 2) (pe_callTy call_int1 (by rfl) T.z_int (by decide +kernel) (pa_cons (pv 5) pa_nil))) (pe_callTy call_int1 (by rfl) T.z_int (by decide +kernel) (pa_cons (pv 6) pa_nil))))
        (pss_cons (ps_set (i := 7) nd rfl (.inl rfl) (pe_op op_add (pv 2) (pe_callTy call_int1 (by rfl) T.z_int (by decide +kernel) (pa_cons (pv 5) pa_nil))))
        (pss_one (ps_if (PW.pt (pw_or (pt_cmpR op_gt (pv 2) (pe_glob (v := .int 12) rfl vD ⟨_, rfl⟩) (nomark _)) (pw_or1 (pt_cmpR op_gt (pe_op op_add (pe_op op_add (pv 3) pe_int) (pv 7)) (pe_glob (v := .int 1000) rfl vW ⟨_, rfl⟩) (nomark _))))) (pss_one (ps_ret (pv 3))) pss_nil)))))))))
      (pss_cons (ps_if (pt_cmpR op_gt (pv 2) pe_int (nomark _)) (pss_one (ps_ret (pe_callB call_len_seq (by rfl) T.z_len PySem.boot_len (pa_cons (pv 0) pa_nil)))) pss_nil)
      (pss_one (ps_ret pe_non))))), ?_⟩
    have len : (wstrs ws).length = ws.length := List.length_map ..
    refine ⟨_, rfl, a, _, rfl, ha, ?_⟩
    refine for_enum (xs := wstrs ws) (fun i σ H' => ∃ z3 z4 z5 z6 z7, Same H H' ∧ σ = [some (.ref a), some (.ref b), some (.int (dep ws i)), z3, z4, z5, z6, z7]) ⟨none, none, none, none, none, fun _ _ e => e, rfl⟩
      (fun i σ H' hi hp => by obtain ⟨_, _, _, _, _, sm, _⟩ := hp; exact Same.sql sm ha) (fun i x σ H1 Tp hx hp hT => ?_) fun σ H' hp => ?_
    · obtain ⟨z3, z4, z5, z6, z7, sm, rfl⟩ := hp
      obtain ⟨y, hy, rfl⟩ : ∃ y, ws[i]? = some y ∧ x = .str y.str := by
        unfold wstrs at hx
        rw [List.getElem?_map] at hx
        cases e : ws[i]? with
        | none => rw [e] at hx; cases hx
        | some y =>
          rw [e] at hx
          injection hx with hx
          exact ⟨y, rfl, hx.symm⟩
      have hyo := ok.ok y (List.mem_of_getElem? hy)
      have sm1 := sm.trans (same_new (o := .tup [.int (i : Nat), .str y.str]) hT)
      have il : i < ws.length := (List.getElem?_eq_some_iff.mp hy).1
      refine ⟨Tp, _, rfl, tupT upd_same, rfl, _, _, rfl, _, _, rfl, rfl, ?_⟩
      have ho : decide (V.str y.str = V.str "(") = isOp y := by
        have e := is_op y hyo
        cases y with
        | op => exact decide_eq_true rfl
        | cl n => exact decide_eq_false fun z => by injection z with z; cases e.mp z
        | lt c n => exact decide_eq_false fun z => by injection z with z; cases e.mp z
      have hc : Txt.startswith y.str (")" : Str) = isCl y := by
        cases y with
        | op => exact op_starts
        | cl n => exact cl_starts n
        | lt c n => exact lt_starts hyo.1
      refine ⟨_, rfl, rfl, ?_⟩
      rw [ho]
      refine ⟨_, rfl, ⟨_, rfl⟩, _, _, rfl, rfl, ?_⟩
      rw [hc]
      dsimp only [List.set_cons_zero, List.set_cons_succ]
      have hd := dep_succ hy
      have hup := ok.up (i + 1) il
      have hne := ok.need i y hy
      have b1 : b2 (isOp y) = if isOp y = true then 1 else 0 := rfl
      have b2' : b2 (isCl y) = if isCl y = true then 1 else 0 := rfl
      cases y with
      | op =>
        refine ⟨_, rfl, true, rfl, iteT (iteF ?_)⟩
        refine ⟨_, rfl, false, rfl, iteF ?_⟩
        refine ⟨_, rfl, _, rfl, .inr ⟨_, rfl, _, _, rfl, rfl, _, rfl, .inr ⟨_, rfl, _, _, rfl, rfl, ?_⟩⟩⟩
        dsimp only [List.set_cons_zero, List.set_cons_succ]
        rw [← b1, ← b2', ← hd]
        refine ⟨_, rfl, _, rfl, .inr ⟨_, rfl, _, _, rfl, rfl, ?_⟩⟩
        dsimp only [List.set_cons_zero, List.set_cons_succ]
        rw [← b1]
        refine ⟨_, rfl, _, _, rfl, rfl, false, ?_, iteF ⟨_, rfl, _, _, rfl, rfl, _, rfl, _, _, rfl, rfl, _, _, rfl, rfl, false, ?_, iteF ⟨_, _, _, _, _, sm1, rfl⟩⟩⟩
        · exact congrArg V.bl (decide_eq_false (by omega))
        · exact congrArg V.bl (decide_eq_false (by omega))
      | cl n =>
        refine ⟨_, rfl, false, rfl, iteF ⟨_, rfl, _, rfl, b, _, rfl, .inr (Same.sqt sm1 hb), rfl, rfl, false, rfl, iteF ⟨_, rfl, _, rfl, hyo, nofun, true, rfl, iteF ?_⟩⟩⟩
        obtain ⟨hd0, hpre⟩ := ok.cl i n hy
        have i0 : i ≠ 0 := by
          intro z
          rw [z] at hd0
          exact absurd hd0 (by show ¬ (0 : Int) < 0; decide)
        obtain ⟨j, rfl⟩ : ∃ j, i = j + 1 := ⟨i - 1, by omega⟩
        obtain ⟨u, hu⟩ : ∃ u, ws[j]? = some u := ⟨_, List.getElem?_eq_getElem (by omega)⟩
        have hun : u ≠ .op := fun z => hpre j rfl (by rw [hu, z])
        have huo := ok.ok u (List.mem_of_getElem? hu)
        have gx : (wstrs ws)[j]? = some (.str u.str) := by
          unfold wstrs
          rw [List.getElem?_map, hu]
          rfl
        refine ⟨_, rfl, true, rfl, iteT ⟨_, rfl, rfl, false, ?_, iteF ⟨_, rfl, _, rfl, _, _, rfl, rfl, a, _, _, .str u.str, rfl, rfl, Same.sql sm1 ha, ?_, rfl, false, ?_, iteF ?_⟩⟩⟩
        · exact congrArg V.bl (decide_eq_false fun z => by injection z with z; omega)
        · show atI (wstrs ws) (((j + 1 : Nat) : Int) - 1) = _
          rw [show ((j + 1 : Nat) : Int) - 1 = (j : Int) by omega]
          exact atI_nat gx
        · exact congrArg V.bl (decide_eq_false fun z => by injection z with z; exact hun ((is_op u huo).mp z))
        refine ⟨_, rfl, _, rfl, .inr ⟨_, rfl, _, _, rfl, rfl, _, rfl, .inr ⟨_, rfl, _, _, rfl, rfl, ?_⟩⟩⟩
        dsimp only [List.set_cons_zero, List.set_cons_succ]
        rw [← b1, ← b2', ← hd]
        refine ⟨_, rfl, _, rfl, .inr ⟨_, rfl, _, _, rfl, rfl, ?_⟩⟩
        dsimp only [List.set_cons_zero, List.set_cons_succ]
        rw [← b1]
        refine ⟨_, rfl, _, _, rfl, rfl, false, ?_, iteF ⟨_, rfl, _, _, rfl, rfl, _, rfl, _, _, rfl, rfl, _, _, rfl, rfl, false, ?_, iteF ⟨_, _, _, _, _, sm1, rfl⟩⟩⟩
        · exact congrArg V.bl (decide_eq_false (by omega))
        · exact congrArg V.bl (decide_eq_false (by omega))
      | lt c n =>
        refine ⟨_, rfl, false, rfl, iteF ⟨_, rfl, _, rfl, b, _, rfl, .inr (Same.sqt sm1 hb), rfl, rfl, false, rfl, iteF ⟨_, rfl, _, rfl, hyo, nofun, true, rfl, iteF ?_⟩⟩⟩
        refine ⟨_, rfl, false, rfl, iteF ?_⟩
        refine ⟨_, rfl, _, rfl, .inr ⟨_, rfl, _, _, rfl, rfl, _, rfl, .inr ⟨_, rfl, _, _, rfl, rfl, ?_⟩⟩⟩
        dsimp only [List.set_cons_zero, List.set_cons_succ]
        rw [← b1, ← b2', ← hd]
        refine ⟨_, rfl, _, rfl, .inr ⟨_, rfl, _, _, rfl, rfl, ?_⟩⟩
        dsimp only [List.set_cons_zero, List.set_cons_succ]
        rw [← b1]
        refine ⟨_, rfl, _, _, rfl, rfl, false, ?_, iteF ⟨_, rfl, _, _, rfl, rfl, _, rfl, _, _, rfl, rfl, _, _, rfl, rfl, false, ?_, iteF ⟨_, _, _, _, _, sm1, rfl⟩⟩⟩
        · exact congrArg V.bl (decide_eq_false (by omega))
        · exact congrArg V.bl (decide_eq_false (by omega))
    · obtain ⟨z3, z4, z5, z6, z7, sm, rfl⟩ := hp
      have h0 : dep ws (wstrs ws).length = 0 := by rw [len]; exact ok.shut
      refine ⟨_, rfl, _, _, rfl, rfl, false, ?_, iteF (q H' sm)⟩
      show V.bl (decide (dep ws (wstrs ws).length > 0)) = _
      rw [h0]
      rfl
end
end K09P

set_option linter.all false
set_option maxRecDepth 100000
set_option maxHeartbeats 4000000
set_option exponentiation.threshold 3000
/-! programs as trees -/
namespace WM
open PySem PySem.Spec PyProof.Rows L2 TL
/-- the parts of a program: a letter so many times and the rest; inner parts so many times and the rest -/
inductive Ps where
  | nil
  | lf (c n : Nat) (r : Ps)
  | rp (b : Ps) (n : Nat) (r : Ps)
def Ps.app : Ps → Ps → Ps
  | .nil, q => q
  | .lf c n r, q => .lf c n (r.app q)
  | .rp b n r, q => .rp b n (r.app q)
def Ps.words : Ps → List Wd
  | .nil => []
  | .lf c n r => .lt c n :: r.words
  | .rp b n r => .op :: (b.words ++ .cl n :: r.words)
def Ps.size : Ps → Nat
  | .nil => 0
  | .lf _ n r => n + r.size
  | .rp b n r => b.size * n + r.size
def Ps.lev : Ps → Nat
  | .nil => 0
  | .lf _ _ r => r.lev
  | .rp b _ r => max (1 + b.lev) r.lev
def Ps.ok : Ps → Prop
  | .nil => True
  | .lf c n r => (c ∈ six ∧ 1 ≤ n ∧ n ≤ T30) ∧ r.ok
  | .rp b n r => b ≠ .nil ∧ b.ok ∧ (2 ≤ n ∧ n ≤ T30) ∧ r.ok
def Ps.sizes : Ps → List Int
  | .nil => []
  | .lf _ n r => (n : Int) :: r.sizes
  | .rp b n r => ((b.size * n : Nat) : Int) :: r.sizes
def Ps.levs : Ps → List Int
  | .nil => []
  | .lf _ _ r => 0 :: r.levs
  | .rp b _ r => ((1 + b.lev : Nat) : Int) :: r.levs
theorem sizes_sum : ∀ p : Ps, p.sizes.sum = (p.size : Int)
  | .nil => rfl
  | .lf c n r => by
    have := sizes_sum r
    simp only [Ps.sizes, Ps.size, List.sum_cons, this]
    omega
  | .rp b n r => by
    have := sizes_sum r
    simp only [Ps.sizes, Ps.size, List.sum_cons, this]
    omega
theorem levs_fold : ∀ (p : Ps) (a : Int), p.levs.foldl max a = max a (p.lev : Int) ∨ p = .nil
  | .nil, _ => .inr rfl
  | .lf c n r, a => by
    refine .inl ?_
    show r.levs.foldl max (max a 0) = max a (r.lev : Int)
    rcases levs_fold r (max a 0) with h | h
    · rw [h]
      omega
    · subst h
      show max a 0 = max a ((0 : Nat) : Int)
      rfl
  | .rp b n r, a => by
    refine .inl ?_
    show r.levs.foldl max (max a ((1 + b.lev : Nat) : Int)) = max a ((max (1 + b.lev) r.lev : Nat) : Int)
    rcases levs_fold r (max a ((1 + b.lev : Nat) : Int)) with h | h
    · rw [h]
      omega
    · subst h
      show max a _ = max a ((max (1 + b.lev) 0 : Nat) : Int)
      omega
theorem levs_max (p : Ps) : RT.maxI 0 p.levs = (p.lev : Int) := by
  cases p with
  | nil => rfl
  | lf c n r =>
    show r.levs.foldl max 0 = (r.lev : Int)
    rcases levs_fold r 0 with h | h
    · rw [h]; omega
    · subst h; rfl
  | rp b n r =>
    show r.levs.foldl max ((1 + b.lev : Nat) : Int) = ((max (1 + b.lev) r.lev : Nat) : Int)
    rcases levs_fold r ((1 + b.lev : Nat) : Int) with h | h
    · rw [h]; omega
    · subst h
      show ((1 + b.lev : Nat) : Int) = ((max (1 + b.lev) 0 : Nat) : Int)
      omega
theorem sizes_len (p : Ps) : p.sizes.length = p.levs.length := by
  induction p with
  | nil => rfl
  | lf c n r ih => simp [Ps.sizes, Ps.levs, ih]
  | rp b n r _ ih => simp [Ps.sizes, Ps.levs, ih]
theorem app_words (p q : Ps) : (p.app q).words = p.words ++ q.words := by
  induction p with
  | nil => rfl
  | lf c n r ih => simp [Ps.app, Ps.words, ih]
  | rp b n r _ ih => simp [Ps.app, Ps.words, ih]
theorem app_nil (p : Ps) : p.app .nil = p := by
  induction p with
  | nil => rfl
  | lf c n r ih => simp [Ps.app, ih]
  | rp b n r _ ih => simp [Ps.app, ih]
theorem app_assoc (p q r : Ps) : (p.app q).app r = p.app (q.app r) := by
  induction p with
  | nil => rfl
  | lf c n r ih => simp [Ps.app, ih]
  | rp b n r _ ih => simp [Ps.app, ih]
/-- a program of so many words has only so many steps -/
theorem size_le (p : Ps) (h : p.ok) : p.size ≤ p.words.length * 2 ^ (100 * (p.lev + 1)) := by
  have t : T30 ≤ 2 ^ 100 := by decide
  induction p with
  | nil => exact Nat.zero_le _
  | lf c n r ih =>
    have h1 := ih h.2
    have h2 : n ≤ 2 ^ 100 := Nat.le_trans h.1.2.2 t
    have h3 : (2 : Nat) ^ 100 ≤ 2 ^ (100 * (r.lev + 1)) := Nat.pow_le_pow_right (by decide) (by omega)
    simp only [Ps.size, Ps.words, Ps.lev, List.length_cons, Nat.add_mul, Nat.one_mul]
    omega
  | rp b n r ihb ihr =>
    obtain ⟨_, hb, hn, hr⟩ := h
    have h1 := ihb hb
    have h2 := ihr hr
    have h3 : n ≤ 2 ^ 100 := Nat.le_trans hn.2 t
    have e1 : b.size * n ≤ (b.words.length * 2 ^ (100 * (b.lev + 1))) * 2 ^ 100 := Nat.mul_le_mul h1 h3
    rw [Nat.mul_assoc, ← Nat.pow_add] at e1
    have h4 : (2 : Nat) ^ (100 * (b.lev + 1) + 100) ≤ 2 ^ (100 * (max (1 + b.lev) r.lev + 1)) := Nat.pow_le_pow_right (by decide) (by omega)
    have h5 : (2 : Nat) ^ (100 * (r.lev + 1)) ≤ 2 ^ (100 * (max (1 + b.lev) r.lev + 1)) := Nat.pow_le_pow_right (by decide) (by omega)
    have e2 := Nat.le_trans e1 (Nat.mul_le_mul_left b.words.length h4)
    have e3 := Nat.le_trans h2 (Nat.mul_le_mul_left r.words.length h5)
    simp only [Ps.size, Ps.words, Ps.lev, List.length_cons, List.length_append, Nat.add_mul, Nat.one_mul]
    generalize 2 ^ (100 * (max (1 + b.lev) r.lev + 1)) = X at *
    omega
section
variable (K : PySem.W.Frag) (C : Addr)
/-- the objects of the parts -/
inductive PartsAt (H : Hp) : List V → Ps → Prop
  | nil : PartsAt H [] .nil
  | lf {a d e : Addr} {c n : Nat} {vs : List V} {r : Ps} : H a = some (.ins C d [("letter", .str ⟨#[c]⟩), ("times", .int (n : Int)), ("inner", .ref e), ("unit", .int 1), ("size", .int (n : Int)), ("levels", .int 0)]) → H e = some (.tup []) → PartsAt H vs r → PartsAt H (.ref a :: vs) (.lf c n r)
  | rp {a d e : Addr} {n : Nat} {us vs : List V} {b r : Ps} : H a = some (.ins C d [("letter", .str ""), ("times", .int (n : Int)), ("inner", .ref e), ("unit", .int (b.size : Int)), ("size", .int ((b.size * n : Nat) : Int)), ("levels", .int ((1 + b.lev : Nat) : Int))]) → H e = some (.tup us) → PartsAt H us b → PartsAt H vs r → PartsAt H (.ref a :: vs) (.rp b n r)
variable {K C}
theorem PartsAt.same {H H' : Hp} {vs : List V} {p : Ps} (h : PartsAt C H vs p) (s : ∀ b o, H b = some o → H' b = some o) : PartsAt C H' vs p := by
  induction h with
  | nil => exact .nil
  | lf h1 h2 _ ih => exact .lf (s _ _ h1) (s _ _ h2) ih
  | rp h1 h2 _ _ ih1 ih2 => exact .rp (s _ _ h1) (s _ _ h2) ih1 ih2
theorem PartsAt.app {H : Hp} {vs us : List V} {p q : Ps} (h : PartsAt C H vs p) (k : PartsAt C H us q) : PartsAt C H (vs ++ us) (p.app q) := by
  induction h with
  | nil => exact k
  | lf h1 h2 _ ih => exact .lf h1 h2 ih
  | rp h1 h2 h3 _ _ ih2 => exact .rp h1 h2 h3 ih2
theorem PartsAt.len {H : Hp} {vs : List V} {p : Ps} (h : PartsAt C H vs p) : vs.length = p.sizes.length := by
  induction h with
  | nil => rfl
  | lf _ _ _ ih => simp [Ps.sizes, ih]
  | rp _ _ _ _ _ ih => simp [Ps.sizes, ih]
/-- what a part's fields tell -/
theorem PartsAt.get {H : Hp} {vs : List V} {p : Ps} (h : PartsAt C H vs p) : ∀ (i : Nat) (x : V), vs[i]? = some x → ∃ a d fs z l, x = .ref a ∧ H a = some (.ins C d fs) ∧ fs.lookup ("size" : Str) = some (.int z) ∧ p.sizes[i]? = some z ∧ fs.lookup ("levels" : Str) = some (.int l) ∧ p.levs[i]? = some l := by
  induction h with
  | nil => intro i x e; cases e
  | lf h1 h2 _ ih =>
    intro i x e
    cases i with
    | zero => cases e; exact ⟨_, _, _, _, _, rfl, h1, rfl, rfl, rfl, rfl⟩
    | succ i => exact ih i x e
  | rp h1 h2 _ _ _ ih =>
    intro i x e
    cases i with
    | zero => cases e; exact ⟨_, _, _, _, _, rfl, h1, rfl, rfl, rfl, rfl⟩
    | succ i => exact ih i x e
end
theorem sizes_le (p : Ps) : p.sizes.length ≤ p.words.length := by
  induction p with
  | nil => exact Nat.le_refl _
  | lf c n r ih => simp only [Ps.sizes, Ps.words, List.length_cons]; omega
  | rp b n r _ ih => simp only [Ps.sizes, Ps.words, List.length_cons, List.length_append]; omega
end WM

set_option Elab.async false
set_option linter.all false
set_option maxRecDepth 100000
set_option maxHeartbeats 4000000
namespace K09P
open PySem PySem.Spec PyProof.Rows L2 RT WM K09 TL
abbrev NSz : List Str := Nsize_of ++ [("part" : Str)]
theorem scSz : FnScope NSz ["parts"] (defScope ssize_of) := ⟨rfl, rfl, rfl, by decide +kernel, rfl, by decide +kernel, by decide +kernel⟩
abbrev NLv : List Str := Nlevels_of ++ [("part" : Str)]
theorem scLv : FnScope NLv ["parts"] (defScope slevels_of) := ⟨rfl, rfl, rfl, by decide +kernel, rfl, by decide +kernel, by decide +kernel⟩
section
variable {P : Program} {w : World} {K : PySem.W.Frag} {mg : Str → Option Value} {base : Heap}
def spSize (K : PySem.W.Frag) : Sp := fun vs H Q _ => ∃ a us p, vs = [.ref a] ∧ SqT K H a us ∧ PartsAt (He.ga K "Part") H us p ∧ p.sizes.length ≤ 1000 ∧ ∀ H', Same H H' → Q (.int (p.size : Int)) H'
theorem ok_size (D : Ds K) (T : Tx K mg) : FnOk P w K mg base CX0 1 (dsize_of.adr K) D.fd_size_of ["parts"] (spSize K) := by
  refine D.F_size_of.ok scSz (fun vs H Q E h => ?_) (fun cdv A outer s H vs Q E hr h => ?_)
  · obtain ⟨a, us, p, rfl, _⟩ := h
    rfl
  · obtain ⟨a, us, p, rfl, ha, hp, hl, q⟩ := h
    have nd := scSz.nd
    refine ⟨_, PSs.nox (pss_one (ps_ret (pe_callB (cr_sum rfl) (by rfl) T.z_sum (by decide +kernel) (pa_cons (pe_lc (own := [(("part" : Str), 1)]) (g := gName 1) (tt := tYes) (te := tFld K (tVar 1) "size") rfl nd (pi_tup (pv 0)) (blkOk_by (own := [(("part" : Str), 1)]) (N := NSz) (sc := defScope ssize_of) (by decide +kernel))
      (fun _ _ _ _ _ => pg_name (i := 1) nd rfl (Or.inl rfl)) (fun _ _ _ _ _ => pts_nil) (fun _ _ _ _ _ => pe_fld (pv 1) rfl)) pa_nil)))), ?_⟩
    refine ⟨_, rfl, a, rfl, ⟨_, ha⟩, fun Dd hD => ?_⟩
    have s0 := same_new (o := .lst []) hD
    have lz : p.sizes.length ≤ sizeLine := Nat.le_trans hl (by decide)
    refine lc_tup (K := K) (a := a) (xs := us) (fun i H' => Same H H' ∧ H' Dd = some (.lst ((p.sizes.take i).map V.int))) ⟨s0, upd_same⟩ (fun i H' hi hp' => Same.sqt hp'.1 ha) (fun i x H' hx hp' => ?_) fun H' hp' => ?_
    · obtain ⟨sm, eD⟩ := hp'
      obtain ⟨b, d, fs, z, l, rfl, eb, ez, gz, _, _⟩ := hp.get i x hx
      refine ⟨rfl, _, rfl, b, _, d, fs, .int z, rfl, sm _ _ eb, T.c_Part, T.n_Part_size, ez, _, eD, ?_, ?_, ?_⟩
      · rw [List.length_map, List.length_take]
        have : i < p.sizes.length := (List.getElem?_eq_some_iff.mp gz).1
        omega
      · intro b' o' e'
        have := sm _ _ e'
        rw [upd_ne (ne_of_none e' hD)]
        exact this
      · rw [upd_same, List.take_succ, gz, List.map_append]
        rfl
    · obtain ⟨sm, eD⟩ := hp'
      have e : us.length = p.sizes.length := hp.len
      rw [e, List.take_length] at eD
      refine ⟨Dd, p.sizes, rfl, lstL eD, ?_⟩
      rw [sizes_sum]
      exact q _ sm
def spLevs (K : PySem.W.Frag) : Sp := fun vs H Q _ => ∃ a us p, vs = [.ref a] ∧ SqT K H a us ∧ PartsAt (He.ga K "Part") H us p ∧ p.sizes.length ≤ 1000 ∧ ∀ H', Same H H' → Q (.int (p.lev : Int)) H'
theorem ok_levs (D : Ds K) (T : Tx K mg) : FnOk P w K mg base CX0 1 (dlevels_of.adr K) D.fd_levels_of ["parts"] (spLevs K) := by
  refine D.F_levels_of.ok scLv (fun vs H Q E h => ?_) (fun cdv A outer s H vs Q E hr h => ?_)
  · obtain ⟨a, us, p, rfl, _⟩ := h
    rfl
  · obtain ⟨a, us, p, rfl, ha, hp, hl, q⟩ := h
    have nd := scLv.nd
    refine ⟨_, PSs.nox (pss_one (ps_ret (pe_callBK (crk_maxD rfl hr.units) (by rfl) T.z_max (by decide +kernel) (pa_cons (pe_lc (own := [(("part" : Str), 1)]) (g := gName 1) (tt := tYes) (te := tFld K (tVar 1) "levels") rfl nd (pi_tup (pv 0)) (blkOk_by (own := [(("part" : Str), 1)]) (N := NLv) (sc := defScope slevels_of) (by decide +kernel))
      (fun _ _ _ _ _ => pg_name (i := 1) nd rfl (Or.inl rfl)) (fun _ _ _ _ _ => pts_nil) (fun _ _ _ _ _ => pe_fld (pv 1) rfl)) pa_nil) (pk_cons pe_int pk_nil)))), ?_⟩
    refine ⟨_, rfl, a, rfl, ⟨_, ha⟩, fun Dd hD => ?_⟩
    have s0 := same_new (o := .lst []) hD
    have lz : p.sizes.length ≤ sizeLine := Nat.le_trans hl (by decide)
    refine lc_tup (K := K) (a := a) (xs := us) (fun i H' => Same H H' ∧ H' Dd = some (.lst ((p.levs.take i).map V.int))) ⟨s0, upd_same⟩ (fun i H' hi hp' => Same.sqt hp'.1 ha) (fun i x H' hx hp' => ?_) fun H' hp' => ?_
    · obtain ⟨sm, eD⟩ := hp'
      obtain ⟨b, d, fs, z, l, rfl, eb, _, _, ez, gz⟩ := hp.get i x hx
      refine ⟨rfl, _, rfl, b, _, d, fs, .int l, rfl, sm _ _ eb, T.c_Part, T.n_Part_levels, ez, _, eD, ?_, ?_, ?_⟩
      · rw [List.length_map, List.length_take]
        have : i < p.levs.length := (List.getElem?_eq_some_iff.mp gz).1
        rw [sizes_len] at lz
        omega
      · intro b' o' e'
        have := sm _ _ e'
        rw [upd_ne (ne_of_none e' hD)]
        exact this
      · rw [upd_same, List.take_succ, gz, List.map_append]
        rfl
    · obtain ⟨sm, eD⟩ := hp'
      have e : us.length = p.levs.length := hp.len.trans (sizes_len p)
      rw [e, List.take_length] at eD
      refine ⟨Dd, p.levs, 0, rfl, rfl, lstL eD, ?_⟩
      rw [levs_max]
      exact q _ sm
end
end K09P

set_option Elab.async false
set_option linter.all false
set_option maxRecDepth 100000
set_option maxHeartbeats 4000000
set_option exponentiation.threshold 3000
namespace K09P
open PySem PySem.Spec PyProof.Rows L2 RT WM K09 TL
def unitOf : Ps → Nat
  | .nil => 1
  | p => p.size
def levOf : Ps → Nat
  | .nil => 0
  | p => 1 + p.lev
theorem partsKeep {C a d : Addr} {H H' : Hp} {us : List V} {p : Ps} (h : PartsAt C H us p) (ea : H a = some (.ins C d [])) (k : ∀ b o, b ≠ a → H b = some o → H' b = some o) : PartsAt C H' us p := by
  induction h with
  | nil => exact .nil
  | lf h1 h2 _ ih =>
    refine .lf (k _ _ (fun z => ?_) h1) (k _ _ (fun z => ?_) h2) ih
    · rw [z, ea] at h1; cases h1
    · rw [z, ea] at h2; cases h2
  | rp h1 h2 _ _ ih1 ih2 =>
    refine .rp (k _ _ (fun z => ?_) h1) (k _ _ (fun z => ?_) h2) ih1 ih2
    · rw [z, ea] at h1; cases h1
    · rw [z, ea] at h2; cases h2
theorem isE_false {us : List V} {C : Addr} {H : Hp} {p : Ps} (h : PartsAt C H us p) : (!us.isEmpty) = (match p with | .nil => false | _ => true) := by
  cases h <;> rfl
section
variable {P : Program} {w : World} {K : PySem.W.Frag} {mg : Str → Option Value} {base : Heap}
def spPart (K : PySem.W.Frag) : Sp := fun vs H Q _ => ∃ (a d e : Addr) (l : Str) (n : Nat) (us : List V) (b : Ps), vs = [.ref a, .str l, .int (n : Int), .ref e] ∧ n ≤ T30 ∧ H a = some (.ins (He.ga K "Part") d []) ∧ H e = some (.tup us) ∧ PartsAt (He.ga K "Part") H us b ∧ b.sizes.length ≤ 1000 ∧ b.size < 2 ^ 2000 ∧
  ∀ H', (∀ x o, x ≠ a → H x = some o → H' x = some o) → H' a = some (.ins (He.ga K "Part") d [("letter", .str l), ("times", .int (n : Int)), ("inner", .ref e), ("unit", .int (unitOf b : Int)), ("size", .int ((unitOf b * n : Nat) : Int)), ("levels", .int (levOf b : Int))]) → Q .non H'
theorem ok_part (D : Ds K) (T : Tx K mg) : FnOk P w K mg base CX0 2 (dPart_init.adr K) D.fd_Part_init ["self", "letter", "times", "inner"] (spPart K) := by
  have GS : FnOk P w K mg base CX0 1 _ _ _ (spSize K) := ok_size D T
  have GL : FnOk P w K mg base CX0 1 _ _ _ (spLevs K) := ok_levs D T
  refine D.F_Part_init.ok scPart_init (fun vs H Q E h => ?_) (fun cdv A outer s H vs Q E hr h => ?_)
  · obtain ⟨a, d, e, l, n, us, b, rfl, _⟩ := h
    rfl
  · obtain ⟨a, d, e, l, n, us, b, rfl, hn, ea, ee, hp, hl, hs, q⟩ := h
    refine ⟨_, PSs.nox (pss_cons (ps_fld (pv 0) (pv 1) rfl) (pss_cons (ps_fld (pv 0) (pv 2) rfl) (pss_cons (ps_fld (pv 0) (pv 3) rfl)
      (pss_cons (ps_fld (pv 0) (pe_ifExp (pt_truth (pv 3) (by intro _; rfl)) (pe_call GS hr (by rfl) T.g_size_of D.F_size_of.kp (b_size_of D) .nil pass0 (pa_cons (pv 3) pa_nil)) pe_int) rfl)
      (pss_cons (ps_fld (pv 0) (pe_op op_mulW (pe_fld (pv 0) rfl) (pv 2)) rfl)
      (pss_one (ps_fld (pv 0) (pe_ifExp (pt_truth (pv 3) (by intro _; rfl)) (pe_op op_add pe_int (pe_call GL hr (by rfl) T.g_levels_of D.F_levels_of.kp (b_levels_of D) .nil pass0 (pa_cons (pv 3) pa_nil))) pe_int) rfl))))))), ?_⟩
    have nea : e ≠ a := fun z => by
      rw [z, ea] at ee
      cases ee
    refine ⟨_, rfl, _, rfl, a, _, d, _, rfl, ea, T.c_Part, T.n_Part_letter, by show 0 < 1000; decide, ?_⟩
    refine ⟨_, rfl, _, rfl, a, _, d, _, rfl, upd_same, T.c_Part, T.n_Part_times, by show 1 < 1000; decide, ?_⟩
    refine ⟨_, rfl, _, rfl, a, _, d, _, rfl, upd_same, T.c_Part, T.n_Part_inner, by show 2 < 1000; decide, ?_⟩
    have k3 : ∀ x o, x ≠ a → H x = some o → (upd (upd (upd H a (.ins (He.ga K "Part") d [("letter", .str l)])) a (.ins (He.ga K "Part") d [("letter", .str l), ("times", .int (n : Int))])) a (.ins (He.ga K "Part") d [("letter", .str l), ("times", .int (n : Int)), ("inner", .ref e)])) x = some o := fun x o hx h => by
      rw [upd_ne hx, upd_ne hx, upd_ne hx]
      exact h
    have a3 : (upd (upd (upd H a (.ins (He.ga K "Part") d [("letter", .str l)])) a (.ins (He.ga K "Part") d [("letter", .str l), ("times", .int (n : Int))])) a (.ins (He.ga K "Part") d [("letter", .str l), ("times", .int (n : Int)), ("inner", .ref e)])) a = some (.ins (He.ga K "Part") d [("letter", .str l), ("times", .int (n : Int)), ("inner", .ref e)]) := upd_same
    have p3 := partsKeep hp ea k3
    have e3 := k3 e _ nea ee
    have n100 : ((n : Int)).natAbs < 2 ^ 101 := by
      have t : T30 ≤ 2 ^ 100 := by decide
      have t2 : (2 : Nat) ^ 100 < 2 ^ 101 := by decide
      omega
    have isE := isE_false p3
    by_cases hb : b = .nil
    · subst hb
      have ie : (!us.isEmpty) = false := isE
      refine ⟨_, rfl, false, .inr (.inl ⟨us, tupT e3, ie.symm⟩), iteF ⟨_, rfl, a, _, d, _, rfl, upd_same, T.c_Part, T.n_Part_unit, by show 3 < 1000; decide, ?_⟩⟩
      refine ⟨_, rfl, a, _, d, _, .int 1, rfl, upd_same, T.c_Part, T.n_Part_unit, rfl, _, rfl, _, _, rfl, rfl, wide_mul (a := 10) (b := 101) (by decide) n100 (by decide) (by decide) (by decide), _, rfl, a, _, d, _, rfl, upd_same, T.c_Part, T.n_Part_size, by show 4 < 1000; decide, ?_⟩
      have e5 : ∀ o4 o5, upd (upd (upd (upd (upd H a (.ins (He.ga K "Part") d [("letter", .str l)])) a (.ins (He.ga K "Part") d [("letter", .str l), ("times", .int (n : Int))])) a (.ins (He.ga K "Part") d [("letter", .str l), ("times", .int (n : Int)), ("inner", .ref e)])) a o4) a o5 e = some (.tup us) := fun o4 o5 => by
        rw [upd_ne nea, upd_ne nea]
        exact e3
      refine ⟨_, rfl, false, .inr (.inl ⟨us, tupT (e5 _ _), ie.symm⟩), iteF ⟨_, rfl, a, _, d, _, rfl, upd_same, T.c_Part, T.n_Part_levels, by show 5 < 1000; decide, ?_⟩⟩
      refine q _ (fun x o hx h => ?_) ?_
      · rw [upd_ne hx, upd_ne hx, upd_ne hx]
        exact k3 x o hx h
      · rw [upd_same]
        show some (HO.ins _ d [_, _, _, _, ("size", .int (1 * (n : Int))), _]) = some (HO.ins _ d [_, _, _, _, ("size", .int ((1 * n : Nat) : Int)), _])
        rw [Int.one_mul, Nat.one_mul]
        rfl
    · have ie : (!us.isEmpty) = true := by
        rw [isE]
        cases b with
        | nil => exact absurd rfl hb
        | lf c m r => rfl
        | rp b m r => rfl
      have hu : unitOf b = b.size := by
        cases b with
        | nil => exact absurd rfl hb
        | lf c m r => rfl
        | rp b m r => rfl
      have hv : levOf b = 1 + b.lev := by
        cases b with
        | nil => exact absurd rfl hb
        | lf c m r => rfl
        | rp b m r => rfl
      refine ⟨_, rfl, true, .inr (.inl ⟨us, tupT e3, ie.symm⟩), iteT ⟨_, rfl, e, us, b, rfl, tupT e3, p3, hl, fun H4 s4 => ?_⟩⟩
      have a4 := s4 _ _ a3
      refine ⟨_, rfl, a, _, d, _, rfl, a4, T.c_Part, T.n_Part_unit, by show 3 < 1000; decide, ?_⟩
      refine ⟨_, rfl, a, _, d, _, .int (b.size : Int), rfl, upd_same, T.c_Part, T.n_Part_unit, rfl, _, rfl, _, _, rfl, rfl, wide_mul (a := 2000) (b := 101) (by omega) n100 (by decide) (by decide) (by decide), _, rfl, a, _, d, _, rfl, upd_same, T.c_Part, T.n_Part_size, by show 4 < 1000; decide, ?_⟩
      have k5 : ∀ o4 o5 x o, x ≠ a → H x = some o → upd (upd H4 a o4) a o5 x = some o := fun o4 o5 x o hx h => by
        rw [upd_ne hx, upd_ne hx]
        exact s4 _ _ (k3 x o hx h)
      refine ⟨_, rfl, true, .inr (.inl ⟨us, tupT (k5 _ _ e _ nea ee), ie.symm⟩), iteT ⟨_, rfl, e, us, b, rfl, tupT (k5 _ _ e _ nea ee), partsKeep hp ea (k5 _ _), hl, fun H6 s6 => ?_⟩⟩
      refine ⟨_, _, rfl, rfl, _, rfl, a, _, d, _, rfl, s6 _ _ upd_same, T.c_Part, T.n_Part_levels, by show 5 < 1000; decide, ?_⟩
      refine q _ (fun x o hx h => ?_) ?_
      · rw [upd_ne hx]
        exact s6 _ _ (k5 _ _ x o hx h)
      · rw [upd_same, hu, hv]
        show some (HO.ins _ d [_, _, _, _, ("size", .int ((b.size : Int) * (n : Int))), ("levels", .int (1 + (b.lev : Int)))]) = some (HO.ins _ d [_, _, _, _, ("size", .int ((b.size * n : Nat) : Int)), ("levels", .int ((1 + b.lev : Nat) : Int))])
        rw [Int.natCast_mul, Int.natCast_add]
        rfl
end
end K09P

set_option Elab.async false
set_option linter.all false
set_option maxRecDepth 100000
set_option maxHeartbeats 4000000
set_option exponentiation.threshold 3000
namespace K09P
open PySem PySem.Spec PyProof.Rows L2 RT WM K09 TL
theorem getAt {A B t : List Wd} {y : Wd} (h : B = y :: t) : (wstrs (A ++ B))[A.length]? = some (.str y.str) := by
  subst h
  unfold wstrs
  rw [List.getElem?_map, List.getElem?_append_right (Nat.le_refl _), Nat.sub_self]
  rfl
theorem lt_head (c n : Nat) : ((Wd.lt c n).str.cps.toList)[0]? = some c := by
  show (if n = 1 then [c] else c :: numL n)[0]? = some c
  split <;> rfl
theorem partsUpd {C l : Addr} {H : Hp} {us ys : List V} {o : HO} {p : Ps} (h : PartsAt C H us p) (el : H l = some (.lst ys)) : PartsAt C (upd H l o) us p := by
  have k : ∀ b u, (∀ zs, u ≠ .lst zs) → H b = some u → upd H l o b = some u := fun b u hu h => by
    rw [upd_ne]
    · exact h
    · intro z
      rw [z, el] at h
      exact hu ys (Option.some.inj h).symm
  induction h with
  | nil => exact .nil
  | lf h1 h2 _ ih => exact .lf (k _ _ (fun _ => nofun) h1) (k _ _ (fun _ => nofun) h2) ih
  | rp h1 h2 _ _ ih1 ih2 => exact .rp (k _ _ (fun _ => nofun) h1) (k _ _ (fun _ => nofun) h2) ih1 ih2
theorem app_ok {p q : Ps} (hp : p.ok) (hq : q.ok) : (p.app q).ok := by
  induction p with
  | nil => exact hq
  | lf c n r ih => exact ⟨hp.1, ih hp.2⟩
  | rp b n r _ ih => exact ⟨hp.1, hp.2.1, hp.2.2.1, ih hp.2.2.2⟩
theorem app_lev (p q : Ps) : (p.app q).lev = max p.lev q.lev := by
  induction p with
  | nil => exact (Nat.zero_max _).symm
  | lf c n r ih => exact ih
  | rp b n r _ ih =>
    show max (1 + b.lev) (r.app q).lev = max (max (1 + b.lev) r.lev) q.lev
    rw [ih, Nat.max_assoc]
theorem size_bd {p : Ps} (h : p.ok) (hl : p.lev ≤ 12) (hw : p.words.length ≤ 1000) : p.size < 2 ^ 2000 := by
  have h1 := size_le p h
  have h2 : (2 : Nat) ^ (100 * (p.lev + 1)) ≤ 2 ^ 1300 := Nat.pow_le_pow_right (by decide) (by omega)
  have h3 : p.words.length * 2 ^ (100 * (p.lev + 1)) ≤ 1000 * 2 ^ 1300 := Nat.mul_le_mul hw h2
  have h4 : 1000 * (2 : Nat) ^ 1300 < 2 ^ 2000 := by decide +kernel
  omega
section
variable {P : Program} {w : World} {K : PySem.W.Frag} {mg : Str → Option Value} {base : Heap}
def spPF (K : PySem.W.Frag) (d : Nat) : Sp := fun vs H Q _ => ∃ (a : Addr) (pre rest : List Wd) (p : Ps), vs = [.ref a, .int (pre.length : Int)] ∧ SqT K H a (wstrs (pre ++ p.words ++ rest)) ∧ p.ok ∧ p.lev < d ∧ p.lev ≤ 12 ∧ (pre ++ p.words ++ rest).length ≤ 1000 ∧ (∀ x ∈ rest.head?, ∃ n, x = .cl n ∧ x.ok) ∧
  ∀ r t us H', Same H H' → H' r = some (.tup [.ref t, .int ((pre.length + p.words.length : Nat) : Int)]) → H' t = some (.tup us) → PartsAt (He.ga K "Part") H' us p → Q (.ref r) H'
theorem ok_pf (D : Ds K) (T : Tx K mg) : ∀ d, FnOk P w K mg base CX0 (4 + d) (d_parts_from.adr K) D.fd__parts_from ["words", "start"] (spPF K d) := by
  have GN : FnOk P w K mg base CX0 1 _ _ _ spNumOf := ok_numof D T
  have GP : FnOk P w K mg base CX0 2 _ _ _ (spPart K) := ok_part D T
  intro d
  induction d with
  | zero =>
    refine D.F__parts_from.ok sc_parts_from (fun vs H Q E h => ?_) (fun cdv A outer s H vs Q E hr h => ?_)
    · obtain ⟨a, pre, rest, p, rfl, _⟩ := h
      rfl
    · obtain ⟨a, pre, rest, p, rfl, ha, hp, hd, _⟩ := h
      exact absurd hd (Nat.not_lt_zero _)
  | succ d ih =>
  refine D.F__parts_from.ok sc_parts_from (fun vs H Q E h => ?_) (fun cdv A outer s H vs Q E hr h => ?_)
  · obtain ⟨a, pre, rest, p, rfl, _⟩ := h
    rfl
  · obtain ⟨a, pre, rest, p, rfl, ha, hp, hd, hd12, hlen, hrest, q⟩ := h
    have nd := sc_parts_from.nd
    have hr' : Room (4 + d) _ := hr
    refine ⟨_, PSs.nox (pss_cons (ps_set (i := 2) nd rfl (.inl rfl) (pe_lst pa_nil))
      (pss_cons (ps_set (i := 3) nd rfl (.inl rfl) (pv 1))
      (pss_cons (ps_while PassesOwn.never (PW.pt (pw_and (pt_cmpR op_lt (pv 3) (pe_callB call_len_seq (by rfl) T.z_len PySem.boot_len (pa_cons (pv 0) pa_nil)) (nomark _))
            (pw_and1 (pt_not (pt_val (pe_m1 PySem.F.slot_str_startswith PySem.F.type_str_startswith mt_startswith (pe_ix ix_tup (pv 0) (pv 3) (fun _ _ => rfl)) pe_str))))))
        (pss_cons (ps_if (pt_cmpR op_eq (pe_ix ix_tup (pv 0) (pv 3) (fun _ _ => rfl)) pe_str (nomark _))
            (pss_cons (ps_asg (pe_call ih (hr'.mono (by omega)) (by rfl) T.g__parts_from D.F__parts_from.kp (b__parts_from D) .nil pass0 (pa_cons (pv 0) (pa_cons (pe_op op_add (pv 3) pe_int) pa_nil))) (pg_tup (by rfl) (pgs_cons (pg_name (i := 4) nd rfl (.inl rfl)) (pgs_cons (pg_name (i := 3) nd rfl (.inl rfl)) pgs_nil))))
              (pss_one (ps_expr (pe_bm PySem.F.plainAttrs_list PySem.F.slot_list_append PySem.F.type_list_append mt_append (pv 2) (pa_cons (pe_make T.k_Part GP (hr'.mono (by omega)) (by rfl) T.g_Part (b_Part_init D) .nil pass0 (pa_cons pe_str (pa_cons (pe_call GN (hr'.mono (by omega)) (by rfl) T.g_number_of D.F_number_of.kp (b_number_of D) .nil pass0 (pa_cons (pe_ix ix_tup (pv 0) (pv 3) (fun _ _ => rfl)) pa_nil)) (pa_cons (pv 4) pa_nil)))) pa_nil)))))
            (pss_one (ps_expr (pe_bm PySem.F.plainAttrs_list PySem.F.slot_list_append PySem.F.type_list_append mt_append (pv 2) (pa_cons (pe_make T.k_Part GP (hr'.mono (by omega)) (by rfl) T.g_Part (b_Part_init D) .nil pass0 (pa_cons (pe_ix ix_str (pe_ix ix_tup (pv 0) (pv 3) (fun _ _ => rfl)) pe_int (fun _ _ => rfl)) (pa_cons (pe_call GN (hr'.mono (by omega)) (by rfl) T.g_number_of D.F_number_of.kp (b_number_of D) .nil pass0 (pa_cons (pe_ix ix_tup (pv 0) (pv 3) (fun _ _ => rfl)) pa_nil)) (pa_cons (pe_tup pa_nil) pa_nil)))) pa_nil)))))
          (pss_one (ps_set (i := 3) nd rfl (.inl rfl) (pe_op op_add (pv 3) pe_int)))))
      (pss_one (ps_ret (pe_tup (pa_cons (pe_callTy call_tuple_of (by rfl) T.z_tuple (by decide +kernel) (pa_cons (pv 2) pa_nil)) (pa_cons (pv 3) pa_nil)))))))), ?_⟩
    refine ⟨by show 0 ≤ sizeLine; decide, fun l hl => ⟨_, rfl, ?_⟩⟩
    have sl := same_new (o := .lst []) hl
    refine ⟨fun m σ H' => ∃ p1 p2 us z4, p = p1.app p2 ∧ p1.ok ∧ p2.ok ∧ m = p2.words.length ∧ Same H H' ∧ H' l = some (.lst us) ∧ PartsAt (He.ga K "Part") H' us p1 ∧ σ = [some (.ref a), some (.int (pre.length : Int)), some (.ref l), some (.int (((pre ++ p1.words).length : Nat) : Int)), z4],
      ⟨_, .nil, p, [], none, rfl, trivial, hp, rfl, sl, upd_same, .nil, by rw [show pre ++ Ps.words .nil = pre from List.append_nil _]; rfl⟩, fun m σ H' h => ?_⟩
    obtain ⟨p1, p2, us, z4, rfl, ok1, ok2, rfl, sm, el, hP, rfl⟩ := h
    have full : pre ++ (p1.app p2).words ++ rest = (pre ++ p1.words) ++ (p2.words ++ rest) := by
      rw [app_words]
      simp only [List.append_assoc]
    rw [full] at ha hlen
    have ha' := Same.sqt sm ha
    have l1000 : (wstrs ((pre ++ p1.words) ++ (p2.words ++ rest))).length = (pre ++ p1.words).length + (p2.words ++ rest).length := by
      unfold wstrs
      rw [List.length_map, List.length_append]
    have exit : ∀ z, p2 = .nil → (tRet (tTup (tCons (tCB (fun xs H Q => ∃ p ys, xs = [.ref p] ∧ ((SqL K H p ys ∧ ∀ l, H l = none → Q (.ref l) (upd H l (.tup ys))) ∨ (SqT K H p ys ∧ Q (.ref p) H))) (tCons (tVar 2) tNil)) (tCons (tVar 3) tNil)))) { nx := fun x H' => Q V.non H', rt := Q } [some (.ref a), some (.int (pre.length : Int)), some (.ref l), some (.int (((pre ++ p1.words).length : Nat) : Int)), z] H' := by
      intro z e
      subst e
      refine ⟨_, rfl, l, us, rfl, .inl ⟨lstL el, fun t ht => ⟨_, rfl, by show 2 ≤ sizeLine; decide, fun r hr2 => ?_⟩⟩⟩
      have st := same_new (o := .tup us) ht
      have sr := same_new (o := .tup [.ref t, .int (((pre ++ p1.words).length : Nat) : Int)]) hr2
      rw [app_nil] at q
      refine q r t us _ (sm.trans (st.trans sr)) ?_ (sr _ _ upd_same) (hP.same (st.trans sr))
      rw [upd_same, List.length_append]
    cases p2 with
    | nil =>
      cases rest with
      | nil =>
        refine ⟨_, rfl, _, rfl, a, _, rfl, .inr ha', _, _, rfl, rfl, false, ?_, iteF (iteF (exit _ rfl))⟩
        rw [l1000]
        exact congrArg V.bl (decide_eq_false (by simp [Ps.words]))
      | cons x rest =>
        obtain ⟨n, rfl, hx⟩ := hrest x rfl
        have g := getAt (A := pre ++ p1.words) (B := Ps.words .nil ++ .cl n :: rest) rfl
        refine ⟨_, rfl, _, rfl, a, _, rfl, .inr ha', _, _, rfl, rfl, true, ?_, iteT ⟨_, rfl, _, rfl, a, _, _, .str (Wd.cl n).str, rfl, rfl, ha', atI_nat g, ⟨_, rfl⟩, _, _, rfl, rfl, true, ?_, iteF (exit _ rfl)⟩⟩
        · rw [l1000]
          exact congrArg V.bl (decide_eq_true (by simp [Ps.words]; omega))
        · exact congrArg V.bl (cl_starts n)
    | lf c n r =>
      have g := getAt (A := pre ++ p1.words) (B := Ps.words (.lf c n r) ++ rest) rfl
      have hyo : (Wd.lt c n).ok := ok2.1
      have hz : (Wd.lt c n).str.length ≤ sizeLine := by
        rw [WM.len_tl]
        exact Nat.le_trans (cps_len hyo) (by decide)
      refine ⟨_, rfl, _, rfl, a, _, rfl, .inr ha', _, _, rfl, rfl, true, ?_, iteT ⟨_, rfl, _, rfl, a, _, _, .str (Wd.lt c n).str, rfl, rfl, ha', atI_nat g, ⟨_, rfl⟩, _, _, rfl, rfl, false, ?_, ?_⟩⟩
      · rw [l1000]
        exact congrArg V.bl (decide_eq_true (by simp [Ps.words]; omega))
      · exact congrArg V.bl (lt_starts hyo.1)
      refine ⟨_, fun σ' H'' h => ⟨r.words.length, by show r.words.length < r.words.length + 1; omega, h⟩, ?_⟩
      refine ⟨_, rfl, _, rfl, a, _, _, .str (Wd.lt c n).str, rfl, rfl, ha', atI_nat g, rfl, false, ?_, iteF ?_⟩
      · exact congrArg V.bl (decide_eq_false fun z => by injection z with z; cases (is_op _ hyo).mp z)
      refine ⟨_, rfl, .inl ⟨rfl, _, lstL el⟩, ?_⟩
      refine ⟨_, rfl, _, rfl, a, _, _, .str (Wd.lt c n).str, rfl, rfl, ha', atI_nat g, (Wd.lt c n).str, _, c, rfl, rfl, hz, ?_, ?_⟩
      · exact atI_nat (j := 0) (lt_head c n)
      refine ⟨_, rfl, _, rfl, a, _, _, .str (Wd.lt c n).str, rfl, rfl, ha', atI_nat g, Wd.lt c n, rfl, hyo, by show 0 ≤ sizeLine; decide, fun e0 he0 x dx nx ndx hne => ?_⟩
      have s0 := same_new (o := .tup []) he0
      have ex : e0 ≠ x := ne_of_none upd_same nx
      have ed : e0 ≠ dx := ne_of_none upd_same ndx
      refine ⟨x, dx, e0, ⟨#[c]⟩, n, [], .nil, rfl, hyo.2.2, upd_same, (upd_ne ex).trans ((upd_ne ed).trans upd_same), .nil, by decide, by decide, fun H3 k3 a3 => ⟨rfl, ?_⟩⟩
      have up : Same H' H3 := fun b o h => k3 b o (ne_of_none (s0 b o h) nx) (by
        rw [upd_ne (ne_of_none (s0 b o h) nx), upd_ne (ne_of_none (s0 b o h) ndx)]
        exact s0 b o h)
      have e3 : H3 e0 = some (.tup []) := k3 e0 _ ex ((upd_ne ex).trans ((upd_ne ed).trans upd_same))
      have hP3 : PartsAt (He.ga K "Part") H3 (us ++ [.ref x]) (p1.app (.lf c n .nil)) := (hP.same up).app (.lf (by
        rw [a3]
        show some (HO.ins _ dx [_, _, _, _, ("size", .int ((1 * n : Nat) : Int)), _]) = some (HO.ins _ dx [_, _, _, _, ("size", .int (n : Int)), _])
        rw [Nat.one_mul]
        rfl) e3 .nil)
      have lus : us.length < 1000 := by
        have h1 := hP.len
        have h2 := sizes_le p1
        simp only [List.length_append, Ps.words, List.length_cons] at hlen
        omega
      refine ⟨l, us, .ref x, rfl, rfl, up _ _ el, Nat.lt_of_lt_of_le lus (by decide), ?_⟩
      have el3 := up _ _ el
      refine ⟨_, rfl, _, _, rfl, rfl, p1.app (.lf c n .nil), r, us ++ [.ref x], z4, by rw [app_assoc]; rfl, app_ok ok1 ⟨ok2.1, trivial⟩, ok2.2, rfl, fun b o h => ?_, upd_same, partsUpd hP3 el3, ?_⟩
      · rw [upd_ne (ne_of_none h hl)]
        exact up _ _ (sm _ _ h)
      · rw [app_words]
        show [_, _, _, some (V.int (((pre ++ p1.words).length : Int) + 1)), z4] = [_, _, _, some (V.int (((pre ++ (p1.words ++ [Wd.lt c n])).length : Nat) : Int)), z4]
        rw [show (((pre ++ (p1.words ++ [Wd.lt c n])).length : Nat) : Int) = (((pre ++ p1.words).length : Nat) : Int) + 1 by simp only [List.length_append, List.length_cons, List.length_nil]; omega]
    | rp b n r =>
      have g := getAt (A := pre ++ p1.words) (B := Ps.words (.rp b n r) ++ rest) rfl
      obtain ⟨hbn, hb, hn, hr2⟩ := ok2
      refine ⟨_, rfl, _, rfl, a, _, rfl, .inr ha', _, _, rfl, rfl, true, ?_, iteT ⟨_, rfl, _, rfl, a, _, _, .str Wd.op.str, rfl, rfl, ha', atI_nat g, ⟨_, rfl⟩, _, _, rfl, rfl, false, ?_, ?_⟩⟩
      · rw [l1000]
        exact congrArg V.bl (decide_eq_true (by simp [Ps.words]; omega))
      · exact congrArg V.bl op_starts
      refine ⟨_, fun σ' H'' h => ⟨r.words.length, ?_, h⟩, ?_⟩
      · simp only [Ps.words, List.length_cons, List.length_append]
        omega
      refine ⟨_, rfl, _, rfl, a, _, _, .str Wd.op.str, rfl, rfl, ha', atI_nat g, rfl, true, ?_, iteT ?_⟩
      · exact congrArg V.bl (decide_eq_true rfl)
      have full2 : (pre ++ p1.words) ++ (Ps.words (.rp b n r) ++ rest) = (pre ++ p1.words ++ [.op]) ++ b.words ++ (.cl n :: (r.words ++ rest)) := by
        simp only [Ps.words, List.append_assoc, List.cons_append, List.nil_append]
      have lv : 1 + b.lev ≤ (p1.app (.rp b n r)).lev := by
        rw [app_lev]
        show 1 + b.lev ≤ max p1.lev (max (1 + b.lev) r.lev)
        omega
      rw [full2] at ha' hlen
      refine ⟨_, rfl, _, rfl, _, _, rfl, rfl, a, pre ++ p1.words ++ [.op], .cl n :: (r.words ++ rest), b, ?_, ha', hb, by omega, by omega, hlen, fun x hx => ⟨n, (Option.some.inj hx).symm, by cases hx; exact hn⟩, fun r1 t1 us1 H1 s1 er et pt => ?_⟩
      · show [V.ref a, V.int (((pre ++ p1.words).length : Int) + 1)] ++ [] = [V.ref a, V.int (((pre ++ p1.words ++ [Wd.op]).length : Nat) : Int)]
        rw [show (((pre ++ p1.words ++ [Wd.op]).length : Nat) : Int) = (((pre ++ p1.words).length : Nat) : Int) + 1 by simp only [List.length_append, List.length_cons, List.length_nil]; omega]
        rfl
      have g2 := getAt (A := (pre ++ p1.words ++ [.op]) ++ b.words) (B := .cl n :: (r.words ++ rest)) rfl
      rw [List.length_append] at g2
      refine ⟨r1, _, rfl, tupT er, rfl, _, _, rfl, _, _, rfl, rfl, ?_⟩
      dsimp only [List.set_cons_zero, List.set_cons_succ]
      have ha1 := Same.sqt s1 ha'
      refine ⟨_, rfl, .inl ⟨rfl, _, lstL (s1 _ _ el)⟩, ?_⟩
      refine ⟨_, rfl, _, rfl, a, _, _, .str (Wd.cl n).str, rfl, rfl, ha1, atI_nat g2, Wd.cl n, rfl, hn, _, rfl, fun x dx nx ndx hne => ?_⟩
      have tx : t1 ≠ x := ne_of_none et nx
      have td : t1 ≠ dx := ne_of_none et ndx
      have up1 : ∀ o1 o2, Same H1 (upd (upd H1 dx o1) x o2) := fun o1 o2 b o h => by
        rw [upd_ne (ne_of_none h nx), upd_ne (ne_of_none h ndx)]
        exact h
      have bw : b.words.length ≤ 1000 := by
        simp only [List.length_append] at hlen
        omega
      have bs := sizes_le b
      refine ⟨x, dx, t1, "", n, us1, b, rfl, hn.2, upd_same, up1 _ _ _ _ et, pt.same (up1 _ _), by omega, size_bd hb (by omega) bw, fun H3 k3 a3 => ⟨rfl, ?_⟩⟩
      have up : Same H' H3 := fun b' o h => k3 b' o (ne_of_none (s1 _ _ h) nx) (up1 _ _ _ _ (s1 _ _ h))
      have up2 : Same H1 H3 := fun b' o h => k3 b' o (ne_of_none h nx) (up1 _ _ _ _ h)
      have hu : unitOf b = b.size := by
        cases b with
        | nil => exact absurd rfl hbn
        | lf c m r => rfl
        | rp b m r => rfl
      have hv : levOf b = 1 + b.lev := by
        cases b with
        | nil => exact absurd rfl hbn
        | lf c m r => rfl
        | rp b m r => rfl
      rw [hu, hv] at a3
      have hP3 : PartsAt (He.ga K "Part") H3 (us ++ [.ref x]) (p1.app (.rp b n .nil)) := (hP.same up).app (.rp a3 (up2 _ _ et) (pt.same up2) .nil)
      have lus : us.length < 1000 := by
        have h1 := hP.len
        have h2 := sizes_le p1
        simp only [List.length_append, List.length_cons, List.length_nil] at hlen
        omega
      have el3 := up _ _ el
      refine ⟨l, us, .ref x, rfl, rfl, el3, Nat.lt_of_lt_of_le lus (by decide), ?_⟩
      refine ⟨_, rfl, _, _, rfl, rfl, p1.app (.rp b n .nil), r, us ++ [.ref x], some (.ref t1), by rw [app_assoc]; rfl, app_ok ok1 ⟨hbn, hb, hn, trivial⟩, hr2, rfl, fun b' o h => ?_, upd_same, partsUpd hP3 el3, ?_⟩
      · rw [upd_ne (ne_of_none h hl)]
        exact up _ _ (sm _ _ h)
      · rw [app_words]
        show [_, _, _, some (V.int ((((pre ++ p1.words ++ [Wd.op]).length + b.words.length : Nat) : Int) + 1)), some (V.ref t1)] = [_, _, _, some (V.int (((pre ++ (p1.words ++ (Wd.op :: (b.words ++ [Wd.cl n])))).length : Nat) : Int)), some (V.ref t1)]
        rw [show (((pre ++ (p1.words ++ (Wd.op :: (b.words ++ [Wd.cl n])))).length : Nat) : Int) = ((((pre ++ p1.words ++ [Wd.op]).length + b.words.length : Nat) : Int) + 1) by simp only [List.length_append, List.length_cons, List.length_nil]; omega]
end
end K09P

set_option linter.all false
set_option maxRecDepth 100000
set_option maxHeartbeats 4000000
/-! the words of a tree are those of a program text -/
namespace WM
open PySem PySem.Spec PyProof.Rows L2 TL
theorem dep_left {A B : List Wd} {i : Nat} (h : i ≤ A.length) : dep (A ++ B) i = dep A i := by
  unfold dep
  rw [List.take_append_of_le_length h]
theorem dep_right (A B : List Wd) (j : Nat) : dep (A ++ B) (A.length + j) = dep A A.length + dep B j := by
  unfold dep
  rw [List.take_length_add_append, List.map_append, List.sum_append, List.take_length]
theorem dep_cons (x : Wd) (B : List Wd) (j : Nat) : dep (x :: B) (j + 1) = step x + dep B j := by
  have := dep_right [x] B j
  rw [show [x].length + j = j + 1 by simp; omega] at this
  refine this.trans ?_
  show ([x].map step).sum + _ = _
  simp
theorem dep_zero (A : List Wd) : dep A 0 = 0 := rfl
theorem dep_all {A : List Wd} {i : Nat} (h : A.length ≤ i) : dep A i = dep A A.length := by
  unfold dep
  rw [List.take_of_length_le h, List.take_length]
theorem words_ne {p : Ps} (h : p ≠ .nil) : ∃ A x, p.words = A ++ [x] ∧ x ≠ .op := by
  induction p with
  | nil => exact absurd rfl h
  | lf c n r ih =>
    cases r with
    | nil => exact ⟨[], .lt c n, rfl, nofun⟩
    | lf c' n' r' =>
      obtain ⟨A, x, e, hx⟩ := ih nofun
      exact ⟨.lt c n :: A, x, by rw [show (Ps.lf c n (.lf c' n' r')).words = .lt c n :: (Ps.lf c' n' r').words from rfl, e]; rfl, hx⟩
    | rp b n' r' =>
      obtain ⟨A, x, e, hx⟩ := ih nofun
      exact ⟨.lt c n :: A, x, by rw [show (Ps.lf c n (.rp b n' r')).words = .lt c n :: (Ps.rp b n' r').words from rfl, e]; rfl, hx⟩
  | rp b n r _ ih =>
    cases r with
    | nil => exact ⟨.op :: b.words, .cl n, rfl, nofun⟩
    | lf c' n' r' =>
      obtain ⟨A, x, e, hx⟩ := ih nofun
      exact ⟨.op :: (b.words ++ .cl n :: A), x, by rw [show (Ps.rp b n (.lf c' n' r')).words = .op :: (b.words ++ .cl n :: (Ps.lf c' n' r').words) from rfl, e]; simp, hx⟩
    | rp b' n' r' =>
      obtain ⟨A, x, e, hx⟩ := ih nofun
      exact ⟨.op :: (b.words ++ .cl n :: A), x, by rw [show (Ps.rp b n (.rp b' n' r')).words = .op :: (b.words ++ .cl n :: (Ps.rp b' n' r').words) from rfl, e]; simp, hx⟩
/-- levels along the words -/
theorem dep_tree (p : Ps) : (∀ i, 0 ≤ dep p.words i ∧ dep p.words i ≤ p.lev) ∧ dep p.words p.words.length = 0 := by
  induction p with
  | nil => exact ⟨fun i => by unfold dep; simp [Ps.words, Ps.lev], rfl⟩
  | lf c n r ih =>
    refine ⟨fun i => ?_, ?_⟩
    · cases i with
      | zero => exact ⟨Int.le_refl _, Int.natCast_nonneg _⟩
      | succ i =>
        show 0 ≤ dep (.lt c n :: r.words) (i + 1) ∧ dep (.lt c n :: r.words) (i + 1) ≤ (r.lev : Int)
        rw [dep_cons]
        have := ih.1 i
        have e : step (.lt c n) = 0 := rfl
        omega
    · show dep (.lt c n :: r.words) (r.words.length + 1) = 0
      rw [dep_cons, ih.2]
      rfl
  | rp b n r ihb ihr =>
    have tail : ∀ j, 0 ≤ 1 + dep (b.words ++ .cl n :: r.words) j ∧ 1 + dep (b.words ++ .cl n :: r.words) j ≤ ((max (1 + b.lev) r.lev : Nat) : Int) := fun j => by
      by_cases h : j ≤ b.words.length
      · rw [dep_left h]
        have := ihb.1 j
        omega
      · obtain ⟨k, rfl⟩ : ∃ k, j = b.words.length + (k + 1) := ⟨j - b.words.length - 1, by omega⟩
        rw [dep_right, ihb.2, dep_cons]
        have := ihr.1 k
        have e : step (.cl n) = -1 := rfl
        omega
    refine ⟨fun i => ?_, ?_⟩
    · cases i with
      | zero => exact ⟨Int.le_refl _, Int.natCast_nonneg _⟩
      | succ i =>
        show 0 ≤ dep (.op :: (b.words ++ .cl n :: r.words)) (i + 1) ∧ dep (.op :: (b.words ++ .cl n :: r.words)) (i + 1) ≤ _
        rw [dep_cons]
        exact tail i
    · show dep (.op :: (b.words ++ .cl n :: r.words)) ((b.words ++ .cl n :: r.words).length + 1) = 0
      rw [dep_cons, List.length_append, List.length_cons, dep_right, dep_cons, ihb.2, ihr.2]
      rfl
/-- where a bracket closes -/
theorem cl_tree (p : Ps) (ok : p.ok) : ∀ (i n : Nat), p.words[i]? = some (.cl n) → 0 < dep p.words i ∧ ∀ j, j + 1 = i → p.words[j]? ≠ some .op := by
  induction p with
  | nil => intro i n h; cases h
  | lf c m r ih =>
    intro i n h
    cases i with
    | zero => cases h
    | succ i =>
      have h1 := ih ok.2 i n h
      refine ⟨?_, fun j hj => ?_⟩
      · show 0 < dep (.lt c m :: r.words) (i + 1)
        rw [dep_cons]
        have e : step (.lt c m) = 0 := rfl
        omega
      · cases j with
        | zero => intro z; cases z
        | succ j => exact h1.2 j (by omega)
  | rp b m r ihb ihr =>
    obtain ⟨hbn, hb, _, hr⟩ := ok
    intro i n h
    have ebr := (dep_tree b).2
    cases i with
    | zero => cases h
    | succ i =>
      have h : (b.words ++ .cl m :: r.words)[i]? = some (.cl n) := h
      have e1 : dep (Ps.rp b m r).words (i + 1) = 1 + dep (b.words ++ .cl m :: r.words) i := dep_cons _ _ _
      rw [e1]
      by_cases hi : i < b.words.length
      · rw [List.getElem?_append_left hi] at h
        have h1 := ihb hb i n h
        refine ⟨by rw [dep_left (Nat.le_of_lt hi)]; omega, fun j hj => ?_⟩
        have : j = i := by omega
        subst this
        cases j with
        | zero =>
          exact absurd h1.1 (by rw [dep_zero]; decide)
        | succ j =>
          show (b.words ++ .cl m :: r.words)[j]? ≠ _
          rw [List.getElem?_append_left (by omega)]
          exact h1.2 j rfl
      · rw [List.getElem?_append_right (by omega)] at h
        obtain ⟨k, rfl⟩ : ∃ k, i = b.words.length + k := ⟨i - b.words.length, by omega⟩
        rw [Nat.add_sub_cancel_left] at h
        rw [dep_right, ebr]
        cases k with
        | zero =>
          refine ⟨by rw [dep_zero]; decide, fun j hj => ?_⟩
          have : j = b.words.length := by omega
          subst this
          obtain ⟨A, x, e, hx⟩ := words_ne hbn
          have : (b.words).length = A.length + 1 := by rw [e]; simp
          rw [this]
          show (b.words ++ .cl m :: r.words)[A.length]? ≠ _
          rw [List.getElem?_append_left (by omega), e, List.getElem?_append_right (Nat.le_refl _), Nat.sub_self]
          intro z
          exact hx (Option.some.inj z)
        | succ k =>
          have h1 := ihr hr k n h
          rw [dep_cons]
          have es : step (.cl m) = -1 := rfl
          refine ⟨by omega, fun j hj => ?_⟩
          have : j = b.words.length + (k + 1) := by omega
          subst this
          show (b.words ++ .cl m :: r.words)[b.words.length + k]? ≠ _
          rw [List.getElem?_append_right (by omega), Nat.add_sub_cancel_left]
          cases k with
          | zero => intro z; cases z
          | succ k => exact h1.2 k rfl
theorem words_ok (p : Ps) (ok : p.ok) : ∀ x ∈ p.words, x.ok := by
  induction p with
  | nil => intro x h; cases h
  | lf c n r ih =>
    intro x h
    rcases List.mem_cons.mp h with rfl | h
    · exact ok.1
    · exact ih ok.2 x h
  | rp b n r ihb ihr =>
    intro x h
    rcases List.mem_cons.mp h with rfl | h
    · exact trivial
    · rcases List.mem_append.mp h with h | h
      · exact ihb ok.2.1 x h
      · rcases List.mem_cons.mp h with rfl | h
        · exact ok.2.2.1
        · exact ihr ok.2.2.2 x h
theorem step_ge (x : Wd) : -1 ≤ step x := by
  cases x with
  | op => decide
  | cl n =>
    show (-1 : Int) ≤ -1
    decide
  | lt c n =>
    show (-1 : Int) ≤ 0
    decide
theorem sum_ge : ∀ l : List Wd, -(l.length : Int) ≤ (l.map step).sum
  | [] => by simp
  | x :: l => by
    have h1 := sum_ge l
    have h2 := step_ge x
    simp only [List.map_cons, List.sum_cons, List.length_cons]
    omega
theorem okW_of {p : Ps} (ok : p.ok) (hl : p.words.length ≤ 1000) (hd : p.lev ≤ 12) : OkW p.words where
  ok := words_ok p ok
  most := hl
  cl := cl_tree p ok
  up := fun i _ => by
    have := (dep_tree p).1 i
    omega
  shut := (dep_tree p).2
  need := fun i x hx => by
    have il : i < p.words.length := (List.getElem?_eq_some_iff.mp hx).1
    have tot := (dep_tree p).2
    have cut : dep p.words (i + 1) + ((p.words.drop (i + 1)).map step).sum = 0 := by
      rw [← tot]
      unfold dep
      rw [← List.sum_append, ← List.map_append, List.take_append_drop, List.take_length]
    have ge := sum_ge (p.words.drop (i + 1))
    have ln : (p.words.drop (i + 1)).length = p.words.length - (i + 1) := List.length_drop ..
    by_cases ho : isOp x = true
    · have xo : x = .op := by
        cases x with
        | op => rfl
        | cl n => cases ho
        | lt c n => cases ho
      subst xo
      have pos : 0 < dep p.words (i + 1) := by
        have h1 := dep_succ hx
        have h2 := ((dep_tree p).1 i).1
        have h3 : b2 (isOp .op) = 1 := rfl
        have h4 : b2 (isCl .op) = 0 := rfl
        omega
      cases hr : p.words.drop (i + 1) with
      | nil =>
        rw [hr] at cut
        simp at cut
        omega
      | cons y t =>
        have hy : p.words[i + 1]? = some y := by
          have := List.getElem?_drop (xs := p.words) (i := i + 1) (j := 0)
          rw [hr] at this
          simpa using this.symm
        have hs : 0 ≤ step y := by
          cases y with
          | op => decide
          | cl n => exact absurd hx ((cl_tree p ok (i + 1) n hy).2 i rfl)
          | lt c n =>
            show (0 : Int) ≤ 0
            decide
        rw [hr] at cut ln
        simp only [List.map_cons, List.sum_cons, List.length_cons] at cut ln
        have ge2 := sum_ge t
        have : b2 (isOp Wd.op) = 1 := rfl
        omega
    · have : b2 (isOp x) = 0 := by unfold b2; rw [if_neg ho]
      omega
end WM

set_option Elab.async false
set_option linter.all false
set_option maxRecDepth 100000
set_option maxHeartbeats 4000000
namespace K09P
open PySem PySem.Spec PyProof.Rows L2 RT WM K09 TL
/-- a Program at a -/
def IsP (K : PySem.W.Frag) (H : Hp) (a : Addr) (p : Ps) : Prop := p.ok ∧ p.lev ≤ 12 ∧ p.words.length ≤ 1000 ∧ ∃ d w t us, H a = some (.ins (He.ga K "Program") d [("_text", .str (textOf p.words)), ("_words", .ref w), ("_parts", .ref t), ("_length", .int (p.size : Int)), ("_depth", .int (p.lev : Int))]) ∧
  H w = some (.tup (wstrs p.words)) ∧ H t = some (.tup us) ∧ PartsAt (He.ga K "Part") H us p
theorem IsP.same {K : PySem.W.Frag} {H H' : Hp} {a : Addr} {p : Ps} (h : IsP K H a p) (s : Same H H') : IsP K H' a p := by
  obtain ⟨h1, h2, h3, d, w, t, us, e1, e2, e3, e4⟩ := h
  exact ⟨h1, h2, h3, d, w, t, us, s _ _ e1, s _ _ e2, s _ _ e3, e4.same s⟩
theorem partsUpdA {C C' a d : Addr} {H : Hp} {us : List V} {p : Ps} {o : HO} {v : V} {fs : List (Str × V)} (h : PartsAt C H us p) (ea : H a = some (.ins C' d (("_text", v) :: fs))) : PartsAt C (upd H a o) us p := by
  have n1 : ∀ {b d' : Addr} {u : V} {gs : List (Str × V)}, H b = some (.ins C d' (("letter", u) :: gs)) → b ≠ a := fun h z => by
    rw [z, ea] at h
    injection h with h
    injection h with _ _ h
    injection h with h _
    injection h with h _
    exact absurd h (by decide)
  have n2 : ∀ {b : Addr} {us : List V}, H b = some (.tup us) → b ≠ a := fun h z => by
    rw [z, ea] at h
    cases h
  induction h with
  | nil => exact .nil
  | lf h1 h2 _ ih => exact .lf ((upd_ne (n1 h1)).trans h1) ((upd_ne (n2 h2)).trans h2) ih
  | rp h1 h2 _ _ ih1 ih2 => exact .rp ((upd_ne (n1 h1)).trans h1) ((upd_ne (n2 h2)).trans h2) ih1 ih2
section
variable {P : Program} {w : World} {K : PySem.W.Frag} {mg : Str → Option Value} {base : Heap}
def spParts (K : PySem.W.Frag) : Sp := fun vs H Q _ => ∃ (a : Addr) (p : Ps), vs = [.ref a] ∧ SqT K H a (wstrs p.words) ∧ p.ok ∧ p.lev ≤ 12 ∧ p.words.length ≤ 1000 ∧ ∀ t us H', Same H H' → H' t = some (.tup us) → PartsAt (He.ga K "Part") H' us p → Q (.ref t) H'
theorem ok_parts (D : Ds K) (T : Tx K mg) : FnOk P w K mg base CX0 18 (dparts_of_words.adr K) D.fd_parts_of_words ["words"] (spParts K) := by
  have G : FnOk P w K mg base CX0 (4 + 13) _ _ _ (spPF K 13) := ok_pf D T 13
  refine D.F_parts_of_words.ok scparts_of_words (fun vs H Q E h => ?_) (fun cdv A outer s H vs Q E hr h => ?_)
  · obtain ⟨a, p, rfl, _⟩ := h
    rfl
  · obtain ⟨a, p, rfl, ha, hp, hl, hw, q⟩ := h
    have nd := scparts_of_words.nd
    refine ⟨_, PSs.nox (pss_cons (ps_asg (pe_call G hr (by rfl) T.g__parts_from D.F__parts_from.kp (b__parts_from D) .nil pass0 (pa_cons (pv 0) (pa_cons pe_int pa_nil))) (pg_tup (by rfl) (pgs_cons (pg_name (i := 1) nd rfl (.inl rfl)) (pgs_cons (pg_name (i := 2) nd rfl (.inl rfl)) pgs_nil))))
      (pss_one (ps_ret (pv 1)))), ?_⟩
    refine ⟨_, rfl, a, [], [], p, rfl, by rw [List.nil_append, List.append_nil]; exact ha, hp, by omega, hl, by rw [List.nil_append, List.append_nil]; exact hw, nofun, fun r t us H1 s1 er et pt => ?_⟩
    exact ⟨r, _, rfl, tupT er, rfl, _, _, rfl, _, _, rfl, rfl, _, rfl, q t us H1 s1 et pt⟩
def spCheckT : Sp := fun vs H Q _ => ∃ p : Ps, vs = [.str (textOf p.words)] ∧ p.ok ∧ p.lev ≤ 12 ∧ p.words.length ≤ 1000 ∧ ∀ H', Same H H' → Q .non H'
theorem ok_checkT (D : Ds K) (T : Tx K mg) : FnOk P w K mg base CX0 5 (dcheck_text.adr K) D.fd_check_text ["text"] spCheckT := by
  have GW : FnOk P w K mg base CX0 4 _ _ _ (spWrong K) := ok_wrong D T
  have GT : FnOk P w K mg base CX0 1 _ _ _ spWords := ok_words D T
  refine D.F_check_text.ok sccheck_text (fun vs H Q E h => ?_) (fun cdv A outer s H vs Q E hr h => ?_)
  · obtain ⟨p, rfl, _⟩ := h
    rfl
  · obtain ⟨p, rfl, hp, hl, hw, q⟩ := h
    have nd := sccheck_text.nd
    refine ⟨_, PSs.nox (pss_cons (ps_if (pt_not (pt_val (pe_callB call_isiY (by rfl) T.z_isinstance (by decide +kernel) (pa_cons (pv 0) (pa_cons (pe_bltn (v := .ty "str") (by rfl) T.z_str (by decide +kernel) rfl) pa_nil))))) (pss_one ps_never) pss_nil)
      (pss_cons (ps_set (i := 1) nd rfl (.inl rfl) (pe_call GW hr (by rfl) T.g_wrong_word D.F_wrong_word.kp (b_wrong_word D) .nil pass0 (pa_cons (pe_call GT (hr.mono (by decide)) (by rfl) T.g_words_of D.F_words_of.kp (b_words_of D) .nil pass0 (pa_cons (pv 0) pa_nil)) (pa_cons (pe_tup pa_nil) pa_nil))))
      (pss_one (ps_if (pt_cmpR op_notN (pv 1) pe_non (nomark _)) (pss_one ps_never) pss_nil)))), ?_⟩
    have ow := okW_of hp hw hl
    refine ⟨_, rfl, _, .ty "str", _, _, true, rfl, .ty "str", .base (.base (.str _)), kit_ss, true, rfl, iteF ?_⟩
    refine ⟨_, rfl, p.words, rfl, ow, fun r H1 s1 n1 e1 => ⟨by show 0 ≤ sizeLine; decide, fun e he => ?_⟩⟩
    have se := same_new (o := .tup []) he
    refine ⟨r, e, p.words, rfl, lstL (se _ _ e1), tupT upd_same, ow, fun H2 s2 => ?_⟩
    exact ⟨_, rfl, rfl, false, rfl, iteF (q H2 (s1.trans (se.trans s2)))⟩
def spProg (K : PySem.W.Frag) : Sp := fun vs H Q _ => ∃ (a d : Addr) (p : Ps), vs = [.ref a, .str (textOf p.words)] ∧ H a = some (.ins (He.ga K "Program") d []) ∧ p.ok ∧ p.lev ≤ 12 ∧ p.words.length ≤ 1000 ∧
  ∀ H', (∀ b o, b ≠ a → H b = some o → H' b = some o) → IsP K H' a p → Q .non H'
theorem ok_prog (D : Ds K) (T : Tx K mg) : FnOk P w K mg base CX0 19 (dProgram_init.adr K) D.fd_Program_init ["self", "text"] (spProg K) := by
  have GC : FnOk P w K mg base CX0 5 _ _ _ spCheckT := ok_checkT D T
  have GT : FnOk P w K mg base CX0 1 _ _ _ spWords := ok_words D T
  have GP : FnOk P w K mg base CX0 18 _ _ _ (spParts K) := ok_parts D T
  have GS : FnOk P w K mg base CX0 1 _ _ _ (spSize K) := ok_size D T
  have GL : FnOk P w K mg base CX0 1 _ _ _ (spLevs K) := ok_levs D T
  refine D.F_Program_init.ok scProgram_init (fun vs H Q E h => ?_) (fun cdv A outer s H vs Q E hr h => ?_)
  · obtain ⟨a, d, p, rfl, _⟩ := h
    rfl
  · obtain ⟨a, d, p, rfl, ea, hp, hl, hw, q⟩ := h
    refine ⟨_, PSs.nox (pss_cons (ps_expr (pe_call GC (hr.mono (by decide)) (by rfl) T.g_check_text D.F_check_text.kp (b_check_text D) .nil pass0 (pa_cons (pv 1) pa_nil)))
      (pss_cons (ps_fld (pv 0) (pv 1) rfl)
      (pss_cons (ps_fld (pv 0) (pe_callTy call_tuple_of (by rfl) T.z_tuple (by decide +kernel) (pa_cons (pe_call GT (hr.mono (by decide)) (by rfl) T.g_words_of D.F_words_of.kp (b_words_of D) .nil pass0 (pa_cons (pv 1) pa_nil)) pa_nil)) rfl)
      (pss_cons (ps_fld (pv 0) (pe_call GP hr (by rfl) T.g_parts_of_words D.F_parts_of_words.kp (b_parts_of_words D) .nil pass0 (pa_cons (pe_fld (pv 0) rfl) pa_nil)) rfl)
      (pss_cons (ps_fld (pv 0) (pe_call GS (hr.mono (by decide)) (by rfl) T.g_size_of D.F_size_of.kp (b_size_of D) .nil pass0 (pa_cons (pe_fld (pv 0) rfl) pa_nil)) rfl)
      (pss_one (ps_fld (pv 0) (pe_call GL (hr.mono (by decide)) (by rfl) T.g_levels_of D.F_levels_of.kp (b_levels_of D) .nil pass0 (pa_cons (pe_fld (pv 0) rfl) pa_nil)) rfl))))))), ?_⟩
    have ow := okW_of hp hw hl
    have zl : p.sizes.length ≤ 1000 := Nat.le_trans (sizes_le p) hw
    refine ⟨_, rfl, p, rfl, hp, hl, hw, fun H1 s1 => ?_⟩
    refine ⟨_, rfl, _, rfl, a, _, d, _, rfl, s1 _ _ ea, T.c_Program, T.n_Program__text, by show 0 < 1000; decide, ?_⟩
    refine ⟨_, rfl, p.words, rfl, ow, fun r H2 s2 n2 e2 => ⟨r, _, rfl, .inl ⟨lstL e2, fun wd nw => ?_⟩⟩⟩
    have sw := same_new (o := .tup (wstrs p.words)) nw
    have a2 := sw _ _ (s2 _ _ upd_same)
    refine ⟨_, rfl, a, _, d, _, rfl, a2, T.c_Program, T.n_Program__words, by show 1 < 1000; decide, ?_⟩
    have wa : wd ≠ a := fun z => by
      have h := s2 _ _ (upd_same (H := H1) (a := a))
      rw [← z, nw] at h
      cases h
    refine ⟨_, rfl, a, _, d, _, _, rfl, upd_same, T.c_Program, T.n_Program__words, rfl, wd, p, rfl, tupT ((upd_ne wa).trans upd_same), hp, hl, hw, fun t us H4 s4 et pt => ?_⟩
    have a4 := s4 _ _ upd_same
    have w4 := s4 _ _ ((upd_ne wa).trans upd_same)
    refine ⟨_, rfl, a, _, d, _, rfl, a4, T.c_Program, T.n_Program__parts, by show 2 < 1000; decide, ?_⟩
    have ta : t ≠ a := fun z => by
      rw [z, a4] at et
      cases et
    have p5 := partsUpdA (o := .ins (He.ga K "Program") d [("_text", .str (textOf p.words)), ("_words", .ref wd), ("_parts", .ref t)]) pt a4
    refine ⟨_, rfl, a, _, d, _, _, rfl, upd_same, T.c_Program, T.n_Program__parts, rfl, t, us, p, rfl, tupT ((upd_ne ta).trans et), p5, zl, fun H6 s6 => ?_⟩
    have a6 := s6 _ _ upd_same
    have t6 := s6 _ _ ((upd_ne ta).trans et)
    have w6 := s6 _ _ ((upd_ne wa).trans w4)
    have p6 := p5.same s6
    refine ⟨_, rfl, a, _, d, _, rfl, a6, T.c_Program, T.n_Program__length, by show 3 < 1000; decide, ?_⟩
    have p7 := partsUpdA (o := .ins (He.ga K "Program") d [("_text", .str (textOf p.words)), ("_words", .ref wd), ("_parts", .ref t), ("_length", .int (p.size : Int))]) p6 a6
    refine ⟨_, rfl, a, _, d, _, _, rfl, upd_same, T.c_Program, T.n_Program__parts, rfl, t, us, p, rfl, tupT ((upd_ne ta).trans t6), p7, zl, fun H8 s8 => ?_⟩
    have a8 := s8 _ _ upd_same
    have t8 := s8 _ _ ((upd_ne ta).trans t6)
    have w8 := s8 _ _ ((upd_ne wa).trans w6)
    have p8 := p7.same s8
    refine ⟨_, rfl, a, _, d, _, rfl, a8, T.c_Program, T.n_Program__depth, by show 4 < 1000; decide, ?_⟩
    refine q _ (fun b o hb h => ?_) ⟨hp, hl, hw, d, wd, t, us, upd_same, (upd_ne wa).trans w8, (upd_ne ta).trans t8, partsUpdA p8 a8⟩
    have h1 := s2 _ _ ((upd_ne (o := .ins (He.ga K "Program") d [("_text", .str (textOf p.words))]) hb).trans (s1 _ _ h))
    have h2 := s4 _ _ ((upd_ne hb).trans (sw _ _ h1))
    have h3 := s6 _ _ ((upd_ne hb).trans h2)
    have h4 := s8 _ _ ((upd_ne hb).trans h3)
    exact (upd_ne hb).trans h4
end
end K09P

set_option Elab.async false
set_option linter.all false
set_option maxRecDepth 100000
set_option maxHeartbeats 4000000
set_option exponentiation.threshold 3000
namespace K09P
open PySem PySem.Spec PyProof.Rows L2 RT WM K09 TL
def Keep (t : Addr) (H H' : Hp) : Prop := ∀ b o, b ≠ t → H b = some o → H' b = some o
theorem Keep.refl (t : Addr) (H : Hp) : Keep t H H := fun _ _ _ h => h
theorem Keep.trans {t : Addr} {H H1 H2 : Hp} (a : Keep t H H1) (b : Keep t H1 H2) : Keep t H H2 := fun c o n h => b c o n (a c o n h)
theorem Same.keep {t : Addr} {H H' : Hp} (e : Same H H') : Keep t H H' := fun b o _ h => e b o h
theorem keep_upd {t : Addr} {H : Hp} {o : HO} : Keep t H (upd H t o) := fun b u n h => by
  rw [upd_ne n]
  exact h
theorem p30 : (10 : Int) ^ ((30 : Int).toNat) = 1000000000000000000000000000000 := by decide
theorem p18 : (10 : Int) ^ ((18 : Int).toNat) = 1000000000000000000 := by decide
theorem pw_ok {j : Int} (h0 : 0 ≤ j) (h : j ≤ 1000000) : CPow 10 j := ⟨h0, h, by decide⟩
theorem some_at {u : Int} (h0 : 0 ≤ u) (h : u < 5) : ∃ m : Nat, atI [V.int 2, V.int 3, V.int 9, V.int 60, V.int (10 ^ ((30 : Int).toNat) - 1)] u = some (.int (m : Int)) ∧ 2 ≤ m ∧ m ≤ 1000000000000000000000000000000 - 1 := by
  rw [p30]
  have e : u = 0 ∨ u = 1 ∨ u = 2 ∨ u = 3 ∨ u = 4 := by omega
  rcases e with rfl | rfl | rfl | rfl | rfl
  · exact ⟨2, atI_nat (j := 0) rfl, by decide, by decide⟩
  · exact ⟨3, atI_nat (j := 1) rfl, by decide, by decide⟩
  · exact ⟨9, atI_nat (j := 2) rfl, by decide, by decide⟩
  · exact ⟨60, atI_nat (j := 3) rfl, by decide, by decide⟩
  · exact ⟨1000000000000000000000000000000 - 1, atI_nat (j := 4) rfl, by decide, by decide⟩
/-- a bag of the law after c draws -/
def Bg (H : Hp) (b : Addr) (c : Nat) : Prop := ∃ A B : Int, H b = some (.lst [.int A, .int B, .int c]) ∧ 0 ≤ A
theorem Bg.same {H H' : Hp} {b : Addr} {c : Nat} (h : Bg H b c) (e : Same H H') : Bg H' b c := by
  obtain ⟨A, B, e1, h1⟩ := h
  exact ⟨A, B, e _ _ e1, h1⟩
section
variable {P : Program} {w : World} {K : PySem.W.Frag} {mg : Str → Option Value} {base : Heap}
def spBag : Sp := fun vs H Q _ => ∃ z : Int, vs = [.int z] ∧ ∀ t H', Same H H' → H t = none → Bg H' t 0 → Q (.ref t) H'
theorem ok_bag (D : Ds K) (T : Tx K mg) : FnOk P w K mg base CX0 1 (d_law_bag.adr K) D.fd__law_bag ["cell"] spBag := by
  refine D.F__law_bag.ok sc_law_bag (fun vs H Q E h => ?_) (fun cdv A outer s H vs Q E hr h => ?_)
  · obtain ⟨z, rfl, _⟩ := h
    rfl
  · obtain ⟨z, rfl, q⟩ := h
    refine ⟨_, PSs.nox (pss_one (ps_ret (pe_lst (pa_cons (pe_callB (call_max2 rfl) (by rfl) T.z_max (by decide +kernel) (pa_cons pe_int (pa_cons (pe_op op_sub (pv 0) (pe_op op_pow pe_int pe_int)) pa_nil))) (pa_cons (pv 0) (pa_cons pe_int pa_nil)))))), ?_⟩
    refine ⟨_, rfl, _, _, rfl, rfl, pw_ok (by decide) (by decide), _, _, rfl, rfl, _, _, rfl, _, rfl, by show 3 ≤ sizeLine; decide, fun t ht => ?_⟩
    refine q t _ (same_new ht) ht ⟨_, z, upd_same, ?_⟩
    split <;> omega
def spPick : Sp := fun vs H Q _ => ∃ (b : Addr) (m : Int) (c : Nat), vs = [.ref b, .int m] ∧ Bg H b c ∧ c ≤ 10000000000000000000000 ∧ 1 ≤ m ∧ m.natAbs < 2 ^ 1500 ∧
  ∀ (u : Int) H', Keep b H H' → Bg H' b (c + 1) → 0 ≤ u → u < m → Q (.int u) H'
theorem ok_pick (D : Ds K) (T : Tx K mg) : FnOk P w K mg base CX0 1 (d_law_pick.adr K) D.fd__law_pick ["bag", "many"] spPick := by
  refine D.F__law_pick.ok sc_law_pick (fun vs H Q E h => ?_) (fun cdv A outer s H vs Q E hr h => ?_)
  · obtain ⟨b, m, c, rfl, _⟩ := h
    rfl
  · obtain ⟨b, m, c, rfl, ⟨A1, B, eb, hA⟩, hc, hm, hm2, q⟩ := h
    have nd := sc_law_pick.nd
    refine ⟨_, PSs.nox (pss_cons (ps_asg (pe_op op_add (pe_ix ix_list (pv 0) pe_int (fun _ _ => rfl)) pe_int) (pg_sub (pv 0) pe_int set_list))
        (pss_cons (ps_if (pt_cmpR op_gt (pe_ix ix_list (pv 0) pe_int (fun _ _ => rfl)) pe_int (nomark _)) (pss_cons (ps_set (i := 2) nd rfl (.inl rfl) (pe_op op_mod (pe_ix ix_list (pv 0) pe_int (fun _ _ => rfl)) (pv 1)))
        (pss_cons (ps_asg (pe_op op_fdivW (pe_ix ix_list (pv 0) pe_int (fun _ _ => rfl)) (pv 1)) (pg_sub (pv 0) pe_int set_list))
        (pss_one (ps_ret (pv 2))))) pss_nil)
        (pss_cons (ps_set (i := 3) nd rfl (.inl rfl) (pe_op op_mod (pe_op op_add (pe_op op_add (pe_op op_mulW (pe_op op_mod (pe_ix ix_list (pv 0) pe_int (fun _ _ => rfl)) pe_int) pe_int) (pe_op op_mulW (pe_ix ix_list (pv 0) pe_int (fun _ _ => rfl)) pe_int)) pe_int) pe_int))
        (pss_cons (ps_set (i := 4) nd rfl (.inl rfl) (pe_op op_mod (pe_op op_add (pe_op op_mulW (pv 3) (pv 3)) (pe_op op_mulW (pe_ix ix_list (pv 0) pe_int (fun _ _ => rfl)) pe_int)) pe_int))
        (pss_one (ps_ret (pe_op op_mod (pe_op op_fdivW (pe_op op_add (pe_op op_mulW (pv 3) pe_int) (pv 4)) pe_int) (pv 1)))))))), ?_⟩
    have g2 : atI [V.int A1, V.int B, V.int c] 2 = some (.int c) := atI_nat (j := 2) rfl
    refine ⟨_, rfl, b, _, 2, _, rfl, rfl, lstL eb, g2, _, _, rfl, rfl, _, rfl, b, _, 2, 2, rfl, rfl, eb, rfl, ?_⟩
    have e2 : upd H b (.lst ([V.int A1, V.int B, V.int c].set 2 (.int ((c : Int) + 1)))) b = some (.lst [.int A1, .int B, .int ((c : Int) + 1)]) := upd_same
    have k0 : atI [V.int A1, V.int B, V.int ((c : Int) + 1)] 0 = some (.int A1) := atI_nat (j := 0) rfl
    have k1 : atI [V.int A1, V.int B, V.int ((c : Int) + 1)] 1 = some (.int B) := atI_nat (j := 1) rfl
    have k2 : atI [V.int A1, V.int B, V.int ((c : Int) + 1)] 2 = some (.int ((c : Int) + 1)) := atI_nat (j := 2) rfl
    refine ⟨_, rfl, b, _, 0, _, rfl, rfl, lstL e2, k0, _, _, rfl, rfl, _, rfl, ite2 (fun e => ?_) (fun e => ?_)⟩
    · have e0 : 0 < A1 := of_decide_eq_true e
      refine ⟨_, rfl, b, _, 0, _, rfl, rfl, lstL e2, k0, _, rfl, _, _, rfl, rfl, by show 0 < m; omega, ?_⟩
      refine ⟨_, rfl, b, _, 0, _, rfl, rfl, lstL e2, k0, _, rfl, _, _, rfl, rfl, wide_div (b := 1500) (by omega) hm2 (by decide) (by decide), ?_⟩
      refine ⟨_, rfl, b, _, 0, 0, rfl, rfl, e2, rfl, _, rfl, ?_⟩
      exact q _ _ (keep_upd.trans keep_upd) ⟨_, B, upd_same, Int.ediv_nonneg hA (by omega)⟩ (Int.emod_nonneg _ (by omega)) (Int.emod_lt_of_pos _ (by omega))
    · have m0 : 0 ≤ B % 2147483629 := Int.emod_nonneg _ (by decide)
      have m1 : B % 2147483629 < 2147483629 := Int.emod_lt_of_pos _ (by decide)
      refine ⟨_, rfl, b, _, 1, _, rfl, rfl, lstL e2, k1, _, _, rfl, rfl, by show (0 : Int) < _; decide, _, _, rfl, rfl, wide_mul (a := 40) (b := 40) (by omega) (by decide) (by decide) (by decide) (by decide), _, rfl, b, _, 2, _, rfl, rfl, lstL e2, k2, _, _, rfl, rfl, wide_mul (a := 80) (b := 40) (by omega) (by decide) (by decide) (by decide) (by decide), _, _, rfl, rfl, _, _, rfl, rfl, _, _, rfl, rfl, by show (0 : Int) < _; decide, ?_⟩
      obtain ⟨f, hf⟩ : ∃ f, f = (B % 2147483629 * 48271 + ((c : Int) + 1) * 69621 + 12345) % 2147483647 := ⟨_, rfl⟩
      have f0 : 0 ≤ f := hf ▸ Int.emod_nonneg _ (by decide)
      have f1 : f < 2147483647 := hf ▸ Int.emod_lt_of_pos _ (by decide)
      show gName 3 (V.int ((B % 2147483629 * 48271 + ((c : Int) + 1) * 69621 + 12345) % 2147483647)) _ _ _
      rw [← hf]
      have fb : f.natAbs < 2 ^ 40 := by omega
      refine ⟨_, rfl, _, rfl, _, _, rfl, rfl, wide_mul (a := 40) (b := 40) fb fb (by decide) (by decide) (by decide), _, rfl, b, _, 2, _, rfl, rfl, lstL e2, k2, _, _, rfl, rfl, wide_mul (a := 80) (b := 40) (by omega) (by decide) (by decide) (by decide) (by decide), _, _, rfl, rfl, _, _, rfl, rfl, by show (0 : Int) < _; decide, ?_⟩
      refine ⟨_, rfl, _, _, rfl, rfl, wide_mul (a := 40) (b := 40) fb (by decide) (by decide) (by decide) (by decide), _, rfl, _, _, rfl, rfl, _, _, rfl, rfl, wide_div (b := 10) (by decide) (by decide) (by decide) (by decide), _, rfl, _, _, rfl, rfl, by show 0 < m; omega, ?_⟩
      exact q _ _ keep_upd ⟨A1, B, e2, hA⟩ (Int.emod_nonneg _ (by omega)) (Int.emod_lt_of_pos _ (by omega))
def spNumber : Sp := fun vs H Q _ => ∃ (b : Addr) (f : Int) (c : Nat), vs = [.ref b, .int f] ∧ Bg H b c ∧ c ≤ 9000000000000000000000 ∧ 0 ≤ f ∧ f ≤ 1 ∧
  ∀ (n : Nat) H', Keep b H H' → Bg H' b (c + 2) → 2 ≤ n → n ≤ WM.T30 → Q (.str (Str.ofString (toString ((n : Nat) : Int)))) H'
theorem ok_number (D : Ds K) (T : Tx K mg) : FnOk P w K mg base CX0 2 (d_law_number.adr K) D.fd__law_number ["bag", "far"] spNumber := by
  have GP : FnOk P w K mg base CX0 1 _ _ _ spPick := ok_pick D T
  refine D.F__law_number.ok sc_law_number (fun vs H Q E h => ?_) (fun cdv A outer s H vs Q E hr h => ?_)
  · obtain ⟨b, f, c, rfl, _⟩ := h
    rfl
  · obtain ⟨b, f, c, rfl, hb, hc, f0, f1, q⟩ := h
    refine ⟨_, PSs.nox (pss_one (ps_ret (pe_callTy call_str_int (by rfl) T.z_str (by decide +kernel) (pa_cons (pe_op op_add pe_int (pe_call GP hr (by rfl) T.g__law_pick D.F__law_pick.kp (b__law_pick D) .nil pass0 (pa_cons (pv 0) (pa_cons (pe_ix ix_list (pe_lst (pa_cons pe_int (pa_cons pe_int (pa_cons pe_int (pa_cons pe_int (pa_cons (pe_op op_sub (pe_op op_pow pe_int pe_int) pe_int) pa_nil)))))) (pe_call GP hr (by rfl) T.g__law_pick D.F__law_pick.kp (b__law_pick D) .nil pass0 (pa_cons (pv 0) (pa_cons (pe_op op_add pe_int (pe_op op_mulW pe_int (pv 1))) pa_nil))) (fun _ _ => rfl)) pa_nil)))) pa_nil)))), ?_⟩
    obtain ⟨A, B, eb, _⟩ := id hb
    refine ⟨_, rfl, _, _, rfl, rfl, pw_ok (by decide) (by decide), _, _, rfl, rfl, by show 5 ≤ sizeLine; decide, fun l hl => ?_⟩
    have sl := same_new (o := .lst [.int 2, .int 3, .int 9, .int 60, .int (10 ^ (30 : Int).toNat - 1)]) hl
    have nl : l ≠ b := Ne.symm (ne_of_none eb hl)
    refine ⟨_, rfl, _, rfl, _, _, rfl, rfl, wide_mul (a := 10) (b := 10) (by decide) (by omega) (by decide) (by decide) (by decide), _, _, rfl, rfl, b, _, c, rfl, hb.same sl, by omega, by omega, ?_, fun u H1 k1 b1 u0 u1 => ?_⟩
    · exact Nat.lt_of_lt_of_le (show (2 + 3 * f).natAbs < 2 ^ 10 by omega) (Nat.pow_le_pow_right (by decide) (by decide))
    obtain ⟨m, em, m2, mT⟩ := some_at (u := u) u0 (by omega)
    refine ⟨l, _, u, _, rfl, rfl, lstL (k1 _ _ nl upd_same), em, b, (m : Int), c + 1, rfl, b1, by omega, by omega, ?_, fun u2 H2 k2 b2 v0 v1 => ?_⟩
    · have p100 : (2 : Nat) ^ 100 = 1267650600228229401496703205376 := by decide
      have h1 : ((m : Int)).natAbs < 2 ^ 100 := by
        rw [p100]
        omega
      exact Nat.lt_of_lt_of_le h1 (Nat.pow_le_pow_right (by decide) (by decide))
    obtain ⟨k, rfl⟩ := Int.eq_ofNat_of_zero_le v0
    have hk : 2 + k ≤ WM.T30 := by
      have : WM.T30 = 1000000000000000000000000000000 := by decide
      omega
    refine ⟨_, _, rfl, rfl, ((2 + k : Nat) : Int), ?_, ?_, q (2 + k) H2 ((Same.keep sl).trans (k1.trans k2)) b2 (by omega) hk⟩
    · show [V.int ((2 : Int) + (k : Int))] = _
      rw [show (2 : Int) + (k : Int) = ((2 + k : Nat) : Int) by omega]
    · have p100 : (2 : Nat) ^ 100 = 1267650600228229401496703205376 := by decide
      have hT : WM.T30 = 1000000000000000000000000000000 := by decide
      have h1 : (((2 + k : Nat) : Int)).natAbs < 2 ^ 100 := by
        rw [p100]
        omega
      have h2 : (((2 + k : Nat) : Int)).natAbs.log2 < 100 := PySem.Flt.log2_lt_of (by decide) h1
      exact Nat.lt_trans h2 (by decide)
end
end K09P

set_option Elab.async false
set_option linter.all false
set_option maxRecDepth 100000
set_option maxHeartbeats 4000000
/-! the laws' draws behind a counter that always comes: from there on one fixed row of draws, whose names are known -/
namespace LN
/-- what a draw is made of, behind counter c -/
def fstI (B c : Int) : Int := (B % 2147483629 * 48271 + c * 69621 + 12345) % 2147483647
def sndI (B c : Int) : Int := (fstI B c * fstI B c + c * 40692) % 2147483587
def toldI (B c m : Int) : Int := (fstI B c * 2147483587 + sndI B c) / 32 % m
/-- the fixed row -/
def fN (d : Nat) : Nat := d * 69621 % 2147483647
def wN (d : Nat) : Nat := (fN d * 2147483587 + (fN d * fN d + d * 40692) % 2147483587) / 32
def Star (B : Int) (C : Nat) : Prop := (B % 2147483629 * 48271 + (C : Int) * 69621 + 12345) % 2147483647 = 0 ∧ (C : Int) % 2147483587 = 0
theorem star (B : Int) (n : Nat) : ∃ C : Nat, n ≤ C ∧ C ≤ n + 9223371770566803578 ∧ Star B C := by
  obtain ⟨b, hb⟩ : ∃ b, b = B % 2147483629 := ⟨_, rfl⟩
  have b0 : 0 ≤ b := hb ▸ Int.emod_nonneg _ (by decide)
  have b1 : b < 2147483629 := hb ▸ Int.emod_lt_of_pos _ (by decide)
  obtain ⟨y, hy⟩ : ∃ y : Int, y = (-12345 - b * 48271) * 631919809 := ⟨_, rfl⟩
  obtain ⟨x, hx⟩ : ∃ x : Int, x = y % 2147483647 := ⟨_, rfl⟩
  have x0 : 0 ≤ x := hx ▸ Int.emod_nonneg _ (by decide)
  have x1 : x < 2147483647 := hx ▸ Int.emod_lt_of_pos _ (by decide)
  obtain ⟨k, hk⟩ : ∃ k : Nat, k = n / 4611685885283401789 + 1 := ⟨_, rfl⟩
  refine ⟨(2147483587 * x + 4611685885283401789 * (k : Int)).toNat, by omega, by omega, ?_, ?_⟩
  · have e : (((2147483587 * x + 4611685885283401789 * (k : Int)).toNat : Nat) : Int) = 2147483587 * x + 4611685885283401789 * (k : Int) := Int.toNat_of_nonneg (by omega)
    rw [e, ← hb]
    have hx2 : x = y - 2147483647 * (y / 2147483647) := by
      have := Int.emod_add_mul_ediv y 2147483647
      omega
    generalize y / 2147483647 = t at hx2
    refine Int.emod_eq_zero_of_dvd ⟨(-12345 - b * 48271) * 43994887793186 - 2147483587 * 69621 * t + 2147483587 * 69621 * (k : Int), ?_⟩
    rw [hx2, hy]
    omega
  · have e : (((2147483587 * x + 4611685885283401789 * (k : Int)).toNat : Nat) : Int) = 2147483587 * x + 4611685885283401789 * (k : Int) := Int.toNat_of_nonneg (by omega)
    rw [e]
    omega
theorem fst_fix {B : Int} {C : Nat} (h : Star B C) (d : Nat) : fstI B ((C : Int) + d) = (fN d : Int) := by
  obtain ⟨h1, _⟩ := h
  unfold fstI fN
  rw [Int.natCast_emod, Int.natCast_mul]
  generalize B % 2147483629 = b at h1 ⊢
  show _ = ((d : Int) * 69621) % 2147483647
  omega
theorem mod_star {C d z : Nat} (h2 : (C : Int) % 2147483587 = 0) : ((z : Int) + ((C : Int) + (d : Int)) * 40692) % 2147483587 = (((z + d * 40692) % 2147483587 : Nat) : Int) := by
  rw [Int.natCast_emod, Int.natCast_add, Int.natCast_mul]
  have e : (z : Int) + ((C : Int) + (d : Int)) * 40692 = ((z : Int) + (d : Int) * 40692) + (C : Int) * 40692 := by omega
  rw [e]
  have e2 : (C : Int) * 40692 % 2147483587 = 0 := by omega
  refine (Int.add_emod _ _ _).trans ?_
  rw [e2, Int.add_zero, Int.emod_emod_of_dvd _ (Int.dvd_refl _)]
  rfl
theorem snd_fix {B : Int} {C : Nat} (h : Star B C) (d : Nat) : sndI B ((C : Int) + (d : Int)) = (((fN d * fN d + d * 40692) % 2147483587 : Nat) : Int) := by
  have e1 : sndI B ((C : Int) + (d : Int)) = ((fN d : Int) * (fN d : Int) + ((C : Int) + (d : Int)) * 40692) % 2147483587 := by
    unfold sndI
    exact congrArg (fun z : Int => (z * z + ((C : Int) + (d : Int)) * 40692) % 2147483587) (fst_fix h d)
  refine e1.trans ?_
  have e2 : (fN d : Int) * (fN d : Int) = ((fN d * fN d : Nat) : Int) := (Int.natCast_mul _ _).symm
  rw [e2]
  generalize fN d * fN d = z
  exact mod_star h.2
theorem told_fix {B : Int} {C : Nat} (h : Star B C) (d m : Nat) : toldI B ((C : Int) + d) (m : Int) = ((wN d % m : Nat) : Int) := by
  unfold toldI
  rw [fst_fix h d, snd_fix h d]
  unfold wN
  generalize (fN d * fN d + d * 40692) % 2147483587 = s
  generalize fN d = f
  obtain ⟨X, hX⟩ : ∃ X, X = f * 2147483587 + s := ⟨_, rfl⟩
  have e : (f : Int) * 2147483587 + (s : Int) = (X : Int) := by rw [hX]; omega
  rw [e, ← hX, Int.natCast_emod, Int.natCast_ediv]
  rfl
/-- a name drawn behind d draws of the row, and where it ends -/
def letN (d : Nat) : Nat := 97 + wN (d + 2) % (if wN (d + 1) % 2 = 0 then 3 else 26)
def nameN : Nat → Nat → List Nat
  | _, 0 => []
  | d, k + 1 => letN d :: nameN (d + 2) k
def sizN (d : Nat) : Nat := 2 + wN (d + 1) % 7
def nextN (d : Nat) : Nat := d + 1 + 2 * sizN d
def oneN (d : Nat) : List Nat := nameN (d + 1) (sizN d)
def atN (d : Nat) : Nat → Nat
  | 0 => d
  | k + 1 => nextN (atN d k)
def namesN (d : Nat) : Nat → List (List Nat)
  | 0 => []
  | k + 1 => let r := namesN d k; let x := oneN (atN d k); if x ∈ r then r else r ++ [x]
theorem many_names : ∀ a, a < 17 → 19 ≤ (namesN a 19).length := by decide +kernel
theorem next_le (d : Nat) : d + 5 ≤ nextN d ∧ nextN d ≤ d + 17 := by
  unfold nextN sizN
  have := Nat.mod_lt (wN (d + 1)) (show 0 < 7 by decide)
  omega
theorem len_sub {α : Type} [BEq α] [LawfulBEq α] : ∀ (l l' : List α), l.Nodup → (∀ x ∈ l, x ∈ l') → l.length ≤ l'.length
  | [], _, _, _ => Nat.zero_le _
  | x :: l, l', hn, hs => by
    have hx := hs x (List.mem_cons_self ..)
    have nx := (List.nodup_cons.mp hn)
    have ih := len_sub l (l'.erase x) nx.2 fun y hy => (List.mem_erase_of_ne (fun z => nx.1 (by rw [← z]; exact hy))).mpr (hs y (List.mem_cons_of_mem _ hy))
    rw [List.length_erase_of_mem hx] at ih
    have : 0 < l'.length := List.length_pos_of_mem hx
    show l.length + 1 ≤ _
    omega
theorem namesN_nodup (d : Nat) : ∀ k, (namesN d k).Nodup
  | 0 => List.nodup_nil
  | k + 1 => by
    show (if oneN (atN d k) ∈ namesN d k then namesN d k else namesN d k ++ [oneN (atN d k)]).Nodup
    split
    · exact namesN_nodup d k
    · rename_i h
      refine List.nodup_append.mpr ⟨namesN_nodup d k, List.nodup_cons.mpr ⟨(nomatch ·), List.nodup_nil⟩, fun a ha b hb => ?_⟩
      rw [List.mem_singleton.mp hb]
      exact fun z => h (z ▸ ha)
theorem namesN_sub {d k : Nat} {l : List (List Nat)} (h : ∀ x ∈ namesN d k, x ∈ l) (h2 : oneN (atN d k) ∈ l) : ∀ x ∈ namesN d (k + 1), x ∈ l := by
  show ∀ x ∈ (if oneN (atN d k) ∈ namesN d k then namesN d k else namesN d k ++ [oneN (atN d k)]), x ∈ l
  split
  · exact h
  · intro x hx
    rcases List.mem_append.mp hx with hx | hx
    · exact h x hx
    · rw [List.mem_singleton.mp hx]
      exact h2
theorem atN_le (d : Nat) : ∀ k, d + 5 * k ≤ atN d k ∧ atN d k ≤ d + 17 * k
  | 0 => ⟨Nat.le_refl _, Nat.le_refl _⟩
  | k + 1 => by
    have h := atN_le d k
    have h2 := next_le (atN d k)
    show d + 5 * (k + 1) ≤ nextN (atN d k) ∧ nextN (atN d k) ≤ d + 17 * (k + 1)
    omega
/-- how far the names of a loop are, that began at counter c0 with A -/
def Far (B : Int) (C : Nat) (c : Nat) (A : Int) (found : List (List Nat)) : Prop :=
  c < C ∨ (A = 0 ∧ ∃ a k, a < 17 ∧ c = C + atN a k ∧ ∀ x ∈ namesN a k, x ∈ found)
theorem far_end {B : Int} {C c : Nat} {A : Int} {found : List (List Nat)} (h : Far B C c A found) (few : found.length < 19) : c < C + 400 := by
  rcases h with h | ⟨_, a, k, ha, rfl, hs⟩
  · omega
  · have hk : k < 19 := by
      refine Classical.byContradiction fun no => ?_
      have mono : ∀ i, 19 ≤ (namesN a (19 + i)).length := fun i => by
        induction i with
        | zero => exact many_names a ha
        | succ i ih =>
          show 19 ≤ (if oneN (atN a (19 + i)) ∈ namesN a (19 + i) then namesN a (19 + i) else namesN a (19 + i) ++ [oneN (atN a (19 + i))]).length
          split
          · exact ih
          · rw [List.length_append]
            omega
      have h19 := mono (k - 19)
      rw [show 19 + (k - 19) = k by omega] at h19
      have := len_sub _ _ (namesN_nodup a k) hs
      omega
    have := (atN_le a k).2
    omega
end LN

set_option Elab.async false
set_option linter.all false
set_option maxRecDepth 100000
set_option maxHeartbeats 4000000
set_option exponentiation.threshold 3000
namespace K09P
open PySem PySem.Spec PyProof.Rows L2 RT WM K09 TL
/-- a bag of the law, exactly -/
def BgX (H : Hp) (b : Addr) (A B : Int) (c : Nat) : Prop := H b = some (.lst [.int A, .int B, .int c]) ∧ 0 ≤ A
theorem BgX.same {H H' : Hp} {b : Addr} {A B : Int} {c : Nat} (h : BgX H b A B c) (e : Same H H') : BgX H' b A B c := ⟨e _ _ h.1, h.2⟩
theorem BgX.bg {H : Hp} {b : Addr} {A B : Int} {c : Nat} (h : BgX H b A B c) : Bg H b c := ⟨A, B, h⟩
section
variable {P : Program} {w : World} {K : PySem.W.Frag} {mg : Str → Option Value} {base : Heap}
def spPickX : Sp := fun vs H Q _ => ∃ (b : Addr) (m A B : Int) (c : Nat), vs = [.ref b, .int m] ∧ BgX H b A B c ∧ c ≤ 10000000000000000000000 ∧ 1 ≤ m ∧ m.natAbs < 2 ^ 1500 ∧
  ∀ H', Keep b H H' → BgX H' b (if 0 < A then A / m else A) B (c + 1) → Q (.int (if 0 < A then A % m else LN.toldI B ((c : Int) + 1) m)) H'
theorem ok_pickX (D : Ds K) (T : Tx K mg) : FnOk P w K mg base CX0 1 (d_law_pick.adr K) D.fd__law_pick ["bag", "many"] spPickX := by
  refine D.F__law_pick.ok sc_law_pick (fun vs H Q E h => ?_) (fun cdv A outer s H vs Q E hr h => ?_)
  · obtain ⟨b, m, A1, B, c, rfl, _⟩ := h
    rfl
  · obtain ⟨b, m, A1, B, c, rfl, ⟨eb, hA⟩, hc, hm, hm2, q⟩ := h
    have nd := sc_law_pick.nd
    refine ⟨_, PSs.nox (pss_cons (ps_asg (pe_op op_add (pe_ix ix_list (pv 0) pe_int (fun _ _ => rfl)) pe_int) (pg_sub (pv 0) pe_int set_list))
        (pss_cons (ps_if (pt_cmpR op_gt (pe_ix ix_list (pv 0) pe_int (fun _ _ => rfl)) pe_int (nomark _)) (pss_cons (ps_set (i := 2) nd rfl (.inl rfl) (pe_op op_mod (pe_ix ix_list (pv 0) pe_int (fun _ _ => rfl)) (pv 1)))
        (pss_cons (ps_asg (pe_op op_fdivW (pe_ix ix_list (pv 0) pe_int (fun _ _ => rfl)) (pv 1)) (pg_sub (pv 0) pe_int set_list))
        (pss_one (ps_ret (pv 2))))) pss_nil)
        (pss_cons (ps_set (i := 3) nd rfl (.inl rfl) (pe_op op_mod (pe_op op_add (pe_op op_add (pe_op op_mulW (pe_op op_mod (pe_ix ix_list (pv 0) pe_int (fun _ _ => rfl)) pe_int) pe_int) (pe_op op_mulW (pe_ix ix_list (pv 0) pe_int (fun _ _ => rfl)) pe_int)) pe_int) pe_int))
        (pss_cons (ps_set (i := 4) nd rfl (.inl rfl) (pe_op op_mod (pe_op op_add (pe_op op_mulW (pv 3) (pv 3)) (pe_op op_mulW (pe_ix ix_list (pv 0) pe_int (fun _ _ => rfl)) pe_int)) pe_int))
        (pss_one (ps_ret (pe_op op_mod (pe_op op_fdivW (pe_op op_add (pe_op op_mulW (pv 3) pe_int) (pv 4)) pe_int) (pv 1)))))))), ?_⟩
    have g2 : atI [V.int A1, V.int B, V.int c] 2 = some (.int c) := atI_nat (j := 2) rfl
    refine ⟨_, rfl, b, _, 2, _, rfl, rfl, lstL eb, g2, _, _, rfl, rfl, _, rfl, b, _, 2, 2, rfl, rfl, eb, rfl, ?_⟩
    have e2 : upd H b (.lst ([V.int A1, V.int B, V.int c].set 2 (.int ((c : Int) + 1)))) b = some (.lst [.int A1, .int B, .int ((c : Int) + 1)]) := upd_same
    have k0 : atI [V.int A1, V.int B, V.int ((c : Int) + 1)] 0 = some (.int A1) := atI_nat (j := 0) rfl
    have k1 : atI [V.int A1, V.int B, V.int ((c : Int) + 1)] 1 = some (.int B) := atI_nat (j := 1) rfl
    have k2 : atI [V.int A1, V.int B, V.int ((c : Int) + 1)] 2 = some (.int ((c : Int) + 1)) := atI_nat (j := 2) rfl
    refine ⟨_, rfl, b, _, 0, _, rfl, rfl, lstL e2, k0, _, _, rfl, rfl, _, rfl, ite2 (fun e => ?_) (fun e => ?_)⟩
    · have e0 : 0 < A1 := of_decide_eq_true e
      refine ⟨_, rfl, b, _, 0, _, rfl, rfl, lstL e2, k0, _, rfl, _, _, rfl, rfl, by show 0 < m; omega, ?_⟩
      refine ⟨_, rfl, b, _, 0, _, rfl, rfl, lstL e2, k0, _, rfl, _, _, rfl, rfl, wide_div (b := 1500) (by omega) hm2 (by decide) (by decide), ?_⟩
      refine ⟨_, rfl, b, _, 0, 0, rfl, rfl, e2, rfl, _, rfl, ?_⟩
      rw [if_pos e0, if_pos e0] at q
      exact q _ (keep_upd.trans keep_upd) ⟨upd_same, Int.ediv_nonneg hA (by omega)⟩
    · have e0 : ¬ 0 < A1 := fun z => e (decide_eq_true z)
      rw [if_neg e0, if_neg e0] at q
      have m0 : 0 ≤ B % 2147483629 := Int.emod_nonneg _ (by decide)
      have m1 : B % 2147483629 < 2147483629 := Int.emod_lt_of_pos _ (by decide)
      refine ⟨_, rfl, b, _, 1, _, rfl, rfl, lstL e2, k1, _, _, rfl, rfl, by show (0 : Int) < _; decide, _, _, rfl, rfl, wide_mul (a := 40) (b := 40) (by omega) (by decide) (by decide) (by decide) (by decide), _, rfl, b, _, 2, _, rfl, rfl, lstL e2, k2, _, _, rfl, rfl, wide_mul (a := 80) (b := 40) (by omega) (by decide) (by decide) (by decide) (by decide), _, _, rfl, rfl, _, _, rfl, rfl, _, _, rfl, rfl, by show (0 : Int) < _; decide, ?_⟩
      obtain ⟨f, hf⟩ : ∃ f, f = (B % 2147483629 * 48271 + ((c : Int) + 1) * 69621 + 12345) % 2147483647 := ⟨_, rfl⟩
      have f0 : 0 ≤ f := hf ▸ Int.emod_nonneg _ (by decide)
      have f1 : f < 2147483647 := hf ▸ Int.emod_lt_of_pos _ (by decide)
      show gName 3 (V.int ((B % 2147483629 * 48271 + ((c : Int) + 1) * 69621 + 12345) % 2147483647)) _ _ _
      rw [← hf]
      have fb : f.natAbs < 2 ^ 40 := by omega
      refine ⟨_, rfl, _, rfl, _, _, rfl, rfl, wide_mul (a := 40) (b := 40) fb fb (by decide) (by decide) (by decide), _, rfl, b, _, 2, _, rfl, rfl, lstL e2, k2, _, _, rfl, rfl, wide_mul (a := 80) (b := 40) (by omega) (by decide) (by decide) (by decide) (by decide), _, _, rfl, rfl, _, _, rfl, rfl, by show (0 : Int) < _; decide, ?_⟩
      refine ⟨_, rfl, _, _, rfl, rfl, wide_mul (a := 40) (b := 40) fb (by decide) (by decide) (by decide) (by decide), _, rfl, _, _, rfl, rfl, _, _, rfl, rfl, wide_div (b := 10) (by decide) (by decide) (by decide) (by decide), _, rfl, _, _, rfl, rfl, by show 0 < m; omega, ?_⟩
      rw [hf]
      exact q _ keep_upd ⟨e2, hA⟩
end
end K09P

set_option Elab.async false
set_option linter.all false
set_option maxRecDepth 100000
set_option maxHeartbeats 4000000
namespace LN
/-- what is left of a cell behind k draws, each below two at least -/
def Dry (Lb k : Nat) (A : Int) : Prop := 0 ≤ A ∧ A * 2 ^ k < 2 ^ Lb
def rest (A m : Int) : Int := if 0 < A then A / m else A
def drawn (B A : Int) (c : Nat) (m : Int) : Int := if 0 < A then A % m else toldI B ((c : Int) + 1) m
theorem Dry.step {Lb k : Nat} {A m : Int} (h : Dry Lb k A) (hm : 2 ≤ m) : Dry Lb (k + 1) (rest A m) := by
  obtain ⟨h0, h1⟩ := h
  unfold rest
  split
  · rename_i hA
    have q0 : 0 ≤ A / m := Int.ediv_nonneg h0 (by omega)
    refine ⟨q0, Int.lt_of_le_of_lt ?_ h1⟩
    have e : A / m * 2 ^ (k + 1) = A / m * 2 * 2 ^ k := by
      rw [Int.pow_succ, Int.mul_assoc, Int.mul_comm ((2 : Int) ^ k) 2]
    rw [e]
    refine Int.mul_le_mul_of_nonneg_right ?_ (Int.le_of_lt (Int.pow_pos (by decide)))
    exact Int.le_trans (Int.mul_le_mul_of_nonneg_left hm q0) (Int.ediv_mul_le A (by omega))
  · rename_i hA
    have : A = 0 := by omega
    subst this
    refine ⟨Int.le_refl _, ?_⟩
    rw [Int.zero_mul] at h1 ⊢
    exact h1
theorem Dry.zero {Lb k : Nat} {A : Int} (h : Dry Lb k A) (hk : Lb ≤ k) : A = 0 := by
  obtain ⟨h0, h1⟩ := h
  refine Classical.byContradiction fun no => ?_
  have a1 : 1 ≤ A := by omega
  have p : (2 : Int) ^ Lb ≤ 2 ^ k := by
    have := Nat.pow_le_pow_right (show 0 < 2 by decide) hk
    have e : ∀ n : Nat, (2 : Int) ^ n = ((2 ^ n : Nat) : Int) := fun n => by
      rw [Int.natCast_pow]
      rfl
    rw [e, e]
    exact Int.ofNat_le.mpr this
  have p0 : (0 : Int) < 2 ^ k := Int.pow_pos (by decide)
  have := Int.mul_le_mul_of_nonneg_right a1 (Int.le_of_lt p0)
  rw [Int.one_mul] at this
  exact absurd (Int.lt_of_le_of_lt (Int.le_trans p this) h1) (Int.lt_irrefl _)
theorem rest_zero (m : Int) : rest 0 m = 0 := if_neg (by decide)
theorem drawn_lt {B A : Int} {c : Nat} {m : Int} (hm : 1 ≤ m) : 0 ≤ drawn B A c m ∧ drawn B A c m < m := by
  unfold drawn toldI
  split
  · exact ⟨Int.emod_nonneg _ (by omega), Int.emod_lt_of_pos _ (by omega)⟩
  · exact ⟨Int.emod_nonneg _ (by omega), Int.emod_lt_of_pos _ (by omega)⟩
theorem drawn_fix {B : Int} {C : Nat} (h : Star B C) (d m : Nat) : drawn B 0 (C + d) (m : Int) = ((wN (d + 1) % m : Nat) : Int) := by
  have e : (((C + d : Nat) : Int) + 1) = (C : Int) + ((d + 1 : Nat) : Int) := by omega
  show (if (0 : Int) < 0 then _ else toldI B (((C + d : Nat) : Int) + 1) m) = _
  rw [if_neg (by decide), e]
  exact told_fix h (d + 1) m
theorem nameN_snoc : ∀ (k d : Nat), nameN d (k + 1) = nameN d k ++ [letN (d + 2 * k)]
  | 0, d => rfl
  | k + 1, d => by
    show letN d :: nameN (d + 2) (k + 1) = letN d :: nameN (d + 2) k ++ [_]
    rw [nameN_snoc k (d + 2), List.cons_append, show d + 2 + 2 * k = d + 2 * (k + 1) by omega]
/-- the letters of a name behind j of them; the first one was drawn behind counter c1 with A1 -/
structure RowI (B : Int) (C c1 : Nat) (A1 : Int) (j : Nat) (A : Int) (l : List Nat) : Prop where
  len : l.length = j
  low : ∀ x ∈ l, 97 ≤ x ∧ x ≤ 122
  row : ∀ d, c1 = C + d → A1 = 0 → A = 0 ∧ l = nameN d j
theorem RowI.start (B : Int) (C c1 : Nat) (A1 : Int) : RowI B C c1 A1 0 A1 [] := ⟨rfl, nofun, fun d _ h => ⟨h, rfl⟩⟩
def mods (w : Int) : Int := if w = 0 then 3 else 26
theorem RowI.step {B A1 A : Int} {C c1 j : Nat} {l : List Nat} (h : RowI B C c1 A1 j A l) (st : Star B C) {u : Nat} (hu : drawn B (rest A 2) (c1 + 2 * j + 1) (mods (drawn B A (c1 + 2 * j) 2)) = (u : Int)) : RowI B C c1 A1 (j + 1) (rest (rest A 2) (mods (drawn B A (c1 + 2 * j) 2))) (l ++ [97 + u]) := by
  have um : u < 26 := by
    have hm : 1 ≤ mods (drawn B A (c1 + 2 * j) 2) ∧ mods (drawn B A (c1 + 2 * j) 2) ≤ 26 := by
      unfold mods
      split <;> decide
    have := (drawn_lt (B := B) (A := rest A 2) (c := c1 + 2 * j + 1) hm.1).2
    omega
  refine ⟨by rw [List.length_append, h.len]; rfl, fun x hx => ?_, fun d hd hA => ?_⟩
  · rcases List.mem_append.mp hx with hx | hx
    · exact h.low x hx
    · rw [List.mem_singleton.mp hx]
      omega
  · obtain ⟨rfl, el⟩ := h.row d hd hA
    subst hd
    rw [rest_zero, rest_zero]
    rw [rest_zero] at hu
    refine ⟨rfl, ?_⟩
    have e1 : drawn B 0 (C + d + 2 * j) 2 = ((wN (d + 2 * j + 1) % 2 : Nat) : Int) := by
      rw [Nat.add_assoc]
      exact drawn_fix st (d + 2 * j) 2
    have e2 : mods (drawn B 0 (C + d + 2 * j) 2) = ((if wN (d + 2 * j + 1) % 2 = 0 then 3 else 26 : Nat) : Int) := by
      rw [e1]
      unfold mods
      have hw := Nat.mod_lt (wN (d + 2 * j + 1)) (show 0 < 2 by decide)
      generalize wN (d + 2 * j + 1) % 2 = z at hw ⊢
      have : z = 0 ∨ z = 1 := by omega
      rcases this with rfl | rfl <;> rfl
    rw [e2] at hu
    have e3 := drawn_fix st (d + 2 * j + 1) (if wN (d + 2 * j + 1) % 2 = 0 then 3 else 26)
    rw [show C + d + 2 * j + 1 = C + (d + 2 * j + 1) by omega, e3] at hu
    rw [nameN_snoc, el]
    unfold letN
    rw [show d + 2 * j + 2 = d + 2 * j + 1 + 1 by omega]
    have hu2 : u = wN (d + 2 * j + 1 + 1) % (if wN (d + 2 * j + 1) % 2 = 0 then 3 else 26) := (Int.ofNat.inj hu).symm
    rw [← hu2]
def LowN (l : List Nat) : Prop := 2 ≤ l.length ∧ l.length ≤ 8 ∧ ∀ c ∈ l, 97 ≤ c ∧ c ≤ 122
theorem atN_succ (a k : Nat) : atN a (k + 1) = nextN (atN a k) := rfl
/-- a turn of the loop of names: from counter c with A, a name l is drawn with size, behind it counter c' with A' -/
theorem far_turn {B A A' : Int} {C c c0 Lb size : Nat} {found found' : List (List Nat)} {l : List Nat} (st : Star B C) (hC : c0 + Lb ≤ C) (hc : c0 ≤ c) (far : Far B C c A found)
    (hs : (size : Int) = 2 + drawn B A c 7) (row : RowI B C (c + 1) (rest A 7) size A' l) (dry : Dry Lb (c + 1 + 2 * size - c0) A') (sub : ∀ x ∈ found, x ∈ found') (inn : l ∈ found') : Far B C (c + 1 + 2 * size) A' found' := by
  have s8 : 2 ≤ size ∧ size ≤ 8 := by
    have := drawn_lt (B := B) (A := A) (c := c) (m := 7) (by decide)
    omega
  rcases far with h | ⟨rfl, a, k, ha, rfl, hsub⟩
  · by_cases h2 : c + 1 + 2 * size < C
    · exact .inl h2
    · refine .inr ⟨dry.zero (by omega), c + 1 + 2 * size - C, 0, by omega, ?_, nofun⟩
      show c + 1 + 2 * size = C + (c + 1 + 2 * size - C)
      omega
  · have e7 := drawn_fix st (atN a k) 7
    have es : size = sizN (atN a k) := by
      unfold sizN
      have e8 : drawn B 0 (C + atN a k) 7 = ((wN (atN a k + 1) % 7 : Nat) : Int) := e7
      rw [e8] at hs
      omega
    obtain ⟨rA, rl⟩ := row.row (atN a k + 1) (by omega) (rest_zero _)
    have en : l = oneN (atN a k) := by
      rw [rl, es]
      rfl
    refine .inr ⟨rA, a, k + 1, ha, ?_, namesN_sub (fun x hx => sub x (hsub x hx)) (en ▸ inn)⟩
    rw [atN_succ]
    unfold nextN
    omega
end LN

set_option Elab.async false
set_option linter.all false
set_option maxRecDepth 100000
set_option maxHeartbeats 4000000
set_option exponentiation.threshold 3000
/-! sources: trees in which names stand, their words, what they stand for -/
namespace WM
open PySem PySem.Spec PyProof.Rows L2 TL
inductive Nw where
  | wd (x : Wd)
  | nm (i : Nat)
  deriving DecidableEq
inductive Ns where
  | nil
  | lf (c n : Nat) (r : Ns)
  | nm (i : Nat) (r : Ns)
  | rp (b : Ns) (n : Nat) (r : Ns)
namespace Ns
def words : Ns → List Nw
  | .nil => []
  | .lf c n r => .wd (.lt c n) :: r.words
  | .nm i r => .nm i :: r.words
  | .rp b n r => .wd .op :: (b.words ++ .wd (.cl n) :: r.words)
def lev : Ns → Nat
  | .nil => 0
  | .lf _ _ r => r.lev
  | .nm _ r => r.lev
  | .rp b _ r => max (1 + b.lev) r.lev
def ok (k : Nat) : Ns → Prop
  | .nil => True
  | .lf c n r => (c ∈ six ∧ 1 ≤ n ∧ n ≤ T30) ∧ r.ok k
  | .nm i r => i < k ∧ r.ok k
  | .rp b n r => b ≠ .nil ∧ b.ok k ∧ (2 ≤ n ∧ n ≤ T30) ∧ r.ok k
def shadow : Ns → Ps
  | .nil => .nil
  | .lf c n r => .lf c n r.shadow
  | .nm _ r => .lf 102 1 r.shadow
  | .rp b n r => .rp b.shadow n r.shadow
def sub (f : Nat → Ps) : Ns → Ps
  | .nil => .nil
  | .lf c n r => .lf c n (r.sub f)
  | .nm i r => (f i).app (r.sub f)
  | .rp b n r => .rp (b.sub f) n (r.sub f)
def emb : Ps → Ns
  | .nil => .nil
  | .lf c n r => .lf c n (emb r)
  | .rp b n r => .rp (emb b) n (emb r)
end Ns
def Nw.shw : Nw → Wd
  | .wd x => x
  | .nm _ => .lt 102 1
def Nw.flat (f : Nat → Ps) : Nw → List Wd
  | .wd x => [x]
  | .nm i => (f i).words
namespace Ns
theorem emb_words : ∀ p : Ps, (emb p).words = p.words.map .wd
  | .nil => rfl
  | .lf c n r => congrArg (Nw.wd (.lt c n) :: ·) (emb_words r)
  | .rp b n r => by
    show Nw.wd .op :: ((emb b).words ++ Nw.wd (.cl n) :: (emb r).words) = _
    rw [emb_words b, emb_words r]
    show _ = Nw.wd .op :: (b.words ++ .cl n :: r.words).map .wd
    rw [List.map_append, List.map_cons]
theorem emb_nil : ∀ p : Ps, emb p = .nil → p = .nil
  | .nil, _ => rfl
  | .lf _ _ _, h => nomatch h
  | .rp _ _ _, h => nomatch h
theorem emb_ok (k : Nat) : ∀ p : Ps, p.ok → (emb p).ok k
  | .nil, _ => trivial
  | .lf c n r, h => ⟨h.1, emb_ok k r h.2⟩
  | .rp b n r, h => ⟨fun z => h.1 (emb_nil b z), emb_ok k b h.2.1, h.2.2.1, emb_ok k r h.2.2.2⟩
theorem emb_lev : ∀ p : Ps, (emb p).lev = p.lev
  | .nil => rfl
  | .lf c n r => emb_lev r
  | .rp b n r => by
    show max (1 + (emb b).lev) (emb r).lev = max (1 + b.lev) r.lev
    rw [emb_lev b, emb_lev r]
theorem ok_mono {k j : Nat} (h : k ≤ j) : ∀ t : Ns, t.ok k → t.ok j
  | .nil, _ => trivial
  | .lf c n r, o => ⟨o.1, ok_mono h r o.2⟩
  | .nm i r, o => ⟨Nat.lt_of_lt_of_le o.1 h, ok_mono h r o.2⟩
  | .rp b n r, o => ⟨o.1, ok_mono h b o.2.1, o.2.2.1, ok_mono h r o.2.2.2⟩
theorem nil_iff (t : Ns) : t.words = [] ↔ t = .nil := by
  cases t with
  | nil => exact ⟨fun _ => rfl, fun _ => rfl⟩
  | lf c n r => exact ⟨fun z => (nomatch z), fun z => (nomatch z)⟩
  | nm i r => exact ⟨fun z => (nomatch z), fun z => (nomatch z)⟩
  | rp b n r => exact ⟨fun z => (nomatch z), fun z => (nomatch z)⟩
/-- a name put in the place of a letter -/
theorem put (i : Nat) : ∀ (t : Ns) (j : Nat) (x : Nw), t.words[j]? = some x → x ≠ .wd .op → (∀ n, x ≠ .wd (.cl n)) → ∃ t' : Ns, t'.words = t.words.set j (.nm i) ∧ t'.lev = t.lev ∧ ∀ k, i < k → t.ok k → t'.ok k
  | .nil, j, x, h, _, _ => nomatch h
  | .lf c n r, 0, x, h, _, _ => ⟨.nm i r, rfl, rfl, fun k hi o => ⟨hi, o.2⟩⟩
  | .lf c n r, j + 1, x, h, h1, h2 => by
    obtain ⟨r', e, l, o⟩ := put i r j x h h1 h2
    exact ⟨.lf c n r', congrArg (Nw.wd (.lt c n) :: ·) e, l, fun k hi q => ⟨q.1, o k hi q.2⟩⟩
  | .nm a r, 0, x, h, _, _ => ⟨.nm i r, rfl, rfl, fun k hi o => ⟨hi, o.2⟩⟩
  | .nm a r, j + 1, x, h, h1, h2 => by
    obtain ⟨r', e, l, o⟩ := put i r j x h h1 h2
    exact ⟨.nm a r', congrArg (Nw.nm a :: ·) e, l, fun k hi q => ⟨q.1, o k hi q.2⟩⟩
  | .rp b n r, 0, x, h, h1, _ => absurd (Option.some.inj h).symm h1
  | .rp b n r, j + 1, x, h, h1, h2 => by
    have h' : (b.words ++ Nw.wd (.cl n) :: r.words)[j]? = some x := h
    have es : (Ns.rp b n r).words.set (j + 1) (.nm i) = .wd .op :: ((b.words ++ .wd (.cl n) :: r.words).set j (.nm i)) := rfl
    rw [es]
    by_cases hj : j < b.words.length
    · rw [List.getElem?_append_left hj] at h'
      obtain ⟨b', e, l, o⟩ := put i b j x h' h1 h2
      refine ⟨.rp b' n r, ?_, ?_, fun k hi q => ⟨fun z => ?_, o k hi q.2.1, q.2.2.1, q.2.2.2⟩⟩
      · show Nw.wd .op :: (b'.words ++ .wd (.cl n) :: r.words) = _
        rw [e, List.set_append_left _ _ hj]
      · show max (1 + b'.lev) r.lev = max (1 + b.lev) r.lev
        rw [l]
      · subst z
        have : (b.words.set j (.nm i)).length = 0 := by rw [← e]; rfl
        rw [List.length_set] at this
        omega
    · rw [List.getElem?_append_right (by omega)] at h'
      obtain ⟨m, em⟩ : ∃ m, m = j - b.words.length := ⟨_, rfl⟩
      rw [← em] at h'
      cases m with
      | zero => exact absurd (Option.some.inj h').symm (h2 n)
      | succ m =>
        obtain ⟨r', e, l, o⟩ := put i r m x h' h1 h2
        refine ⟨.rp b n r', ?_, ?_, fun k hi q => ⟨q.1, q.2.1, q.2.2.1, o k hi q.2.2.2⟩⟩
        · show Nw.wd .op :: (b.words ++ .wd (.cl n) :: r'.words) = _
          rw [e, List.set_append_right _ _ (by omega), ← em]
          rfl
        · show max (1 + b.lev) r'.lev = max (1 + b.lev) r.lev
          rw [l]
theorem shadow_words : ∀ t : Ns, t.shadow.words = t.words.map Nw.shw
  | .nil => rfl
  | .lf c n r => congrArg (Wd.lt c n :: ·) (shadow_words r)
  | .nm i r => congrArg (Wd.lt 102 1 :: ·) (shadow_words r)
  | .rp b n r => by
    show Wd.op :: (b.shadow.words ++ Wd.cl n :: r.shadow.words) = Wd.op :: (b.words ++ .wd (.cl n) :: r.words).map Nw.shw
    rw [shadow_words b, shadow_words r, List.map_append, List.map_cons]
    rfl
theorem shadow_nil (t : Ns) (h : t.shadow = .nil) : t = .nil := by
  cases t with
  | nil => rfl
  | lf c n r => exact nomatch h
  | nm i r => exact nomatch h
  | rp b n r => exact nomatch h
theorem shadow_ok {k : Nat} : ∀ t : Ns, t.ok k → t.shadow.ok
  | .nil, _ => trivial
  | .lf c n r, h => ⟨h.1, shadow_ok r h.2⟩
  | .nm i r, h => ⟨⟨by decide, by decide, by decide⟩, shadow_ok r h.2⟩
  | .rp b n r, h => ⟨fun z => h.1 (shadow_nil b z), shadow_ok b h.2.1, h.2.2.1, shadow_ok r h.2.2.2⟩
theorem shadow_lev : ∀ t : Ns, t.shadow.lev = t.lev
  | .nil => rfl
  | .lf c n r => shadow_lev r
  | .nm i r => shadow_lev r
  | .rp b n r => by
    show max (1 + b.shadow.lev) r.shadow.lev = max (1 + b.lev) r.lev
    rw [shadow_lev b, shadow_lev r]
theorem okW {k : Nat} {t : Ns} (h : t.ok k) (hl : t.words.length ≤ 1000) (hv : t.lev ≤ 12) : OkW (t.words.map Nw.shw) := by
  rw [← shadow_words]
  refine okW_of (shadow_ok t h) ?_ (by rw [shadow_lev]; exact hv)
  rw [shadow_words, List.length_map]
  exact hl
theorem sub_words (f : Nat → Ps) : ∀ t : Ns, (t.sub f).words = t.words.flatMap (Nw.flat f)
  | .nil => rfl
  | .lf c n r => by
    show Wd.lt c n :: (r.sub f).words = [Wd.lt c n] ++ r.words.flatMap (Nw.flat f)
    rw [sub_words f r]
    rfl
  | .nm i r => by
    show ((f i).app (r.sub f)).words = (f i).words ++ r.words.flatMap (Nw.flat f)
    rw [app_words, sub_words f r]
  | .rp b n r => by
    show Wd.op :: ((b.sub f).words ++ Wd.cl n :: (r.sub f).words) = [Wd.op] ++ (b.words ++ .wd (.cl n) :: r.words).flatMap (Nw.flat f)
    rw [sub_words f b, sub_words f r, List.flatMap_append, List.flatMap_cons]
    rfl
theorem app_nilp {p q : Ps} (h : p ≠ .nil) : p.app q ≠ .nil := by
  cases p with
  | nil => exact absurd rfl h
  | lf c n r => exact fun z => nomatch z
  | rp b n r => exact fun z => nomatch z
theorem app_okp : ∀ {p q : Ps}, p.ok → q.ok → (p.app q).ok
  | .nil, q, _, h => h
  | .lf c n r, q, h, g => ⟨h.1, app_okp h.2 g⟩
  | .rp b n r, q, h, g => ⟨h.1, h.2.1, h.2.2.1, app_okp h.2.2.2 g⟩
theorem app_levp : ∀ p q : Ps, (p.app q).lev = max p.lev q.lev
  | .nil, q => (Nat.max_eq_right (Nat.zero_le _)).symm
  | .lf c n r, q => app_levp r q
  | .rp b n r, q => by
    show max (1 + b.lev) (r.app q).lev = max (max (1 + b.lev) r.lev) q.lev
    rw [app_levp r q, Nat.max_assoc]
theorem sub_nil {f : Nat → Ps} {k : Nat} (hf : ∀ i, i < k → f i ≠ .nil) (t : Ns) (o : t.ok k) (h : t.sub f = .nil) : t = .nil := by
  cases t with
  | nil => rfl
  | lf c n r => exact nomatch h
  | nm i r => exact absurd h (app_nilp (hf i o.1))
  | rp b n r => exact nomatch h
theorem sub_ok {f : Nat → Ps} {k : Nat} (hf : ∀ i, i < k → (f i).ok ∧ f i ≠ .nil) : ∀ t : Ns, t.ok k → (t.sub f).ok
  | .nil, _ => trivial
  | .lf c n r, h => ⟨h.1, sub_ok hf r h.2⟩
  | .nm i r, h => app_okp (hf i h.1).1 (sub_ok hf r h.2)
  | .rp b n r, h => ⟨fun z => h.1 (sub_nil (fun i hi => (hf i hi).2) b h.2.1 z), sub_ok hf b h.2.1, h.2.2.1, sub_ok hf r h.2.2.2⟩
theorem sub_congr {f g : Nat → Ps} {k : Nat} (hf : ∀ i, i < k → f i = g i) : ∀ t : Ns, t.ok k → t.sub f = t.sub g
  | .nil, _ => rfl
  | .lf c n r, h => congrArg (Ps.lf c n) (sub_congr hf r h.2)
  | .nm i r, h => by
    show (f i).app (r.sub f) = (g i).app (r.sub g)
    rw [hf i h.1, sub_congr hf r h.2]
  | .rp b n r, h => by
    show Ps.rp (b.sub f) n (r.sub f) = Ps.rp (b.sub g) n (r.sub g)
    rw [sub_congr hf b h.2.1, sub_congr hf r h.2.2.2]
theorem sub_emb (f : Nat → Ps) : ∀ p : Ps, (emb p).sub f = p
  | .nil => rfl
  | .lf c n r => congrArg (Ps.lf c n) (sub_emb f r)
  | .rp b n r => by
    show Ps.rp ((emb b).sub f) n ((emb r).sub f) = _
    rw [sub_emb f b, sub_emb f r]
end Ns
/-- what line k stands for: the lines are L 0, L 1 .. -/
def flatD (L : Nat → Ns) : Nat → Nat → Ps
  | 0, _ => .nil
  | d + 1, k => (L k).sub (flatD L d)
def flat (L : Nat → Ns) (k : Nat) : Ps := flatD L (k + 1) k
theorem flatD_eq {L : Nat → Ns} {m : Nat} (ok : ∀ k, k ≤ m → (L k).ok k) : ∀ (d k : Nat), k < d → k ≤ m → flatD L d k = flat L k := by
  intro d
  induction d using Nat.strongRecOn with
  | ind d ih =>
    intro k hk hm
    cases d with
    | zero => omega
    | succ d =>
      refine Ns.sub_congr (fun i hi => ?_) (L k) (ok k hm)
      rw [ih d (by omega) i (by omega) (by omega)]
      by_cases h : k = 0
      · omega
      · exact (ih k (by omega) i hi (by omega)).symm
theorem flat_eq {L : Nat → Ns} {m k : Nat} (ok : ∀ k, k ≤ m → (L k).ok k) (hk : k ≤ m) : flat L k = (L k).sub (flat L) :=
  Ns.sub_congr (fun i hi => flatD_eq ok k i hi (by omega)) (L k) (ok k hk)
/-- a source: lines 0 to m, each with names of lines in front of it, all but the last one not empty -/
structure Lines (L : Nat → Ns) (m : Nat) : Prop where
  ok : ∀ k, k ≤ m → (L k).ok k
  full : ∀ k, k < m → L k ≠ .nil
  few : ∀ k, k ≤ m → (L k).words.length ≤ 12
  low : ∀ k, k ≤ m → (L k).lev ≤ 2
theorem Lines.flat_full {L : Nat → Ns} {m : Nat} (h : Lines L m) : ∀ k, k < m → flat L k ≠ .nil := by
  intro k
  induction k using Nat.strongRecOn with
  | ind k ih =>
    intro hk z
    rw [flat_eq h.ok (by omega)] at z
    exact h.full k hk (Ns.sub_nil (fun i hi => ih i hi (by omega)) (L k) (h.ok k (by omega)) z)
theorem Lines.flat_ok {L : Nat → Ns} {m : Nat} (h : Lines L m) : ∀ k, k ≤ m → (flat L k).ok := by
  intro k
  induction k using Nat.strongRecOn with
  | ind k ih =>
    intro hk
    rw [flat_eq h.ok hk]
    exact Ns.sub_ok (fun i hi => ⟨ih i hi (by omega), h.flat_full i (by omega)⟩) (L k) (h.ok k hk)
/-! ### how deep, word by word -/
def nwN (z : Nat) (g : Nat → Nat) : Nw → Nat
  | .wd _ => z
  | .nm i => g i
/-- behind a word: where it is, the deepest so far -/
def deepS (g : Nat → Nat) (s : Int × Int) (x : Nw) : Int × Int :=
  let l := s.1 + step x.shw
  (l, max s.2 (l + (nwN 0 g x : Int)))
def deepF (g : Nat → Nat) (s : Int × Int) (ws : List Nw) : Int × Int := ws.foldl (deepS g) s
theorem deep_tree (f : Nat → Ps) : ∀ (t : Ns) (l d : Int), l ≤ d → deepF (fun i => (f i).lev) (l, d) t.words = (l, max d (l + ((t.sub f).lev : Int)))
  | .nil, l, d, h => by
    show (l, d) = (l, max d (l + ((0 : Nat) : Int)))
    rw [show max d (l + ((0 : Nat) : Int)) = d by omega]
  | .lf c n r, l, d, h => by
    show deepF _ (deepS _ (l, d) (.wd (.lt c n))) r.words = _
    have e : deepS (fun i => (f i).lev) (l, d) (.wd (.lt c n)) = (l, d) := by
      show (l + 0, max d (l + 0 + 0)) = _
      rw [show l + 0 = l by omega, show max d (l + 0) = d by omega]
    rw [e]
    exact deep_tree f r l d h
  | .nm i r, l, d, h => by
    show deepF _ (deepS _ (l, d) (.nm i)) r.words = _
    have e : deepS (fun i => (f i).lev) (l, d) (.nm i) = (l, max d (l + ((f i).lev : Int))) := by
      show (l + 0, max d (l + 0 + ((f i).lev : Int))) = _
      rw [show l + 0 = l by omega]
    rw [e, deep_tree f r l _ (by omega)]
    show _ = (l, max d (l + (((f i).app (r.sub f)).lev : Int)))
    rw [Ns.app_levp]
    congr 1
    omega
  | .rp b n r, l, d, h => by
    show deepF _ (deepS _ (l, d) (.wd .op)) (b.words ++ Nw.wd (.cl n) :: r.words) = _
    have e : deepS (fun i => (f i).lev) (l, d) (.wd .op) = (l + 1, max d (l + 1)) := by
      show (l + 1, max d (l + 1 + 0)) = _
      rw [show l + 1 + 0 = l + 1 by omega]
    rw [e]
    unfold deepF
    rw [List.foldl_append]
    have ib := deep_tree f b (l + 1) (max d (l + 1)) (by omega)
    unfold deepF at ib
    rw [ib, List.foldl_cons]
    have e2 : ∀ z : Int, l + 1 ≤ z → deepS (fun i => (f i).lev) (l + 1, z) (.wd (.cl n)) = (l, z) := by
      intro z hz
      show (l + 1 + (0 - 1), max z (l + 1 + (0 - 1) + 0)) = _
      rw [show l + 1 + (0 - 1) = l by omega, show max z (l + 0) = z by omega]
    rw [e2 _ (by omega)]
    have ir := deep_tree f r l (max (max d (l + 1)) (l + 1 + ((b.sub f).lev : Int))) (by omega)
    unfold deepF at ir
    rw [ir]
    show _ = (l, max d (l + ((max (1 + (b.sub f).lev) (r.sub f).lev : Nat) : Int)))
    congr 1
    omega
/-- how many words: those of names counted as what they stand for -/
def manyF (g : Nat → Nat) (ws : List Nw) : Nat := (ws.map (nwN 1 g)).sum
theorem many_words (f : Nat → Ps) : ∀ ws : List Nw, manyF (fun i => (f i).words.length) ws = (ws.flatMap (Nw.flat f)).length
  | [] => rfl
  | x :: ws => by
    have ih := many_words f ws
    unfold manyF at ih ⊢
    rw [List.map_cons, List.sum_cons, ih, List.flatMap_cons, List.length_append]
    cases x <;> rfl
end WM

set_option Elab.async false
set_option linter.all false
set_option maxRecDepth 100000
set_option maxHeartbeats 4000000
set_option exponentiation.threshold 3000
namespace WM
open PySem PySem.Spec PyProof.Rows L2 TL
/-- a name's text -/
def nmS (l : List Nat) : Str := ⟨l.toArray⟩
theorem nmS_inj {l k : List Nat} (e : nmS l = nmS k) : l = k := by
  have := congrArg tl e
  exact this
def nvs (L : List (List Nat)) : List V := L.map fun l => V.str (nmS l)
theorem inV_strs (x : Str) : ∀ ys : List Str, inV (.str x) (ys.map V.str) = decide (x ∈ ys)
  | [] => rfl
  | y :: ys => by
    show (eqV (.str y) (.str x) || inV (.str x) (ys.map V.str)) = _
    rw [inV_strs x ys]
    have e : eqV (.str y) (.str x) = decide (x = y) := by
      show (y == x) = _
      by_cases h : x = y
      · subst h
        rw [decide_eq_true rfl]
        exact beq_self_eq_true _
      · rw [decide_eq_false h]
        exact beq_false_of_ne (Ne.symm h)
    rw [e]
    by_cases h : x = y
    · rw [decide_eq_true h, decide_eq_true (List.mem_cons.mpr (.inl h))]
      rfl
    · rw [decide_eq_false h, Bool.false_or]
      exact decide_eq_decide.mpr ⟨fun z => List.mem_cons_of_mem _ z, fun z => (List.mem_cons.mp z).resolve_left h⟩
theorem nvs_map (L : List (List Nat)) : nvs L = (L.map nmS).map V.str := by
  unfold nvs
  rw [List.map_map]
  rfl
theorem nm_mem {l : List Nat} {L : List (List Nat)} : nmS l ∈ L.map nmS ↔ l ∈ L :=
  ⟨fun h => by
    obtain ⟨k, hk, e⟩ := List.mem_map.mp h
    exact nmS_inj e ▸ hk, fun h => List.mem_map.mpr ⟨l, h, rfl⟩⟩
theorem flat_strs (ys : List Str) : (ys.map V.str).all flatV = true := List.all_eq_true.mpr fun v hv => by
  obtain ⟨y, _, rfl⟩ := List.mem_map.mp hv
  rfl
theorem abc_at {u : Nat} (h : u < 26) : ("abcdefghijklmnopqrstuvwxyz" : Str).cps.toList[u]? = some (97 + u) := (by decide : ∀ u < 26, ("abcdefghijklmnopqrstuvwxyz" : Str).cps.toList[u]? = some (97 + u)) u h
theorem join_ones (l : List Nat) : Txt.join "" (l.map fun c => (⟨#[c]⟩ : Str)) = nmS l := by
  refine ext_tl ?_
  rw [join_eq, tl_join]
  have f : ∀ l : List Nat, joinL (tl ("" : Str)) ((l.map fun c => (⟨#[c]⟩ : Str)).map tl) = l := by
    intro l
    induction l with
    | nil => rfl
    | cons c l ih =>
      cases l with
      | nil => rfl
      | cons d l => exact congrArg (fun z => c :: z) ih
  rw [f]
  rfl
theorem ones_len (l : List Nat) : (((l.map fun c => (⟨#[c]⟩ : Str))).map (·.length)).sum = l.length := by
  induction l with
  | nil => rfl
  | cons c l ih =>
    rw [List.map_cons, List.map_cons, List.sum_cons, ih]
    show 1 + l.length = l.length + 1
    omega

/-! ### words with names, as texts -/
def nmAt (NL : List (List Nat)) (i : Nat) : List Nat := NL.getD i []
def Nw.str (NL : List (List Nat)) : Nw → Str
  | .wd x => x.str
  | .nm i => nmS (nmAt NL i)
def Nw.okN (k : Nat) : Nw → Prop
  | .wd x => x.ok
  | .nm i => i < k
structure Names (NL : List (List Nat)) (m : Nat) : Prop where
  len : NL.length = m
  nod : NL.Nodup
  low : ∀ l ∈ NL, LN.LowN l
  most : m ≤ 19
theorem Names.at {NL : List (List Nat)} {m i : Nat} (h : Names NL m) (hi : i < m) : NL[i]? = some (nmAt NL i) := by
  have hl : i < NL.length := by rw [h.len]; exact hi
  unfold nmAt
  rw [List.getD_eq_getElem?_getD, List.getElem?_eq_getElem hl]
  rfl
theorem Names.atLow {NL : List (List Nat)} {m i : Nat} (h : Names NL m) (hi : i < m) : LN.LowN (nmAt NL i) := h.low _ (List.mem_of_getElem? (h.at hi))
theorem Names.inj {NL : List (List Nat)} {m i j : Nat} (h : Names NL m) (hi : i < m) (hj : j < m) (e : nmAt NL i = nmAt NL j) : i = j := by
  have a := h.at hi
  have b := h.at hj
  rw [e] at a
  have hl : i < NL.length := by rw [h.len]; exact hi
  exact (List.getElem?_inj hl h.nod).mp (a.trans b.symm)
theorem words_okN {k : Nat} : ∀ t : Ns, t.ok k → ∀ x ∈ t.words, x.okN k
  | .nil, _, x, hx => nomatch hx
  | .lf c n r, h, x, hx => by
    rcases List.mem_cons.mp hx with rfl | hx
    · exact h.1
    · exact words_okN r h.2 x hx
  | .nm i r, h, x, hx => by
    rcases List.mem_cons.mp hx with rfl | hx
    · exact h.1
    · exact words_okN r h.2 x hx
  | .rp b n r, h, x, hx => by
    rcases List.mem_cons.mp hx with rfl | hx
    · trivial
    · rcases List.mem_append.mp hx with hx | hx
      · exact words_okN b h.2.1 x hx
      · rcases List.mem_cons.mp hx with rfl | hx
        · exact h.2.2.1
        · exact words_okN r h.2.2.2 x hx
theorem six_low {c : Nat} (h : c ∈ six) : 97 ≤ c ∧ c ≤ 122 := (by decide : ∀ c ∈ six, 97 ≤ c ∧ c ≤ 122) c h
theorem nm_ne {l : List Nat} (h : LN.LowN l) (x : Wd) (hx : x.ok) : nmS l ≠ x.str := by
  intro z
  have e : l = x.cps := congrArg tl z
  obtain ⟨l2, l8, low⟩ := h
  cases x with
  | op =>
    rw [e] at l2
    exact absurd l2 (by decide)
  | cl n =>
    have := low 41 (by rw [e]; exact List.mem_cons_self ..)
    omega
  | lt c n =>
    by_cases h1 : n = 1
    · have e2 : (Wd.lt c n).cps = [c] := if_pos h1
      rw [e, e2] at l2
      exact absurd l2 (by show ¬ 2 ≤ 1; decide)
    · have e2 : (Wd.lt c n).cps = c :: numL n := if_neg h1
      obtain ⟨d, r, en, d1, d2⟩ := numL_head hx.2.1
      have := low d (by rw [e, e2, en]; exact List.mem_cons_of_mem _ (List.mem_cons_self ..))
      omega
theorem nm_len {l : List Nat} (h : LN.LowN l) : (nmS l).length ≤ 8 := h.2.1
theorem wd_cps {x : Wd} (h : x.ok) : ∀ c ∈ x.cps, 40 ≤ c ∧ c ≤ 122 := by
  have num : ∀ n : Nat, ∀ c ∈ numL n, 48 ≤ c ∧ c ≤ 57 := fun n c hc => Classical.byContradiction fun no => numL_free (n := n) (s := c) (by omega) hc
  intro c hc
  cases x with
  | op =>
    have := List.mem_singleton.mp hc
    omega
  | cl n =>
    rcases List.mem_cons.mp hc with rfl | hc
    · omega
    · have := num n c hc
      omega
  | lt d n =>
    have sd := six_low h.1
    by_cases h1 : n = 1
    · rw [show (Wd.lt d n).cps = [d] from if_pos h1] at hc
      have := List.mem_singleton.mp hc
      omega
    · rw [show (Wd.lt d n).cps = d :: numL n from if_neg h1] at hc
      rcases List.mem_cons.mp hc with rfl | hc
      · omega
      · have := num n c hc
        omega
theorem nw_cps {NL : List (List Nat)} {m : Nat} (hN : Names NL m) {x : Nw} (h : x.okN m) : (∀ c ∈ tl (x.str NL), 40 ≤ c ∧ c ≤ 122) ∧ (x.str NL).length ≤ 32 := by
  cases x with
  | wd x => exact ⟨wd_cps h, cps_len h⟩
  | nm i =>
    have lo := hN.atLow h
    exact ⟨fun c hc => by have := lo.2.2 c hc; omega, Nat.le_trans lo.2.1 (by decide)⟩
def wsS (NL : List (List Nat)) (ws : List Nw) : List Str := ws.map (Nw.str NL)
def wsV (NL : List (List Nat)) (ws : List Nw) : List V := ws.map fun x => V.str (x.str NL)
theorem wsV_map (NL : List (List Nat)) (ws : List Nw) : wsV NL ws = (wsS NL ws).map V.str := by
  unfold wsV wsS
  rw [List.map_map]
  rfl
theorem in_names {NL : List (List Nat)} {m : Nat} (hN : Names NL m) {x : Nw} (h : x.okN m) : inV (.str (x.str NL)) (nvs NL) = (match x with | .wd _ => false | .nm _ => true) := by
  rw [nvs_map, inV_strs]
  cases x with
  | wd x =>
    refine decide_eq_false fun z => ?_
    obtain ⟨l, hl, e⟩ := List.mem_map.mp z
    exact nm_ne (hN.low l hl) x h e
  | nm i => exact decide_eq_true (nm_mem.mpr (List.mem_of_getElem? (hN.at h)))
/-- the text of a line's words -/
def rowS (NL : List (List Nat)) (ws : List Nw) : Str := Str.join " " (wsS NL ws)
theorem wsS_emb (NL : List (List Nat)) (p : Ps) : wsS NL (Ns.emb p).words = p.words.map Wd.str := by
  unfold wsS
  rw [Ns.emb_words, List.map_map]
  rfl
theorem wsV_emb (NL : List (List Nat)) (p : Ps) : wsV NL (Ns.emb p).words = wstrs p.words := by
  unfold wsV wstrs
  rw [Ns.emb_words, List.map_map]
  rfl
end WM

set_option Elab.async false
set_option linter.all false
set_option maxRecDepth 100000
set_option maxHeartbeats 4000000
set_option exponentiation.threshold 3000
namespace K09P
open PySem PySem.Spec PyProof.Rows L2 RT WM K09 TL
abbrev NQ : List Str := ["bag", "many", "found", "size", "name", "k"]
theorem scQ : FnScope NQ ["bag", "many"] (defScope s_law_names) := ⟨rfl, rfl, rfl, by decide +kernel, rfl, by decide +kernel, by decide +kernel⟩
theorem at_mods {u : Int} (h0 : 0 ≤ u) (h : u < 2) : atI [V.int 3, V.int 26] u = some (.int (LN.mods u)) := by
  have e : u = 0 ∨ u = 1 := by omega
  rcases e with rfl | rfl
  · exact atI_nat (j := 0) rfl
  · exact atI_nat (j := 1) rfl
section
variable {P : Program} {w : World} {K : PySem.W.Frag} {mg : Str → Option Value} {base : Heap}
def spNames : Sp := fun vs H Q _ => ∃ (b : Addr) (m Lb : Nat) (A B : Int) (c : Nat), vs = [.ref b, .int (m : Int)] ∧ m ≤ 19 ∧ BgX H b A B c ∧ LN.Dry Lb 0 A ∧ Lb ≤ 2000000 ∧ c ≤ 1000 ∧
  ∀ (f : Addr) (L : List (List Nat)) (c' : Nat) H', Keep b H H' → Bg H' b c' → c' ≤ 100000000000000000000 → L.length = m → L.Nodup → (∀ l ∈ L, LN.LowN l) → H f = none → H' f = some (.lst (nvs L)) → Q (.ref f) H'
theorem ok_names (D : Ds K) (T : Tx K mg) : FnOk P w K mg base CX0 2 (d_law_names.adr K) D.fd__law_names ["bag", "many"] spNames := by
  have GP : FnOk P w K mg base CX0 1 _ _ _ spPickX := ok_pickX D T
  refine D.F__law_names.ok scQ (fun vs H Q E h => ?_) (fun cdv A outer s H vs Q E hr h => ?_)
  · obtain ⟨b, m, Lb, A1, B, c, rfl, _⟩ := h
    rfl
  · obtain ⟨b, m, Lb, A1, B, c0, rfl, hm, hb, dry0, hL, hc0, q⟩ := h
    have nd := scQ.nd
    refine ⟨_, PSs.nox (pss_cons (ps_set (i := 2) nd rfl (.inl rfl) (pe_lst pa_nil))
        (pss_cons (ps_while PassesOwn.never (pt_cmpR op_lt (pe_callB call_len_seq (by rfl) T.z_len PySem.boot_len (pa_cons (pv 2) pa_nil)) (pv 1) (nomark _))
        (pss_cons (ps_set (i := 3) nd rfl (.inl rfl) (pe_op op_add pe_int (pe_call GP (hr.mono (by decide)) (by rfl) T.g__law_pick D.F__law_pick.kp (b__law_pick D) .nil pass0 (pa_cons (pv 0) (pa_cons pe_int pa_nil)))))
        (pss_cons (ps_set (i := 4) nd rfl (.inl rfl) (pe_join pe_str (pe_lc (own := [(("k" : Str), 5)]) (g := gName 5) (tt := tYes) (te := tOp rIxS (tC (.str "abcdefghijklmnopqrstuvwxyz")) (tCall spPickX [] E0 (tCons (tVar 0) (tCons (tOp (rIxL K) (tLst (tCons (tC (.int 3)) (tCons (tC (.int 26)) tNil))) (tCall spPickX [] E0 (tCons (tVar 0) (tCons (tC (.int 2)) tNil)))) tNil)))) rfl nd (pi_range1 (by rfl) T.z_range (pa_cons (pv 3) pa_nil)) (blkOk_by (own := [(("k" : Str), 5)]) (N := NQ) (sc := defScope s_law_names) (by decide +kernel)) (fun _ _ _ _ _ => (pg_name (i := 5) nd rfl (Or.inl rfl))) (fun _ _ _ _ _ => pts_nil) (fun _ _ _ _ _ => (pe_ix ix_str pe_str (pe_call GP (hr.mono (by decide)) (by rfl) T.g__law_pick D.F__law_pick.kp (b__law_pick D) .nil pass0 (pa_cons (pv 0) (pa_cons (pe_ix ix_list (pe_lst (pa_cons pe_int (pa_cons pe_int pa_nil))) (pe_call GP (hr.mono (by decide)) (by rfl) T.g__law_pick D.F__law_pick.kp (b__law_pick D) .nil pass0 (pa_cons (pv 0) (pa_cons pe_int pa_nil))) (fun _ _ => rfl)) pa_nil))) (fun _ _ => rfl))))))
        (pss_one (ps_if (pt_cmpR op_notIn_seq (pv 4) (pv 2) (by rfl))
        (pss_one (ps_expr (pe_bm PySem.F.plainAttrs_list PySem.F.slot_list_append PySem.F.type_list_append mt_append (pv 2) (pa_cons (pv 4) pa_nil))))
        pss_nil)))))
        (pss_one (ps_ret (pv 2))))), ?_⟩
    have small : ∀ {k : Int}, k.natAbs < 2 ^ 20 → k.natAbs < 2 ^ 1500 := fun h => Nat.lt_of_lt_of_le h (Nat.pow_le_pow_right (by decide) (by decide))
    obtain ⟨C, C1, C2, st⟩ := LN.star B (c0 + Lb)
    refine ⟨by show 0 ≤ sizeLine; decide, fun f hf => ?_⟩
    have sf := same_new (o := .lst []) hf
    have nfb : f ≠ b := Ne.symm (ne_of_none hb.1 hf)
    refine ⟨fun r σ H' => ∃ (L : List (List Nat)) (c : Nat) (A : Int) (z3 z4 : Option V), r = C + 400 - c ∧ Keep b H H' ∧ BgX H' b A B c ∧ c0 ≤ c ∧ c ≤ C + 500 ∧ LN.Dry Lb (c - c0) A ∧ LN.Far B C c A L ∧ L.length ≤ m ∧ L.Nodup ∧ (∀ l ∈ L, LN.LowN l) ∧ H' f = some (.lst (nvs L)) ∧
      σ = [some (.ref b), some (.int (m : Int)), some (.ref f), z3, z4, none],
      ⟨C + 400 - c0, [], c0, A1, none, none, rfl, Same.keep sf, hb.same sf, Nat.le_refl _, by omega, by rw [Nat.sub_self]; exact dry0, ?_, Nat.zero_le _, List.nodup_nil, nofun, upd_same, rfl⟩, fun r σ H' h => ?_⟩
    · by_cases hz : c0 < C
      · exact .inl hz
      · have e0 : C = c0 := by omega
        have l0 : Lb = 0 := by omega
        refine .inr ⟨dry0.zero (by omega), 0, 0, by decide, ?_, nofun⟩
        show c0 = C + 0
        omega
    obtain ⟨L, c, A, z3, z4, rfl, kH, bx, c1, c2, dry, far, lm, nod, low, ef, rfl⟩ := h
    have ln : (nvs L).length = L.length := List.length_map ..
    by_cases hfull : L.length = m
    · refine ⟨_, rfl, f, _, rfl, .inl (lstL ef), _, rfl, _, _, rfl, rfl, false, congrArg V.bl (decide_eq_false (by rw [ln]; omega)), iteF ⟨_, rfl, ?_⟩⟩
      exact q f L c H' kH bx.bg (by omega) hfull nod low hf ef
    have few : L.length < 19 := by omega
    have fe := LN.far_end far few
    refine ⟨_, rfl, f, _, rfl, .inl (lstL ef), _, rfl, _, _, rfl, rfl, true, congrArg V.bl (decide_eq_true (by rw [ln]; omega)), iteT ?_⟩
    refine ⟨fun σ' H'' => ∃ (L' : List (List Nat)) (c' : Nat) (A' : Int) (z3 z4 : Option V), c < c' ∧ Keep b H H'' ∧ BgX H'' b A' B c' ∧ c0 ≤ c' ∧ c' ≤ C + 500 ∧ LN.Dry Lb (c' - c0) A' ∧ LN.Far B C c' A' L' ∧ L'.length ≤ m ∧ L'.Nodup ∧ (∀ l ∈ L', LN.LowN l) ∧ H'' f = some (.lst (nvs L')) ∧
      σ' = [some (.ref b), some (.int (m : Int)), some (.ref f), z3, z4, none],
      fun σ' H'' h => ?_, ?_⟩
    · obtain ⟨L', c', A', z3, z4, g0, g1, g2, g3, g4, g5, g6, g7, g8, g9, g10, rfl⟩ := h
      exact ⟨C + 400 - c', by omega, L', c', A', z3, z4, rfl, g1, g2, g3, g4, g5, g6, g7, g8, g9, g10, rfl⟩
    -- size
    refine ⟨_, rfl, b, 7, A, B, c, rfl, bx, by omega, by decide, small (by decide), fun H2 k2 b2 => ⟨_, _, rfl, rfl, ?_⟩⟩
    obtain ⟨z, hz⟩ : ∃ z, z = LN.drawn B A c 7 := ⟨_, rfl⟩
    have z7 := LN.drawn_lt (B := B) (A := A) (c := c) (m := 7) (by decide)
    rw [← hz] at z7
    obtain ⟨s, hs⟩ : ∃ s : Nat, (s : Int) = 2 + z := ⟨(2 + z).toNat, Int.toNat_of_nonneg (by omega)⟩
    have b2' : BgX H2 b (LN.rest A 7) B (c + 1) := b2
    clear b2
    have dry2 : LN.Dry Lb (c + 1 - c0) (LN.rest A 7) := by
      have := dry.step (m := 7) (by decide)
      rw [show c + 1 - c0 = c - c0 + 1 by omega]
      exact this
    show Ends.nx _ [some (.ref b), some (.int (m : Int)), some (.ref f), some (.int (2 + LN.drawn B A c 7)), z4, none] _
    rw [← hz, ← hs]
    obtain ⟨D2, eD2⟩ : ∃ D2, D2 = LN.rest A 7 := ⟨_, rfl⟩
    rw [← eD2] at b2' dry2
    have ef2 := k2 _ _ nfb ef
    have kH2 := kH.trans k2
    -- the letters
    refine ⟨⟨_, rfl⟩, _, rfl, (s : Int), rfl, by omega, by omega, fun D hD => lc_range (lo := 0) (n := s) (fun j H' => ∃ (l : List Nat) (Aj : Int), Keep b H2 H' ∧ BgX H' b Aj B (c + 1 + 2 * j) ∧ LN.Dry Lb (c + 1 + 2 * j - c0) Aj ∧ LN.RowI B C (c + 1) D2 j Aj l ∧ H' D = some (.lst ((l.map fun c => (⟨#[c]⟩ : Str)).map V.str)))
        ⟨[], D2, Same.keep (same_new hD), b2'.same (same_new hD), dry2, LN.RowI.start .., upd_same⟩ (fun j H4 hj p => ?_) fun H4 p => ?_⟩
    · obtain ⟨l, Aj, k4, b4, dry4, row, e4⟩ := p
      have ndb : D ≠ b := Ne.symm (ne_of_none b2'.1 hD)
      refine ⟨rfl, _, rfl, by show 2 ≤ sizeLine; decide, fun a ha => ?_⟩
      have sa := same_new (o := .lst [.int 3, .int 26]) ha
      have nab : a ≠ b := Ne.symm (ne_of_none b4.1 ha)
      refine ⟨_, rfl, b, 2, Aj, B, _, rfl, b4.same sa, by omega, by decide, small (by decide), fun H5 k5 b5 => ?_⟩
      obtain ⟨w0, hw⟩ : ∃ w0, w0 = LN.drawn B Aj (c + 1 + 2 * j) 2 := ⟨_, rfl⟩
      have w2 := LN.drawn_lt (B := B) (A := Aj) (c := c + 1 + 2 * j) (m := 2) (by decide)
      rw [← hw] at w2
      have b5' : BgX H5 b (LN.rest Aj 2) B (c + 1 + 2 * j + 1) := b5
      have mm : 2 ≤ LN.mods w0 ∧ LN.mods w0 ≤ 26 := by
        unfold LN.mods
        split <;> decide
      show rIxL K (.ref a) (.int (LN.drawn B Aj (c + 1 + 2 * j) 2)) H5 _
      rw [← hw]
      refine ⟨a, _, w0, _, rfl, rfl, lstL (k5 _ _ nab upd_same), at_mods w2.1 w2.2, b, LN.mods w0, _, B, _, rfl, b5', by omega, by omega, small (by omega), fun H6 k6 b6 => ?_⟩
      have b6' : BgX H6 b (LN.rest (LN.rest Aj 2) (LN.mods w0)) B (c + 1 + 2 * j + 1 + 1) := b6
      obtain ⟨u0, hu⟩ : ∃ u0, u0 = LN.drawn B (LN.rest Aj 2) (c + 1 + 2 * j + 1) (LN.mods w0) := ⟨_, rfl⟩
      have u26 := LN.drawn_lt (B := B) (A := LN.rest Aj 2) (c := c + 1 + 2 * j + 1) (m := LN.mods w0) (by omega)
      rw [← hu] at u26
      obtain ⟨u, eu⟩ := Int.eq_ofNat_of_zero_le u26.1
      show rIxS (.str "abcdefghijklmnopqrstuvwxyz") (.int (LN.drawn B (LN.rest Aj 2) (c + 1 + 2 * j + 1) (LN.mods w0))) H6 _
      rw [← hu, eu]
      refine ⟨_, _, 97 + u, rfl, rfl, by decide, atI_nat (abc_at (by omega)), ?_⟩
      have ka : Keep b H4 H6 := (Same.keep sa).trans (k5.trans k6)
      have rowS := row.step st (u := u) (by rw [← hw, ← hu, eu])
      rw [← hw] at rowS
      refine ⟨_, ka _ _ ndb e4, ?_, l ++ [97 + u], _, ?_, ?_, ?_, rowS, ?_⟩
      · rw [List.length_map, List.length_map, row.len]
        exact Nat.lt_of_lt_of_le (show j < 10 by omega) (by decide)
      · intro x o hx e
        rw [upd_ne (ne_of_none e hD)]
        exact (k4.trans ka) x o hx e
      · rw [show c + 1 + 2 * (j + 1) = c + 1 + 2 * j + 1 + 1 by omega]
        exact ⟨(upd_ne (Ne.symm ndb)).trans b6'.1, b6'.2⟩
      · have d5 := (dry4.step (m := 2) (by decide)).step mm.1
        rw [show c + 1 + 2 * (j + 1) - c0 = c + 1 + 2 * j - c0 + 1 + 1 by omega]
        exact d5
      · rw [upd_same, List.map_append, List.map_append]
        rfl
    obtain ⟨l, Aj, k4, b4, dry4, row, e4⟩ := p
    refine ⟨_, D, _, rfl, rfl, .inl (lstL e4), ?_, ?_⟩
    · rw [ones_len, row.len]
      show s + _ * 0 ≤ _
      omega
    rw [WM.join_ones]
    have ef4 := k4 _ _ nfb ef2
    have lowl : LN.LowN l := ⟨by rw [row.len]; omega, by rw [row.len]; omega, row.low⟩
    have kk := kH2.trans k4
    refine ⟨_, rfl, _, rfl, f, _, rfl, .inl (lstL ef4), rfl, ?_, _, rfl, ?_⟩
    · rw [nvs_map]
      exact flat_strs _
    rw [nvs_map, inV_strs]
    by_cases hin : l ∈ L
    · rw [decide_eq_true (nm_mem.mpr hin)]
      refine iteF ⟨L, c + 1 + 2 * s, Aj, _, _, by omega, kk, b4, by omega, by omega, dry4, LN.far_turn st C1 c1 far (by rw [hs, hz]) (eD2 ▸ row) dry4 (fun x h => h) hin, lm, nod, low, ef4, rfl⟩
    · rw [decide_eq_false (fun z => hin (nm_mem.mp z))]
      refine iteT ⟨_, rfl, .inl ⟨rfl, _, lstL ef4⟩, _, rfl, f, _, _, rfl, rfl, ef4, ?_, ?_⟩
      · rw [ln]
        exact Nat.lt_of_lt_of_le few (by decide)
      have hmem : l ∈ L ++ [l] := List.mem_append_right _ (List.mem_cons_self ..)
      refine ⟨L ++ [l], c + 1 + 2 * s, Aj, _, _, by omega, ?_, ⟨(upd_ne (Ne.symm nfb)).trans b4.1, b4.2⟩, by omega, by omega, dry4, LN.far_turn st C1 c1 far (by rw [hs, hz]) (eD2 ▸ row) dry4 (fun x h => List.mem_append_left _ h) hmem, ?_, ?_, ?_, ?_, rfl⟩
      · intro x o hx e
        rw [upd_ne (ne_of_none e hf)]
        exact kk x o hx e
      · rw [List.length_append]
        show L.length + 1 ≤ m
        omega
      · refine List.nodup_append.mpr ⟨nod, List.nodup_cons.mpr ⟨(nomatch ·), List.nodup_nil⟩, fun a ha b' hb' z => hin ?_⟩
        rw [← List.mem_singleton.mp hb', ← z]
        exact ha
      · intro x hx
        rcases List.mem_append.mp hx with hx | hx
        · exact low x hx
        · rw [List.mem_singleton.mp hx]
          exact lowl
      · rw [upd_same]
        unfold nvs
        rw [List.map_append]
        rfl
end
end K09P

set_option linter.all false
set_option maxRecDepth 100000
set_option maxHeartbeats 4000000
/-! the steps of a tree -/
namespace WM
open PySem PySem.Spec PyProof.Rows L2 TL
def Ps.steps : Ps → List Nat
  | .nil => []
  | .lf c n r => List.replicate n c ++ r.steps
  | .rp b n r => (List.replicate n b.steps).flatten ++ r.steps
theorem steps_len (p : Ps) : p.steps.length = p.size := by
  induction p with
  | nil => rfl
  | lf c n r ih => simp [Ps.steps, Ps.size, ih]
  | rp b n r ihb ih => simp [Ps.steps, Ps.size, ih, ihb, Nat.mul_comm]
theorem app_steps (p q : Ps) : (p.app q).steps = p.steps ++ q.steps := by
  induction p with
  | nil => rfl
  | lf c n r ih => simp [Ps.app, Ps.steps, ih]
  | rp b n r _ ih => simp [Ps.app, Ps.steps, ih]
theorem size_pos {p : Ps} (h : p.ok) (hn : p ≠ .nil) : 1 ≤ p.size := by
  induction p with
  | nil => exact absurd rfl hn
  | lf c n r ih =>
    have := h.1.2.1
    simp only [Ps.size]
    omega
  | rp b n r ihb ih =>
    have h1 := ihb h.2.1 h.1
    have h2 := h.2.2.1.1
    have : 1 * 2 ≤ b.size * n := Nat.mul_le_mul h1 h2
    simp only [Ps.size]
    omega
/-- not many words for so many steps -/
theorem words_few {p : Ps} (h : p.ok) : p.words.length + 1 ≤ 2 * p.size ∨ p = .nil := by
  induction p with
  | nil => exact .inr rfl
  | lf c n r ih =>
    refine .inl ?_
    have h2 := h.1.2.1
    have e1 : (Ps.lf c n r).words.length = r.words.length + 1 := rfl
    have e2 : (Ps.lf c n r).size = n + r.size := rfl
    rcases ih h.2 with h1 | rfl
    · omega
    · have e3 : Ps.nil.words.length = 0 := rfl
      have e4 : Ps.nil.size = 0 := rfl
      omega
  | rp b n r ihb ih =>
    refine .inl ?_
    have h3 := h.2.2.1.1
    have h4 := size_pos h.2.1 h.1
    have h5 : b.size * 2 ≤ b.size * n := Nat.mul_le_mul_left _ h3
    have e1 : (Ps.rp b n r).words.length = b.words.length + (r.words.length + 1) + 1 := by
      simp only [Ps.words, List.length_cons, List.length_append]
    have e2 : (Ps.rp b n r).size = b.size * n + r.size := rfl
    have h1 : b.words.length + 1 ≤ 2 * b.size := (ihb h.2.1).resolve_right h.1
    rcases ih h.2.2.2 with h2 | rfl
    · omega
    · have e3 : Ps.nil.words.length = 0 := rfl
      have e4 : Ps.nil.size = 0 := rfl
      omega
theorem mul_ok {x : Str} {n : Int} (hx : x.length ≤ 5000) (h0 : 0 ≤ n) (h1 : n ≤ 20) : MulOk x n := by
  refine ⟨?_, fun hn _ => ?_, fun hn _ => ?_⟩
  · rw [decide_eq_false (by omega), decide_eq_false (by omega)]
    rfl
  · intro h
    have : (2 ^ 63 - 1 : Int) / n ≥ 5000 := by
      rw [ge_iff_le, Int.le_ediv_iff_mul_le (by omega)]
      omega
    omega
  · show decide (x.length * n.toNat > sizeLine) = false
    refine decide_eq_false ?_
    have h2 : x.length * n.toNat ≤ 5000 * 20 := Nat.mul_le_mul hx (by omega)
    have h3 : 5000 * 20 ≤ sizeLine := by decide
    omega
theorem foldl_any (x : Array Nat) : ∀ (k : Nat) (acc : Array Nat), ((List.replicate k x).foldl (· ++ ·) acc).toList = acc.toList ++ (List.replicate k x.toList).flatten
  | 0, acc => by simp
  | k + 1, acc => by
    rw [List.replicate_succ, List.foldl_cons, foldl_any x k]
    simp [List.replicate_succ]
theorem tl_mul (x : Str) (n : Nat) : tl (Txt.mul x (n : Int)) = (List.replicate n (tl x)).flatten := by
  unfold Txt.mul
  by_cases h1 : (n : Int) < 1
  · rw [if_pos h1]
    have e : n = 0 := by omega
    subst e
    rfl
  · rw [if_neg h1]
    by_cases h2 : n = 1
    · subst h2
      rw [if_pos (by rfl)]
      simp
    · by_cases h3 : x.length = 0
      · rw [if_pos (by rw [h3]; simp)]
        have e : tl x = [] := by
          rw [WM.len_tl] at h3
          exact List.length_eq_zero_iff.mp h3
        rw [e]
        simp
      · have e : ((n : Int) == 1 || x.length == 0) = false := by
          have a1 : ((n : Int) == 1) = false := by simpa using (by omega : ¬ (n : Int) = 1)
          have a2 : (x.length == 0) = false := by simpa using h3
          rw [a1, a2]
          rfl
        rw [if_neg (by rw [e]; decide)]
        show ((List.replicate ((n : Int)).toNat x.cps).foldl (· ++ ·) #[]).toList = _
        rw [foldl_any]
        simp
def stS (p : Ps) : Str := ⟨p.steps.toArray⟩
theorem st_len (p : Ps) : (stS p).length = p.size := by
  rw [WM.len_tl]
  exact steps_len p
theorem st_lf (p : Ps) (c n : Nat) : stS p ++ Txt.mul ⟨#[c]⟩ (n : Int) = stS (p.app (.lf c n .nil)) := by
  refine ext_tl ?_
  rw [tl_append, tl_mul]
  show p.steps ++ (List.replicate n [c]).flatten = (p.app (.lf c n .nil)).steps
  rw [app_steps]
  show _ = p.steps ++ (List.replicate n c ++ [])
  rw [List.append_nil]
  congr 1
  induction n with
  | zero => rfl
  | succ n ih => simp [List.replicate_succ, ih]
theorem st_rp (p b : Ps) (n : Nat) : stS p ++ Txt.mul (stS b) (n : Int) = stS (p.app (.rp b n .nil)) := by
  refine ext_tl ?_
  rw [tl_append, tl_mul]
  show p.steps ++ (List.replicate n b.steps).flatten = (p.app (.rp b n .nil)).steps
  rw [app_steps]
  show _ = p.steps ++ ((List.replicate n b.steps).flatten ++ [])
  rw [List.append_nil]
theorem word_lf (c n : Nat) (h : 1 ≤ n) : (⟨#[c]⟩ : Str) ++ Txt.mul (Str.ofString (toString ((n : Nat) : Int))) (if decide ((n : Int) > 1) = true then 1 else 0) = (Wd.lt c n).str := by
  refine ext_tl ?_
  rw [tl_append]
  by_cases h1 : n = 1
  · subst h1
    rfl
  · rw [decide_eq_true (show (n : Int) > 1 by omega), if_pos rfl]
    have e := tl_mul (Str.ofString (toString ((n : Nat) : Int))) 1
    rw [show ((1 : Nat) : Int) = 1 from rfl] at e
    rw [e, tl_num]
    show [c] ++ (List.replicate 1 (numL n)).flatten = if n = 1 then [c] else c :: numL n
    rw [if_neg h1]
    simp
theorem word_cl (n : Nat) : (")" : Str) ++ Str.ofString (toString ((n : Nat) : Int)) = (Wd.cl n).str := by
  refine ext_tl ?_
  rw [tl_append, tl_num]
  rfl
end WM

set_option Elab.async false
set_option linter.all false
set_option maxRecDepth 100000
set_option maxHeartbeats 4000000
set_option exponentiation.threshold 3000
namespace K09P
open PySem PySem.Spec PyProof.Rows L2 RT WM K09 TL
theorem word_two (c : Nat) {n : Nat} (h : n ≠ 1) : (⟨#[c]⟩ : Str) ++ Str.ofString (toString ((n : Nat) : Int)) = (Wd.lt c n).str := by
  refine ext_tl ?_
  rw [tl_append, tl_num]
  show [c] ++ numL n = if n = 1 then [c] else c :: numL n
  rw [if_neg h]
  rfl
theorem word_one (c : Nat) : (⟨#[c]⟩ : Str) ++ ("" : Str) = (Wd.lt c 1).str := by
  refine ext_tl ?_
  rw [tl_append]
  rfl
theorem Keep.freeB {t : Addr} {H H' : Hp} {p : Addr} (e : Keep t H H') (h : H' p = none) (n : p ≠ t) : H p = none := by
  cases q : H p with
  | none => rfl
  | some o =>
    rw [e p o n q] at h
    cases h
theorem ifAnd3 {A B C : TT} {T E : TS} {D : Ends} {σ : L2.St} {H : Hp} {a b c : Bool} (hA : ∀ Q : Bool → Hp → Prop, Q a H → A σ H Q) (hB : ∀ Q : Bool → Hp → Prop, Q b H → B σ H Q) (hC : ∀ Q : Bool → Hp → Prop, Q c H → C σ H Q) (hT : a = true → b = true → c = true → T D σ H) (hE : ¬ (a = true ∧ b = true ∧ c = true) → E D σ H) : tIfS (tAnd A (tAnd B C)) T E D σ H := by
  refine hA _ ?_
  cases a with
  | false => exact iteF (hE (fun z => Bool.false_ne_true z.1))
  | true =>
    refine iteT (hB _ ?_)
    cases b with
    | false => exact iteF (hE (fun z => Bool.false_ne_true z.2.1))
    | true =>
      refine iteT (hC _ ?_)
      cases c with
      | false => exact iteF (hE (fun z => Bool.false_ne_true z.2.2))
      | true => exact iteT (hT rfl rfl rfl)
section
variable {P : Program} {w : World} {K : PySem.W.Frag} {mg : Str → Option Value} {base : Heap}
def spLW (d : Nat) : Sp := fun vs H Q _ => ∃ (b : Addr) (m dp : Nat) (S : Str) (f : Int) (c : Nat), vs = [.ref b, .int (m : Int), .int (dp : Int), .str S, .int f] ∧ dp < d ∧ Bg H b c ∧ c + 20 * m ≤ 9000000000000000000000 ∧ 1 ≤ m ∧ m ≤ 1000 ∧ (∀ x ∈ S.cps.toList, x ∈ six) ∧ 1 ≤ S.length ∧ S.length ≤ 10 ∧ 0 ≤ f ∧ f ≤ 1 ∧
  ∀ (wl : Addr) (p : Ps) (c' : Nat) H', Keep b H H' → Bg H' b c' → c ≤ c' → c' ≤ c + 1 + 10 * p.words.length → p.ok → p.lev ≤ dp → 1 ≤ p.words.length → p.words.length ≤ m → H wl = none → H' wl = some (.lst (wstrs p.words)) → Q (.ref wl) H'
theorem ok_lw (D : Ds K) (T : Tx K mg) : ∀ d, FnOk P w K mg base CX0 (3 + d) (d_law_words.adr K) D.fd__law_words ["bag", "most", "deep", "letters", "far"] (spLW d) := by
  have GP : FnOk P w K mg base CX0 1 _ _ _ spPick := ok_pick D T
  have GN : FnOk P w K mg base CX0 2 _ _ _ spNumber := ok_number D T
  intro d
  induction d with
  | zero =>
    refine D.F__law_words.ok sc_law_words (fun vs H Q E h => ?_) (fun cdv A outer s H vs Q E hr h => ?_)
    · obtain ⟨b, m, dp, S, f, c, rfl, _⟩ := h
      rfl
    · obtain ⟨b, m, dp, S, f, c, rfl, h0, _⟩ := h
      exact absurd h0 (Nat.not_lt_zero _)
  | succ d ih =>
  refine D.F__law_words.ok sc_law_words (fun vs H Q E h => ?_) (fun cdv A outer s H vs Q E hr h => ?_)
  · obtain ⟨b, m, dp, S, f, c, rfl, _⟩ := h
    rfl
  · obtain ⟨b, m, dp, S, f, c, rfl, hdp, hb, hc, m1, m2, hS, S1, S2, f0, f1, q⟩ := h
    have nd := sc_law_words.nd
    have hr' : Room (3 + d) _ := hr
    have hr1 := hr'.mono (show 1 ≤ 3 + d by omega)
    have hr2 := hr'.mono (show 2 ≤ 3 + d by omega)
    refine ⟨_, PSs.nox (pss_cons (ps_set (i := 5) nd rfl (.inl rfl) (pe_lst pa_nil))
        (pss_cons (ps_set (i := 6) nd rfl (.inl rfl) (pe_op op_add pe_int (pe_call GP hr1 (by rfl) T.g__law_pick D.F__law_pick.kp (b__law_pick D) .nil pass0 (pa_cons (pv 0) (pa_cons (pv 1) pa_nil)))))
        (pss_cons (ps_while PassesOwn.never (pt_cmpR op_lt (pe_callB call_len_seq (by rfl) T.z_len PySem.boot_len (pa_cons (pv 5) pa_nil)) (pv 6) (nomark _))
      (pss_cons (ps_set (i := 7) nd rfl (.inl rfl) (pe_call GP hr1 (by rfl) T.g__law_pick D.F__law_pick.kp (b__law_pick D) .nil pass0 (pa_cons (pv 0) (pa_cons pe_int pa_nil))))
        (pss_cons (ps_set (i := 8) nd rfl (.inl rfl) (pe_op op_sub (pv 6) (pe_callB call_len_seq (by rfl) T.z_len PySem.boot_len (pa_cons (pv 5) pa_nil))))
        (pss_one (ps_if (PW.pt (pw_and (pt_cmpR op_eq (pv 7) pe_int (nomark _)) (pw_and (pt_cmpR op_gt (pv 2) pe_int (nomark _)) (pw_and1 (pt_cmpR op_gt (pv 8) pe_int (nomark _)))))) (pss_cons (ps_set (i := 9) nd rfl (.inl rfl) (pe_call ih hr' (by rfl) T.g__law_words D.F__law_words.kp (b__law_words D) .nil pass0 (pa_cons (pv 0) (pa_cons (pe_op op_sub (pv 8) pe_int) (pa_cons (pe_op op_sub (pv 2) pe_int) (pa_cons (pv 3) (pa_cons (pv 4) pa_nil)))))))
        (pss_one (ps_set (i := 5) nd rfl (.inl rfl) (pe_op op_cat (pe_op op_cat (pe_op op_cat (pv 5) (pe_lst (pa_cons pe_str pa_nil))) (pv 9)) (pe_lst (pa_cons (pe_op op_add_str pe_str (pe_call GN hr2 (by rfl) T.g__law_number D.F__law_number.kp (b__law_number D) .nil pass0 (pa_cons (pv 0) (pa_cons (pv 4) pa_nil)))) pa_nil)))))) (pss_one (ps_expr (pe_bm PySem.F.plainAttrs_list PySem.F.slot_list_append PySem.F.type_list_append mt_append (pv 5) (pa_cons (pe_op op_add_str (pe_ix ix_str (pv 3) (pe_call GP hr1 (by rfl) T.g__law_pick D.F__law_pick.kp (b__law_pick D) .nil pass0 (pa_cons (pv 0) (pa_cons (pe_callB call_len_str (by rfl) T.z_len PySem.boot_len (pa_cons (pv 3) pa_nil)) pa_nil))) (fun _ _ => rfl)) (pe_ix ix_list (pe_lst (pa_cons pe_str (pa_cons (pe_call GN hr2 (by rfl) T.g__law_number D.F__law_number.kp (b__law_number D) .nil pass0 (pa_cons (pv 0) (pa_cons (pv 4) pa_nil))) pa_nil))) (pe_callTy call_int1 (by rfl) T.z_int (by decide +kernel) (pa_cons (pe_cmpR op_eq (pv 7) pe_int (nomark _)) pa_nil)) (fun _ _ => rfl))) pa_nil)))))))))
        (pss_one (ps_ret (pv 5)))))), ?_⟩
    obtain ⟨A0, B0, eb0, _⟩ := id hb
    refine ⟨by show 0 ≤ sizeLine; decide, fun l hl => ?_⟩
    have sl := same_new (o := .lst []) hl
    refine ⟨_, rfl, _, rfl, b, (m : Int), c, rfl, hb.same sl, by omega, by omega, ?_, fun u H1 k1 b1 u0 u1 => ⟨_, _, rfl, rfl, ?_⟩⟩
    · exact Nat.lt_of_lt_of_le (show ((m : Int)).natAbs < 2 ^ 20 by omega) (Nat.pow_le_pow_right (by decide) (by decide))
    obtain ⟨g, rfl⟩ := Int.eq_ofNat_of_zero_le u0
    obtain ⟨M, eM⟩ : ∃ M, M = 1 + g := ⟨_, rfl⟩
    have hMm : M ≤ m := by omega
    show Ends.nx _ [some (.ref b), some (.int (m : Int)), some (.int (dp : Int)), some (.str S), some (.int f), some (.ref l), some (.int (1 + (g : Int))), none, none, none] _
    rw [show (1 : Int) + (g : Int) = (M : Int) by omega]
    have ntl : l ≠ b := Ne.symm (ne_of_none eb0 hl)
    refine ⟨fun r σ H' => ∃ (wl : Addr) (p : Ps) (c' : Nat) (z7 z8 z9 : Option V), r = M - p.words.length ∧ p.words.length ≤ M ∧ Keep b H H' ∧ Bg H' b c' ∧ c ≤ c' ∧ c' ≤ c + 1 + 10 * p.words.length ∧ p.ok ∧ p.lev ≤ dp ∧ H wl = none ∧ H' wl = some (.lst (wstrs p.words)) ∧
      σ = [some (.ref b), some (.int (m : Int)), some (.int (dp : Int)), some (.str S), some (.int f), some (.ref wl), some (.int (M : Int)), z7, z8, z9],
      ⟨M, l, .nil, c + 1, none, none, none, rfl, Nat.zero_le _, (Same.keep sl).trans k1, b1, by omega, by omega, trivial, Nat.zero_le _, hl, k1 _ _ ntl upd_same, rfl⟩, fun r σ H' h => ?_⟩
    obtain ⟨wl, p, c', z7, z8, z9', rfl, hpM, kH, bg, c1, c2, okp, lvp, hw, ew, rfl⟩ := h
    have lw : (wstrs p.words).length = p.words.length := List.length_map ..
    by_cases hfull : p.words.length = M
    · refine ⟨_, rfl, wl, _, rfl, .inl (lstL ew), _, rfl, _, _, rfl, rfl, false, congrArg V.bl (decide_eq_false (by rw [lw]; omega)), iteF ⟨_, rfl, ?_⟩⟩
      exact q wl p c' H' kH bg c1 c2 okp lvp (by omega) (by omega) hw ew
    refine ⟨_, rfl, wl, _, rfl, .inl (lstL ew), _, rfl, _, _, rfl, rfl, true, congrArg V.bl (decide_eq_true (by rw [lw]; omega)), iteT ?_⟩
    obtain ⟨Ab, Bb, ebb, _⟩ := id bg
    have nwb : wl ≠ b := fun z => by
      rw [← z, hw] at eb0
      cases eb0
    have small : ∀ {k : Int}, k.natAbs < 2 ^ 20 → k.natAbs < 2 ^ 1500 := fun h => Nat.lt_of_lt_of_le h (Nat.pow_le_pow_right (by decide) (by decide))
    refine ⟨fun σ' H'' => ∃ (wl : Addr) (p2 : Ps) (c' : Nat) (z7 z8 z9 : Option V), p.words.length < p2.words.length ∧ p2.words.length ≤ M ∧ Keep b H H'' ∧ Bg H'' b c' ∧ c ≤ c' ∧ c' ≤ c + 1 + 10 * p2.words.length ∧ p2.ok ∧ p2.lev ≤ dp ∧ H wl = none ∧ H'' wl = some (.lst (wstrs p2.words)) ∧
      σ' = [some (.ref b), some (.int (m : Int)), some (.int (dp : Int)), some (.str S), some (.int f), some (.ref wl), some (.int (M : Int)), z7, z8, z9],
      fun σ' H'' h => ?_, ?_⟩
    · obtain ⟨wl, p2, c', z7, z8, z9, g1, g2, g3, g4, g5, g6, g7, g8, g9, g10, rfl⟩ := h
      exact ⟨M - p2.words.length, by omega, wl, p2, c', z7, z8, z9, rfl, g2, g3, g4, g5, g6, g7, g8, g9, g10, rfl⟩
    refine ⟨_, rfl, b, 5, c', rfl, bg, by omega, by omega, small (by decide), fun w0 H2 k2 b2 w1 w2 => ?_⟩
    have ew2 := k2 _ _ nwb ew
    have k2' := kH.trans k2
    refine ⟨_, rfl, _, rfl, wl, _, rfl, .inl (lstL ew2), _, _, rfl, rfl, ?_⟩
    rw [lw]
    dsimp only [List.set_cons_zero, List.set_cons_succ]
    obtain ⟨R, eR⟩ : ∃ R, R = M - p.words.length := ⟨_, rfl⟩
    show tIfS _ _ _ _ [some (.ref b), some (.int (m : Int)), some (.int (dp : Int)), some (.str S), some (.int f), some (.ref wl), some (.int (M : Int)), some (.int w0), some (.int ((M : Int) - (p.words.length : Int))), z9'] _
    rw [show (M : Int) - (p.words.length : Int) = (R : Int) by omega]
    refine ifAnd3 (a := decide (V.int w0 = V.int 0)) (b := decide ((0 : Int) < (dp : Int))) (c := decide ((2 : Int) < (R : Int))) (fun Q h => ⟨_, rfl, rfl, _, rfl, h⟩) (fun Q h => ⟨_, rfl, _, _, rfl, rfl, _, rfl, h⟩) (fun Q h => ⟨_, rfl, _, _, rfl, rfl, _, rfl, h⟩) (fun g1 g2 g3 => ?_) (fun _ => ?_)
    · have d0 : 0 < dp := by have := of_decide_eq_true g2; omega
      have r2 : 2 < R := by have := of_decide_eq_true g3; omega
      refine ⟨_, rfl, _, rfl, _, _, rfl, rfl, _, rfl, _, _, rfl, rfl, _, rfl, _, rfl, b, R - 2, dp - 1, S, f, c' + 1, ?_, by omega, b2, by omega, by omega, by omega, hS, S1, S2, f0, f1, fun wl2 p2 c3 H3 k3 b3 l3 u3 ok3 lv3 n1 n2 nw2 ew3 => ?_⟩
      · show [V.ref b, V.int ((R : Int) - 2), V.int ((dp : Int) - 1), V.str S, V.int f] = _
        rw [show (R : Int) - 2 = ((R - 2 : Nat) : Int) by omega, show (dp : Int) - 1 = ((dp - 1 : Nat) : Int) by omega]
      have ln2 : (wstrs p2.words).length = p2.words.length := List.length_map ..
      obtain ⟨A3, B3, e3, _⟩ := id b3
      have nw2b : wl2 ≠ b := by
        obtain ⟨A2, B2, e2, _⟩ := id b2
        exact Ne.symm (ne_of_none e2 nw2)
      have ew4 := k3 _ _ nwb ew2
      have z1000 : 100000 ≤ sizeLine := by decide
      refine ⟨_, rfl, by show 1 ≤ sizeLine; decide, fun a1 y1 => ?_⟩
      have q1 := same_new (o := .lst [.str "("]) y1
      refine ⟨_, _, _, _, rfl, rfl, q1 _ _ ew4, upd_same, ?_, fun a2 y2 => ?_⟩
      · rw [lw]
        show p.words.length + 1 ≤ sizeLine
        omega
      have q2 := same_new (o := .lst (wstrs p.words ++ [.str "("])) y2
      refine ⟨_, rfl, _, _, _, _, rfl, rfl, upd_same, q2 _ _ (q1 _ _ ew3), ?_, fun a3 y3 => ?_⟩
      · rw [List.length_append, lw, ln2]
        show p.words.length + 1 + p2.words.length ≤ sizeLine
        omega
      have q3 := same_new (o := .lst ((wstrs p.words ++ [.str "("]) ++ wstrs p2.words)) y3
      have b3' := ((b3.same q1).same q2).same q3
      obtain ⟨A4, B4, e4, _⟩ := id b3'
      refine ⟨_, rfl, _, rfl, b, f, c3, rfl, b3', by omega, f0, f1, fun nn H6 k6 b6 n2' nT => ⟨_, _, rfl, rfl, ?_, by show 1 ≤ sizeLine; decide, fun a4 y4 => ?_⟩⟩
      · rw [dgS_eq]
        have := dg_len nT
        have e1 : (")" : Str).length = 1 := rfl
        omega
      have na3 : a3 ≠ b := by
        have eb3 := q2 _ _ (q1 _ _ e3)
        exact Ne.symm (ne_of_none eb3 y3)
      have ea3 := k6 a3 _ na3 upd_same
      have q4 := same_new (o := .lst [.str ((")" : Str) ++ Str.ofString (toString ((nn : Nat) : Int)))]) y4
      refine ⟨_, _, _, _, rfl, rfl, q4 _ _ ea3, upd_same, ?_, fun a5 y5 => ?_⟩
      · rw [List.length_append, List.length_append, lw, ln2]
        show p.words.length + 1 + p2.words.length + 1 ≤ sizeLine
        omega
      have q5 := same_new (o := .lst (((wstrs p.words ++ [.str "("]) ++ wstrs p2.words) ++ [.str ((")" : Str) ++ Str.ofString (toString ((nn : Nat) : Int)))])) y5
      have b7 := b6.same q4
      obtain ⟨A7, B7, e7, _⟩ := id b7
      have kk : Keep b H _ := k2'.trans (k3.trans ((Same.keep (q1.trans (q2.trans q3))).trans (k6.trans (Same.keep q4))))
      have hn2 : p2 ≠ .nil := fun z => by
        rw [z] at n1
        exact absurd n1 (by decide)
      have ewd : (p.app (.rp p2 nn .nil)).words = p.words ++ (.op :: (p2.words ++ [.cl nn])) := WM.app_words _ _
      have lwd : (p.app (.rp p2 nn .nil)).words.length = p.words.length + (p2.words.length + 2) := by
        rw [ewd, List.length_append, List.length_cons, List.length_append]
        rfl
      refine ⟨a5, p.app (.rp p2 nn .nil), c3 + 2, _, _, _, by omega, by omega, kk.trans (Same.keep q5), b7.same q5, by omega, by omega, app_ok okp ⟨hn2, ok3, ⟨n2', nT⟩, trivial⟩, ?_, Keep.freeB kk y5 (Ne.symm (ne_of_none e7 y5)), ?_, rfl⟩
      · rw [app_lev]
        show max p.lev (max (1 + p2.lev) 0) ≤ dp
        omega
      · rw [upd_same, ewd]
        show some (HO.lst (((wstrs p.words ++ [.str "("]) ++ wstrs p2.words) ++ [.str ((")" : Str) ++ Str.ofString (toString (((nn : Nat)) : Int)))])) = some (HO.lst (wstrs (p.words ++ (.op :: (p2.words ++ [.cl nn])))))
        rw [word_cl]
        unfold wstrs
        simp only [List.map_append, List.map_cons, List.map_nil, List.append_assoc, List.cons_append, List.nil_append]
        rfl
    · have S1' : 1 ≤ S.length := S1
      have zS : S.length ≤ sizeLine := Nat.le_trans S2 (by decide)
      refine ⟨_, rfl, .inl ⟨rfl, _, lstL ew2⟩, _, rfl, _, rfl, _, rfl, _, rfl, zS, b, (S.length : Int), c' + 1, rfl, b2, by omega, by omega, small (by omega), fun u H3 k3 b3 u0' u1' => ?_⟩
      obtain ⟨j, rfl⟩ := Int.eq_ofNat_of_zero_le u0'
      have hj : j < S.cps.toList.length := by
        rw [Array.length_toList]
        have : S.length = S.cps.size := rfl
        omega
      obtain ⟨ch, ech⟩ : ∃ ch, S.cps.toList[j]? = some ch := ⟨_, List.getElem?_eq_getElem hj⟩
      have hch : ch ∈ six := hS ch (List.mem_of_getElem? ech)
      refine ⟨S, _, ch, rfl, rfl, zS, atI_nat ech, ?_⟩
      refine ⟨_, rfl, _, rfl, b, f, c' + 1 + 1, rfl, b3, by omega, f0, f1, fun nn H4 k4 b4 n2 nT => ⟨by show 2 ≤ sizeLine; decide, fun a1 y1 => ?_⟩⟩
      have q1 := same_new (o := .lst [.str "", .str (Str.ofString (toString ((nn : Nat) : Int)))]) y1
      have ew5 := q1 _ _ (k4 _ _ nwb (k3 _ _ nwb ew2))
      have b5 := b4.same q1
      have kk : Keep b H _ := k2'.trans (k3.trans (k4.trans (Same.keep q1)))
      have clen : (⟨#[ch]⟩ : Str).length = 1 := rfl
      have fin : ∀ (k : Nat), 1 ≤ k → k ≤ WM.T30 → ∃ (wl2 : Addr) (p2 : Ps) (c2 : Nat) (z7 z8 z9 : Option V), p.words.length < p2.words.length ∧ p2.words.length ≤ M ∧ Keep b H (upd (upd H4 a1 (.lst [.str "", .str (Str.ofString (toString ((nn : Nat) : Int)))])) wl (.lst (wstrs p.words ++ [.str (Wd.lt ch k).str]))) ∧ Bg (upd (upd H4 a1 (.lst [.str "", .str (Str.ofString (toString ((nn : Nat) : Int)))])) wl (.lst (wstrs p.words ++ [.str (Wd.lt ch k).str]))) b c2 ∧ c ≤ c2 ∧ c2 ≤ c + 1 + 10 * p2.words.length ∧ p2.ok ∧ p2.lev ≤ dp ∧ H wl2 = none ∧ (upd (upd H4 a1 (.lst [.str "", .str (Str.ofString (toString ((nn : Nat) : Int)))])) wl (.lst (wstrs p.words ++ [.str (Wd.lt ch k).str]))) wl2 = some (.lst (wstrs p2.words)) ∧
          ([some (.ref b), some (.int (m : Int)), some (.int (dp : Int)), some (.str S), some (.int f), some (.ref wl), some (.int (M : Int)), some (.int w0), some (.int (R : Int)), z9'] : L2.St) = [some (.ref b), some (.int (m : Int)), some (.int (dp : Int)), some (.str S), some (.int f), some (.ref wl2), some (.int (M : Int)), z7, z8, z9] := by
        intro k hk1 hkT
        have ewd : (p.app (.lf ch k .nil)).words = p.words ++ [.lt ch k] := WM.app_words _ _
        have lwd : (p.app (.lf ch k .nil)).words.length = p.words.length + 1 := by
          rw [ewd, List.length_append]
          rfl
        refine ⟨wl, p.app (.lf ch k .nil), c' + 1 + 1 + 2, _, _, _, by omega, by omega, fun x o hx e => ?_, ?_, by omega, by omega, app_ok okp ⟨⟨hch, hk1, hkT⟩, trivial⟩, ?_, hw, ?_, rfl⟩
        · rw [upd_ne (ne_of_none e hw)]
          exact kk x o hx e
        · obtain ⟨X1, X2, ex, hx⟩ := b5
          exact ⟨X1, X2, (upd_ne (Ne.symm nwb)).trans ex, hx⟩
        · rw [app_lev]
          show max p.lev 0 ≤ dp
          omega
        · rw [upd_same, ewd]
          unfold wstrs
          rw [List.map_append]
          rfl
      have wl1 : (wstrs p.words).length < sizeLine := by
        rw [lw]
        exact Nat.lt_of_lt_of_le (show p.words.length < 1001 by omega) (by decide)
      by_cases h1 : w0 = 1
      · subst h1
        refine ⟨_, rfl, rfl, .inr ⟨true, rfl, a1, _, 1, _, rfl, rfl, lstL upd_same, atI_nat (j := 1) rfl, _, _, rfl, rfl, ?_, ?_⟩⟩
        · rw [dgS_eq, clen]
          have := dg_len nT
          exact Nat.le_trans (show 1 + (dgS nn).length ≤ 100 by omega) (by decide)
        rw [word_two ch (by omega)]
        exact ⟨wl, wstrs p.words, _, rfl, rfl, ew5, wl1, fin nn (by omega) nT⟩
      · refine ⟨_, rfl, rfl, .inr ⟨false, ?_, a1, _, 0, _, rfl, rfl, lstL upd_same, atI_nat (j := 0) rfl, _, _, rfl, rfl, by rw [clen]; decide, ?_⟩⟩
        · show [V.bl (decide (V.int w0 = V.int 1))] = _
          rw [decide_eq_false (fun z => by injection z with z; exact h1 z)]
        rw [word_one ch]
        exact ⟨wl, wstrs p.words, _, rfl, rfl, ew5, wl1, fin 1 (Nat.le_refl _) (by decide)⟩
end
end K09P

set_option Elab.async false
set_option linter.all false
set_option maxRecDepth 100000
set_option maxHeartbeats 4000000
set_option exponentiation.threshold 3000
namespace WM
open PySem PySem.Spec PyProof.Rows L2 TL PySem.Builtin PySem.Builtin.Str PySem.StrLaws
/-! ### names and their colons -/
theorem low_all {f : Nat → Bool} (hf : ((List.range 26).all fun i => f (97 + i)) = true) {c : Nat} (h1 : 97 ≤ c) (h2 : c ≤ 122) : f c = true := by
  have := List.all_eq_true.mp hf (c - 97) (List.mem_range.mpr (by omega))
  rw [show 97 + (c - 97) = c by omega] at this
  exact this
theorem nm_ascii {l : List Nat} (h : LN.LowN l) : Txt.isascii (nmS l) = true := by
  show (nmS l).cps.all (· < 128) = true
  rw [← Array.all_toList]
  refine List.all_eq_true.mpr fun c hc => ?_
  have := h.2.2 c hc
  simp only [decide_eq_true_eq]
  omega
theorem nm_alpha {l : List Nat} (h : LN.LowN l) : Txt.isalpha (nmS l) = true := by
  show (decide ((nmS l).length > 0) && (nmS l).cps.all Unicode.isAlpha) = true
  have h1 : 0 < (nmS l).length := Nat.lt_of_lt_of_le (by decide) h.1
  rw [decide_eq_true h1, Bool.true_and, ← Array.all_toList]
  refine List.all_eq_true.mpr fun c hc => ?_
  have := h.2.2 c hc
  exact low_all (f := Unicode.isAlpha) (by decide +kernel) this.1 this.2
theorem nm_lower {l : List Nat} (h : LN.LowN l) : Txt.islower (nmS l) = true := by
  show ((nmS l).cps.any Unicode.isLower && !(nmS l).cps.any fun c => Unicode.isUpper c || Unicode.isTitle c) = true
  rw [← Array.any_toList, ← Array.any_toList]
  have e : (nmS l).cps.toList = l := rfl
  rw [e]
  have a1 : l.any Unicode.isLower = true := by
    cases l with
    | nil => exact absurd h.1 (by show ¬ 2 ≤ 0; decide)
    | cons c l =>
      have := h.2.2 c (List.mem_cons_self ..)
      exact List.any_eq_true.mpr ⟨c, List.mem_cons_self .., low_all (f := Unicode.isLower) (by decide +kernel) this.1 this.2⟩
  have a2 : (l.any fun c => Unicode.isUpper c || Unicode.isTitle c) = false := List.any_eq_false.mpr fun c hc => by
    have := h.2.2 c hc
    have := low_all (f := fun c => !(Unicode.isUpper c || Unicode.isTitle c)) (by decide +kernel) this.1 this.2
    rw [Bool.not_eq_true'] at this
    rw [this]
    decide
  rw [a1, a2]
  rfl
def namC (l : List Nat) : Str := nmS l ++ (":" : Str)
theorem namC_tl (l : List Nat) : tl (namC l) = l ++ [58] := by
  unfold namC
  rw [tl_append]
  rfl
theorem namC_len (l : List Nat) : (namC l).length = l.length + 1 := by
  rw [len_tl, namC_tl, List.length_append]
  rfl
theorem colon_ends (l : List Nat) : Txt.endswith (namC l) ":" = true := by
  show (decide (0 + 1 ≤ (namC l).length) && subAt (namC l) ":" ((namC l).length - 1)) = true
  rw [subAt_eq]
  have e1 : (":" : Str).cps.toList = [58] := rfl
  have e2 : (":" : Str).length = 1 := rfl
  have e4 : (namC l).cps.toList = l ++ [58] := namC_tl l
  rw [e1, e2, e4, namC_len, decide_eq_true (by omega), Bool.true_and, Nat.add_sub_cancel, List.drop_left]
  rfl
theorem colon_cut (l : List Nat) : cutS (namC l) none (some (-1)) = nmS l := by
  refine ext_tl ?_
  have e2 : HT.sIx (namC l).length (namC l).length (some (-1)) = l.length := by
    show (if (-1 : Int) < 0 then ((-1 : Int) + ((namC l).length : Int)).toNat else min (-1 : Int).toNat (namC l).length) = _
    rw [if_pos (by decide), namC_len]
    omega
  show ((tl (namC l)).drop 0).take (HT.sIx (namC l).length (namC l).length (some (-1)) - 0) = l
  rw [e2, namC_tl]
  show List.take (l.length - 0) (l ++ [58]) = l
  rw [Nat.sub_zero, List.take_left]
/-! ### rows -/
theorem join_cons (y x : Str) {ss : List Str} (h : ss ≠ []) : Str.join y (x :: ss) = x ++ y ++ Str.join y ss := by
  cases ss with
  | nil => exact absurd rfl h
  | cons z r => rfl
theorem named_row (l : List Nat) {ss : List Str} (h : ss ≠ []) : (nmS l ++ (": " : Str)) ++ Str.join " " ss = Str.join " " (namC l :: ss) := by
  rw [join_cons " " (namC l) h]
  refine ext_tl ?_
  rw [tl_append, tl_append, tl_append, tl_append, namC_tl, List.append_assoc l]
  rfl
/-- texts that are words: not empty, no blank, no line feed -/
def WdS (B : Nat) (ss : List Str) : Prop := ∀ s ∈ ss, tl s ≠ [] ∧ s.length ≤ B ∧ ∀ c ∈ tl s, 40 ≤ c ∧ c ≤ 122
theorem WdS.free {B : Nat} {ss : List Str} (h : WdS B ss) {s : Str} (hs : s ∈ ss) : 32 ∉ tl s := fun z => by
  have := (h s hs).2.2 32 z
  omega
theorem split_words {B : Nat} {ss : List Str} (h : WdS B ss) (hn : ss ≠ []) : Txt.split (Str.join " " ss) " " = ss := by
  have := split_join (y := " ") (s := 32) (S := []) rfl (by decide +kernel) (parts := ss) hn fun p hp => h.free hp
  rw [join_eq] at this
  exact this
theorem row_ne {B : Nat} {ss : List Str} (h : WdS B ss) (hn : ss ≠ []) : Str.join " " ss ≠ "" := by
  intro e
  have e2 : tl (Str.join " " ss) = [] := by rw [e]; rfl
  rw [tl_join] at e2
  cases ss with
  | nil => exact hn rfl
  | cons x r =>
    have hx := (h x (List.mem_cons_self ..)).1
    cases r with
    | nil => exact hx e2
    | cons y r =>
      have e3 : tl x ++ (tl (" " : Str) ++ _) = [] := e2
      exact hx (List.append_eq_nil_iff.mp e3).1
theorem row_len {B : Nat} {ss : List Str} (h : WdS B ss) : (Str.join " " ss).length ≤ ss.length * (B + 1) := by
  rw [len_tl, tl_join]
  have h1 := joinL_len (tl " ") B (ss.map tl) (by
    intro p hp
    obtain ⟨s, hs, rfl⟩ := List.mem_map.mp hp
    have := (h s hs).2.1
    rw [len_tl] at this
    exact this)
  have e : (tl (" " : Str)).length = 1 := rfl
  rw [List.length_map, e] at h1
  exact h1
theorem joinL_mem {S : List Nat} {c : Nat} : ∀ {ps : List (List Nat)}, c ∈ joinL S ps → c ∈ S ∨ ∃ p ∈ ps, c ∈ p
  | [], h => nomatch h
  | [p], h => .inr ⟨p, List.mem_cons_self .., h⟩
  | p :: q :: r, h => by
    rcases List.mem_append.mp (show c ∈ p ++ (S ++ joinL S (q :: r)) from h) with h | h
    · exact .inr ⟨p, List.mem_cons_self .., h⟩
    · rcases List.mem_append.mp h with h | h
      · exact .inl h
      · rcases joinL_mem h with h | ⟨z, hz, h⟩
        · exact .inl h
        · exact .inr ⟨z, List.mem_cons_of_mem _ hz, h⟩
theorem row_free {B : Nat} {ss : List Str} (h : WdS B ss) : 10 ∉ tl (Str.join " " ss) := by
  intro z
  rw [tl_join] at z
  rcases joinL_mem z with z | ⟨p, hp, z⟩
  · exact absurd z (by decide)
  · obtain ⟨s, hs, rfl⟩ := List.mem_map.mp hp
    have := (h s hs).2.2 10 z
    omega
theorem wdS_words {NL : List (List Nat)} {m : Nat} (hN : Names NL m) {ws : List Nw} (h : ∀ x ∈ ws, x.okN m) : WdS 32 (wsS NL ws) := by
  intro s hs
  obtain ⟨x, hx, rfl⟩ := List.mem_map.mp hs
  obtain ⟨a, b⟩ := nw_cps hN (h x hx)
  refine ⟨fun z => ?_, b, a⟩
  cases x with
  | wd x =>
    have hx0 := h _ hx
    have z : x.cps = [] := z
    cases x with
    | op => cases z
    | cl n => cases z
    | lt c n =>
      by_cases h1 : n = 1
      · rw [show (Wd.lt c n).cps = [c] from if_pos h1] at z
        cases z
      · rw [show (Wd.lt c n).cps = c :: numL n from if_neg h1] at z
        cases z
  | nm i =>
    have lo := hN.atLow (h _ hx)
    have z : nmAt NL i = [] := z
    have := lo.1
    rw [z] at this
    exact absurd this (by decide)
theorem wdS_cons {l : List Nat} (h : LN.LowN l) {ss : List Str} (hs : WdS 32 ss) : WdS 32 (namC l :: ss) := by
  intro s hm
  rcases List.mem_cons.mp hm with rfl | hm
  · refine ⟨fun z => ?_, ?_, fun c hc => ?_⟩
    · rw [namC_tl] at z
      cases l with
      | nil => cases z
      | cons c l => cases z
    · rw [namC_len]
      have := h.2.1
      omega
    · rw [namC_tl] at hc
      rcases List.mem_append.mp hc with hc | hc
      · have := h.2.2 c hc
        omega
      · rw [List.mem_singleton.mp hc]
        decide
  · exact hs s hm
/-! ### the whole text -/
/-- the texts of line k: its name with a colon, its words -/
def lineS (NL : List (List Nat)) (L : Nat → Ns) (m k : Nat) : List Str :=
  if k < m then namC (nmAt NL k) :: wsS NL (L k).words else wsS NL (L k).words
def rowT (NL : List (List Nat)) (L : Nat → Ns) (m k : Nat) : Str := Str.join " " (lineS NL L m k)
def rowsT (NL : List (List Nat)) (L : Nat → Ns) (m : Nat) : List Str := (List.range (m + 1)).map (rowT NL L m)
def srcT (NL : List (List Nat)) (L : Nat → Ns) (m : Nat) : Str := Str.join "\n" (rowsT NL L m)
theorem line_wdS {NL : List (List Nat)} {L : Nat → Ns} {m k : Nat} (hN : Names NL m) (hL : Lines L m) (hk : k ≤ m) : WdS 32 (lineS NL L m k) := by
  have o : ∀ x ∈ (L k).words, x.okN m := words_okN _ (Ns.ok_mono hk _ (hL.ok k hk))
  unfold lineS
  split
  · rename_i h
    exact wdS_cons (hN.atLow h) (wdS_words hN o)
  · exact wdS_words hN o
theorem line_len {NL : List (List Nat)} {L : Nat → Ns} {m k : Nat} (hL : Lines L m) (hk : k ≤ m) : (lineS NL L m k).length ≤ 13 := by
  have := hL.few k hk
  have e : (wsS NL (L k).words).length = (L k).words.length := List.length_map ..
  unfold lineS
  split
  · rw [List.length_cons, e]
    omega
  · rw [e]
    omega
theorem row_short {NL : List (List Nat)} {L : Nat → Ns} {m k : Nat} (hN : Names NL m) (hL : Lines L m) (hk : k ≤ m) : (rowT NL L m k).length ≤ 429 := by
  have h1 := row_len (line_wdS hN hL hk)
  have h2 := line_len (NL := NL) hL hk
  unfold rowT
  omega
theorem split_src {NL : List (List Nat)} {L : Nat → Ns} {m : Nat} (hN : Names NL m) (hL : Lines L m) : Txt.split (srcT NL L m) "\n" = rowsT NL L m := by
  have hne : rowsT NL L m ≠ [] := fun z => by
    have := congrArg List.length z
    unfold rowsT at this
    rw [List.length_map, List.length_range] at this
    cases this
  have := split_join (y := "\n") (s := 10) (S := []) rfl (by decide +kernel) (parts := rowsT NL L m) hne fun p hp => by
    obtain ⟨k, hk, rfl⟩ := List.mem_map.mp hp
    exact row_free (line_wdS hN hL (by have := List.mem_range.mp hk; omega))
  rw [join_eq] at this
  exact this
theorem src_len {NL : List (List Nat)} {L : Nat → Ns} {m : Nat} (hN : Names NL m) (hL : Lines L m) : (srcT NL L m).length ≤ 8600 := by
  unfold srcT
  rw [len_tl, tl_join]
  have h1 := joinL_len (tl "\n") 429 ((rowsT NL L m).map tl) (by
    intro p hp
    obtain ⟨s, hs, rfl⟩ := List.mem_map.mp hp
    obtain ⟨k, hk, rfl⟩ := List.mem_map.mp hs
    have := row_short (NL := NL) hN hL (k := k) (by have := List.mem_range.mp hk; omega)
    rw [len_tl] at this
    exact this)
  have e : (tl ("\n" : Str)).length = 1 := rfl
  have e2 : (rowsT NL L m).length = m + 1 := by
    unfold rowsT
    rw [List.length_map, List.length_range]
  rw [List.length_map, e, e2] at h1
  have := hN.most
  have : (m + 1) * (429 + 1) ≤ 20 * 430 := Nat.mul_le_mul_right _ (by omega)
  omega
theorem src_sum {NL : List (List Nat)} {L : Nat → Ns} {m : Nat} (hN : Names NL m) (hL : Lines L m) : ((rowsT NL L m).map (·.length)).sum ≤ 8600 := by
  have e2 : (rowsT NL L m).length = m + 1 := by
    unfold rowsT
    rw [List.length_map, List.length_range]
  have g : ∀ ss : List Str, (∀ s ∈ ss, s.length ≤ 429) → (ss.map (·.length)).sum ≤ ss.length * 429 := by
    intro ss
    induction ss with
    | nil => exact fun _ => Nat.le_refl _
    | cons s ss ih =>
      intro h
      have h1 := ih fun z hz => h z (List.mem_cons_of_mem _ hz)
      have h2 := h s (List.mem_cons_self ..)
      rw [List.map_cons, List.sum_cons, List.length_cons]
      omega
  have := g (rowsT NL L m) fun s hs => by
    obtain ⟨k, hk, rfl⟩ := List.mem_map.mp hs
    exact row_short hN hL (by have := List.mem_range.mp hk; omega)
  rw [e2] at this
  have := hN.most
  have : (m + 1) * 429 ≤ 20 * 429 := Nat.mul_le_mul_right _ (by omega)
  omega
theorem sum_len {B : Nat} {ss : List Str} (h : WdS B ss) : (ss.map (·.length)).sum ≤ ss.length * B := by
  induction ss with
  | nil => exact Nat.zero_le _
  | cons s ss ih =>
    have h1 := ih fun z hz => h z (List.mem_cons_of_mem _ hz)
    have h2 := (h s (List.mem_cons_self ..)).2.1
    rw [List.map_cons, List.sum_cons, List.length_cons, Nat.add_mul]
    omega
/-! ### dicts by name -/
structure Dct (NL : List (List Nat)) (k : Nat) (kvs : List (Key × V)) (v : Nat → V) : Prop where
  keys : kvs.map (·.1) = (NL.take k).map fun l => (Sum.inr (nmS l) : Key)
  val : ∀ i, i < k → valV kvs (Sum.inr (nmS (nmAt NL i))) = some (v i)
  non : ∀ s : Str, (∀ i, i < k → s ≠ nmS (nmAt NL i)) → valV kvs (Sum.inr s) = none
theorem Dct.nil (NL : List (List Nat)) (v : Nat → V) : Dct NL 0 [] v := ⟨rfl, fun i h => absurd h (Nat.not_lt_zero _), fun _ _ => rfl⟩
theorem Dct.put {NL : List (List Nat)} {m k : Nat} {kvs : List (Key × V)} {v v' : Nat → V} {x : V} (hN : Names NL m) (hk : k < m) (h : Dct NL k kvs v) (e : v' k = x) (o : ∀ i, i < k → v' i = v i) : Dct NL (k + 1) (putK kvs (Sum.inr (nmS (nmAt NL k))) x) v' := by
  have fresh : valV kvs (Sum.inr (nmS (nmAt NL k))) = none := h.non _ fun i hi z => by
    have := hN.inj hk (by omega) (nmS_inj z)
    omega
  refine ⟨?_, fun i hi => ?_, fun s hs => ?_⟩
  · rw [putK_new _ fresh, List.map_append, h.keys, List.take_add_one, hN.at hk, List.map_append]
    rfl
  · rw [valV_put]
    by_cases hik : i = k
    · subst hik
      rw [if_pos rfl, e]
    · rw [if_neg (fun z : (Sum.inr (nmS (nmAt NL i)) : Key) = Sum.inr (nmS (nmAt NL k)) => hik (by
        have z := nmS_inj (Sum.inr.inj z)
        exact hN.inj (by omega) hk z)), h.val i (by omega), o i (by omega)]
  · rw [valV_put, if_neg (fun z : (Sum.inr s : Key) = Sum.inr (nmS (nmAt NL k)) => hs k (by omega) (Sum.inr.inj z)), h.non s fun i hi => hs i (by omega)]
def nwVal (v : Nat → V) : Nw → Option V
  | .wd _ => none
  | .nm i => some (v i)
theorem dgetW {H : Hp} {b : Addr} {kvs : List (Key × V)} {s : Str} {o : Option V} (hb : H b = some (.dK kvs)) (e : valV kvs (Sum.inr s) = o) : DGet H b (.str s) o := by
  subst e
  exact DGet.k (k := Sum.inr s) hb
theorem dgetR {H : Hp} {b : Addr} {kvs : List (Key × V)} {s : Str} {o : Option V} (hb : Rd H b (.dK kvs)) (e : valV kvs (Sum.inr s) = o) : DGet H b (.str s) o := by
  subst e
  exact .inl ⟨kvs, Sum.inr s, hb, rfl, rfl⟩
theorem Dct.word {NL : List (List Nat)} {m k : Nat} {kvs : List (Key × V)} {v : Nat → V} (hN : Names NL m) (hk : k ≤ m) (h : Dct NL k kvs v) {x : Nw} (hx : x.okN k) : valV kvs (Sum.inr (x.str NL)) = nwVal v x := by
  cases x with
  | wd x => exact h.non _ fun i hi z => nm_ne (hN.atLow (by omega)) x hx z.symm
  | nm i => exact h.val i hx
theorem Dct.len {NL : List (List Nat)} {m k : Nat} {kvs : List (Key × V)} {v : Nat → V} (hN : Names NL m) (hk : k ≤ m) (h : Dct NL k kvs v) : kvs.length = k := by
  have := congrArg List.length h.keys
  rw [List.length_map, List.length_map, List.length_take, hN.len] at this
  omega
theorem Dct.key {NL : List (List Nat)} {m k i : Nat} {kvs : List (Key × V)} {v : Nat → V} (hN : Names NL m) (hk : k ≤ m) (h : Dct NL k kvs v) {x : Key} {y : V} (hi : kvs[i]? = some (x, y)) : i < k ∧ x = Sum.inr (nmS (nmAt NL i)) := by
  have il : i < kvs.length := (List.getElem?_eq_some_iff.mp hi).1
  rw [h.len hN hk] at il
  refine ⟨il, ?_⟩
  have e := congrArg (·[i]?) h.keys
  simp only [List.getElem?_map, hi, List.getElem?_take_of_lt il, hN.at (show i < m by omega), Option.map_some] at e
  exact Option.some.inj e
/-! ### rows of addresses -/
def upF {α : Type} (f : Nat → α) (i : Nat) (r : α) : Nat → α := fun j => if j = i then r else f j
theorem upF_same {α : Type} (f : Nat → α) (i : Nat) (r : α) : upF f i r i = r := if_pos rfl
theorem upF_ne {α : Type} {f : Nat → α} {i j : Nat} {r : α} (h : j ≠ i) : upF f i r j = f j := if_neg h
def refsV (f : Nat → Addr) (n : Nat) : List V := (List.range n).map fun j => V.ref (f j)
theorem refsV_len (f : Nat → Addr) (n : Nat) : (refsV f n).length = n := by
  unfold refsV
  rw [List.length_map, List.length_range]
theorem refsV_get {f : Nat → Addr} {n i : Nat} (h : i < n) : (refsV f n)[i]? = some (.ref (f i)) := by
  unfold refsV
  rw [List.getElem?_map, List.getElem?_range h]
  rfl
theorem refsV_at {f : Nat → Addr} {n i : Nat} {x : V} (h : (refsV f n)[i]? = some x) : i < n ∧ x = .ref (f i) := by
  have il := (List.getElem?_eq_some_iff.mp h).1
  rw [refsV_len] at il
  rw [refsV_get il] at h
  exact ⟨il, (Option.some.inj h).symm⟩
theorem refsV_congr {f g : Nat → Addr} {n : Nat} (h : ∀ j, j < n → f j = g j) : refsV f n = refsV g n := List.map_congr_left fun j hj => by rw [h j (List.mem_range.mp hj)]
theorem refsV_succ (f : Nat → Addr) (n : Nat) : refsV f (n + 1) = refsV f n ++ [.ref (f n)] := by
  unfold refsV
  rw [List.range_succ, List.map_append]
  rfl
theorem refsV_up (f : Nat → Addr) (n : Nat) (r : Addr) : refsV (upF f n r) (n + 1) = refsV f n ++ [.ref r] := by
  rw [refsV_succ, upF_same]
  exact congrArg (· ++ [V.ref r]) (refsV_congr fun j hj => upF_ne (by omega))
theorem wsV_get {NL : List (List Nat)} {ws : List Nw} {i : Nat} {v : V} (h : (wsV NL ws)[i]? = some v) : ∃ y, ws[i]? = some y ∧ v = .str (y.str NL) := by
  unfold wsV at h
  rw [List.getElem?_map] at h
  cases e : ws[i]? with
  | none => rw [e] at h; cases h
  | some y =>
    rw [e] at h
    injection h with h
    exact ⟨y, rfl, h.symm⟩
end WM

set_option Elab.async false
set_option linter.all false
set_option maxRecDepth 100000
set_option maxHeartbeats 4000000
set_option exponentiation.threshold 3000
namespace K09P
open PySem PySem.Spec PyProof.Rows L2 RT WM K09 TL
section
variable {P : Program} {w : World} {K : PySem.W.Frag} {mg : Str → Option Value} {base : Heap}
def spWordsS : Sp := fun vs H Q _ => ∃ ss : List Str, vs = [.str (Str.join " " ss)] ∧ WdS 32 ss ∧ ss.length ≤ 13 ∧ ∀ r H', Same H H' → H r = none → H' r = some (.lst (ss.map V.str)) → Q (.ref r) H'
theorem ok_wordsS (D : Ds K) (T : Tx K mg) : FnOk P w K mg base CX0 1 (dwords_of.adr K) D.fd_words_of ["text"] spWordsS := by
  refine D.F_words_of.ok scwords_of (fun vs H Q E h => ?_) (fun cdv A outer s H vs Q E hr h => ?_)
  · obtain ⟨x, rfl, _⟩ := h
    rfl
  · obtain ⟨ss, rfl, ok, few, q⟩ := h
    refine ⟨_, PSs.nox (pss_cons (ps_if (pt_cmpR op_eq (pv 0) pe_str (nomark _))
        (pss_one (ps_ret (pe_lst pa_nil)))
        pss_nil)
        (pss_one (ps_ret (pe_split (pv 0) pe_str)))), ?_⟩
    have hl := row_len ok
    by_cases hn : ss = []
    · subst hn
      refine ⟨_, rfl, rfl, true, rfl, iteT ⟨by show 0 ≤ sizeLine; decide, fun l hl => q l _ (same_new hl) hl upd_same⟩⟩
    · refine ⟨_, rfl, rfl, false, by rw [decide_eq_false]; intro z; injection z with z; exact row_ne ok hn z, iteF ?_⟩
      refine ⟨_, rfl, ⟨_, rfl⟩, _, _, rfl, rfl, rfl, Nat.le_trans (Nat.add_le_add_right hl 2) (by have : 1000 ≤ sizeLine := (by decide); omega), fun l hl => ?_⟩
      refine q l _ (same_new hl) hl ?_
      rw [upd_same, split_words ok hn]
theorem nw_op {NL : List (List Nat)} {m : Nat} (hN : Names NL m) {x : Nw} (h : x.okN m) : decide (V.str (x.str NL) = V.str "(") = isOp x.shw := by
  cases x with
  | wd y =>
    have e := is_op y h
    cases y with
    | op => exact decide_eq_true rfl
    | cl n => exact decide_eq_false fun z => by injection z with z; cases e.mp z
    | lt c n => exact decide_eq_false fun z => by injection z with z; cases e.mp z
  | nm i => exact decide_eq_false fun z => by injection z with z; exact nm_ne (hN.atLow h) .op trivial z
theorem nw_cl {NL : List (List Nat)} {m : Nat} (hN : Names NL m) {x : Nw} (h : x.okN m) : Txt.startswith (x.str NL) (")" : Str) = isCl x.shw := by
  cases x with
  | wd y =>
    cases y with
    | op => exact op_starts
    | cl n => exact cl_starts n
    | lt c n => exact lt_starts h.1
  | nm i =>
    have lo := hN.atLow h
    have s1 := starts1 (nmS (nmAt NL i)) 41
    refine (show Txt.startswith (nmS (nmAt NL i)) ⟨#[41]⟩ = false from ?_)
    rw [s1]
    have e : tl (nmS (nmAt NL i)) = nmAt NL i := rfl
    rw [e]
    obtain ⟨l, hl⟩ : ∃ l, l = nmAt NL i := ⟨_, rfl⟩
    rw [← hl] at lo ⊢
    cases l with
    | nil => rfl
    | cons c l =>
      have := lo.2.2 c (List.mem_cons_self ..)
      exact decide_eq_false (by omega)
def spWrongD (K : PySem.W.Frag) : Sp := fun vs H Q _ => ∃ (a b : Addr) (NL : List (List Nat)) (m k : Nat) (kvs : List (Key × V)) (v : Nat → V) (ws : List Nw), vs = [.ref a, .ref b] ∧ SqL K H a (wsV NL ws) ∧ H b = some (.dK kvs) ∧ Names NL m ∧ k ≤ m ∧ Dct NL k kvs v ∧ (∀ x ∈ ws, x.okN k) ∧ OkW (ws.map Nw.shw) ∧ ∀ H', Same H H' → Q .non H'
theorem ok_wrongD (D : Ds K) (T : Tx K mg) : FnOk P w K mg base CX0 4 (dwrong_word.adr K) D.fd_wrong_word ["words", "names"] (spWrongD K) := by
  have GC : FnOk P w K mg base CX0 3 _ _ _ spCounted := ok_counted D T
  refine D.F_wrong_word.ok scwrong_word (fun vs H Q E h => ?_) (fun cdv A outer s H vs Q E hr h => ?_)
  · obtain ⟨a, b, NL, m, k, kvs, v, ws, rfl, _⟩ := h
    rfl
  · obtain ⟨a, b, NL, m, k, kvs, v, ws, rfl, ha, hb, hN, hkm, dct, oks, ok, q⟩ := h
    have nd := scwrong_word.nd
    obtain ⟨tD, vMOST_DEPTH⟩ := T.v_MOST_DEPTH
    obtain ⟨tW, vMOST_WORDS⟩ := T.v_MOST_WORDS
    refine ⟨_, PSs.nox (pss_cons (ps_set (i := 2) nd rfl (.inl rfl) pe_int)
        (pss_cons (ps_for PassesOwn.never rfl (pi_enum (by rfl) T.z_enumerate (pa_cons (pv 0) pa_nil)) (pg_tup (by rfl) (pgs_cons (pg_name (i := 3) nd rfl (.inl rfl)) (pgs_cons (pg_name (i := 4) nd rfl (.inl rfl)) pgs_nil)))
        (pss_cons (ps_set (i := 5) nd rfl (.inl rfl) (pe_cmpR op_eq (pv 4) pe_str (nomark _)))
        (pss_cons (ps_set (i := 6) nd rfl (.inl rfl) (pe_m1 PySem.F.slot_str_startswith PySem.F.type_str_startswith mt_startswith (pv 4) pe_str))
        (pss_cons (ps_if (pt_not (PW.pt (pw_or (pt_val (pv 5)) (pw_or (pt_cmp (pc_din (hu_of hr) (pv 4) (pv 1))) (pw_or1 (pt_val (pe_call GC (hr.mono (by decide)) (by rfl) T.g__is_counted D.F__is_counted.kp (b__is_counted D) .nil pass0 (pa_cons (pv 4) pa_nil))))))))
        (pss_one (ps_ret (pv 3)))
        pss_nil)
        (pss_cons (ps_if (PW.pt (pw_and (pt_val (pv 6)) (pw_and1 (PW.pt (pw_or (pt_cmpR op_eq (pv 2) pe_int (nomark _)) (pw_or1 (pt_cmpR op_eq (pe_ix ix_list (pv 0) (pe_op op_sub (pv 3) pe_int) (fun _ _ => rfl)) pe_str (nomark _))))))))
        (pss_one (ps_ret (pv 3)))
        pss_nil)
        (pss_cons (ps_set (i := 2) nd rfl (.inl rfl) (pe_op op_sub (pe_op op_add (pv 2) (pe_callTy call_int1 (by rfl) T.z_int (by decide +kernel) (pa_cons (pv 5) pa_nil))) (pe_callTy call_int1 (by rfl) T.z_int (by decide +kernel) (pa_cons (pv 6) pa_nil))))
        (pss_cons (ps_set (i := 7) nd rfl (.inl rfl) (pe_op op_add (pv 2) (pe_callTy call_int1 (by rfl) T.z_int (by decide +kernel) (pa_cons (pv 5) pa_nil))))
        (pss_one (ps_if (PW.pt (pw_or (pt_cmpR op_gt (pv 2) (pe_glob (v := .int 12) rfl vMOST_DEPTH ⟨_, rfl⟩) (nomark _)) (pw_or1 (pt_cmpR op_gt (pe_op op_add (pe_op op_add (pv 3) pe_int) (pv 7)) (pe_glob (v := .int 1000) rfl vMOST_WORDS ⟨_, rfl⟩) (nomark _)))))
        (pss_one (ps_ret (pv 3)))
        pss_nil)))))))))
        (pss_cons (ps_if (pt_cmpR op_gt (pv 2) pe_int (nomark _))
        (pss_one (ps_ret (pe_callB call_len_seq (by rfl) T.z_len PySem.boot_len (pa_cons (pv 0) pa_nil))))
        pss_nil)
        (pss_one (ps_ret pe_non))))), ?_⟩
    have len : (wsV NL ws).length = (ws.map Nw.shw).length := by
      unfold wsV
      rw [List.length_map, List.length_map]
    refine ⟨_, rfl, a, _, rfl, ha, ?_⟩
    refine for_enum (xs := wsV NL ws) (fun i σ H' => ∃ z3 z4 z5 z6 z7, Same H H' ∧ σ = [some (.ref a), some (.ref b), some (.int (dep (ws.map Nw.shw) i)), z3, z4, z5, z6, z7]) ⟨none, none, none, none, none, fun _ _ e => e, rfl⟩
      (fun i σ H' hi hp => by obtain ⟨_, _, _, _, _, sm, _⟩ := hp; exact Same.sql sm ha) (fun i x σ H1 Tp hx hp hT => ?_) fun σ H' hp => ?_
    · obtain ⟨z3, z4, z5, z6, z7, sm, rfl⟩ := hp
      obtain ⟨x0, hx0, rfl⟩ : ∃ y, ws[i]? = some y ∧ x = .str (y.str NL) := by
        unfold wsV at hx
        rw [List.getElem?_map] at hx
        cases e : ws[i]? with
        | none => rw [e] at hx; cases hx
        | some y =>
          rw [e] at hx
          injection hx with hx
          exact ⟨y, rfl, hx.symm⟩
      have xo := oks x0 (List.mem_of_getElem? hx0)
      have xom : x0.okN m := by
        cases x0 with
        | wd _ => exact xo
        | nm _ => exact Nat.lt_of_lt_of_le xo hkm
      have hy : (ws.map Nw.shw)[i]? = some x0.shw := by rw [List.getElem?_map, hx0]; rfl
      have sm1 := sm.trans (same_new (o := .tup [.int (i : Nat), .str (x0.str NL)]) hT)
      have il : i < (ws.map Nw.shw).length := (List.getElem?_eq_some_iff.mp hy).1
      refine ⟨Tp, _, rfl, tupT upd_same, rfl, _, _, rfl, _, _, rfl, rfl, ?_⟩
      refine ⟨_, rfl, rfl, ?_⟩
      rw [nw_op hN xom]
      refine ⟨_, rfl, ⟨_, rfl⟩, _, _, rfl, rfl, ?_⟩
      rw [nw_cl hN xom]
      dsimp only [List.set_cons_zero, List.set_cons_succ]
      have hd := dep_succ hy
      have hup := ok.up (i + 1) il
      have hne := ok.need i _ hy
      have b1 : b2 (isOp x0.shw) = if isOp x0.shw = true then 1 else 0 := rfl
      have b2' : b2 (isCl x0.shw) = if isCl x0.shw = true then 1 else 0 := rfl
      have hval := dct.word hN hkm xo
      have hdb := sm1 _ _ hb
      have fin : ∀ (o c : Bool), isOp x0.shw = o → isCl x0.shw = c → ∀ {z3 z4 z7 : Option V}, True := fun _ _ _ _ _ _ _ => trivial
      cases x0 with
      | wd y =>
        cases y with
        | op =>
          refine ⟨_, rfl, true, rfl, iteT (iteF ?_)⟩
          refine ⟨_, rfl, false, rfl, iteF ?_⟩
          refine ⟨_, rfl, _, rfl, .inr ⟨_, rfl, _, _, rfl, rfl, _, rfl, .inr ⟨_, rfl, _, _, rfl, rfl, ?_⟩⟩⟩
          dsimp only [List.set_cons_zero, List.set_cons_succ]
          rw [← b1, ← b2', ← hd]
          refine ⟨_, rfl, _, rfl, .inr ⟨_, rfl, _, _, rfl, rfl, ?_⟩⟩
          dsimp only [List.set_cons_zero, List.set_cons_succ]
          rw [← b1]
          refine ⟨_, rfl, _, _, rfl, rfl, false, ?_, iteF ⟨_, rfl, _, _, rfl, rfl, _, rfl, _, _, rfl, rfl, _, _, rfl, rfl, false, ?_, iteF ⟨_, _, _, _, _, sm1, rfl⟩⟩⟩
          · exact congrArg V.bl (decide_eq_false (by omega))
          · exact congrArg V.bl (decide_eq_false (by omega))
        | cl n =>
          refine ⟨_, rfl, false, rfl, iteF ⟨_, rfl, _, rfl, b, none, rfl, dgetW hdb hval, false, rfl, iteF ⟨_, rfl, _, rfl, xo, nofun, true, rfl, iteF ?_⟩⟩⟩
          obtain ⟨hd0, hpre⟩ := ok.cl i n hy
          have i0 : i ≠ 0 := by
            intro z
            rw [z] at hd0
            exact absurd hd0 (by show ¬ (0 : Int) < 0; decide)
          obtain ⟨j, rfl⟩ : ∃ j, i = j + 1 := ⟨i - 1, by omega⟩
          have jl : j < ws.length := by
            rw [List.length_map] at il
            omega
          obtain ⟨u, hu⟩ : ∃ u, ws[j]? = some u := ⟨_, List.getElem?_eq_getElem jl⟩
          have uo := oks u (List.mem_of_getElem? hu)
          have uom : u.okN m := by
            cases u with
            | wd _ => exact uo
            | nm _ => exact Nat.lt_of_lt_of_le uo hkm
          have hun : isOp u.shw = false := by
            have h1 := hpre j rfl
            rw [List.getElem?_map, hu] at h1
            cases u with
            | wd y =>
              cases y with
              | op => exact absurd rfl h1
              | cl _ => rfl
              | lt _ _ => rfl
            | nm _ => rfl
          have gx : (wsV NL ws)[j]? = some (.str (u.str NL)) := by
            unfold wsV
            rw [List.getElem?_map, hu]
            rfl
          refine ⟨_, rfl, true, rfl, iteT ⟨_, rfl, rfl, false, ?_, iteF ⟨_, rfl, _, rfl, _, _, rfl, rfl, a, _, _, .str (u.str NL), rfl, rfl, Same.sql sm1 ha, ?_, rfl, false, ?_, iteF ?_⟩⟩⟩
          · exact congrArg V.bl (decide_eq_false fun z => by injection z with z; omega)
          · show atI (wsV NL ws) (((j + 1 : Nat) : Int) - 1) = _
            rw [show ((j + 1 : Nat) : Int) - 1 = (j : Int) by omega]
            exact atI_nat gx
          · exact congrArg V.bl ((nw_op hN uom).trans hun)
          refine ⟨_, rfl, _, rfl, .inr ⟨_, rfl, _, _, rfl, rfl, _, rfl, .inr ⟨_, rfl, _, _, rfl, rfl, ?_⟩⟩⟩
          dsimp only [List.set_cons_zero, List.set_cons_succ]
          rw [← b1, ← b2', ← hd]
          refine ⟨_, rfl, _, rfl, .inr ⟨_, rfl, _, _, rfl, rfl, ?_⟩⟩
          dsimp only [List.set_cons_zero, List.set_cons_succ]
          rw [← b1]
          refine ⟨_, rfl, _, _, rfl, rfl, false, ?_, iteF ⟨_, rfl, _, _, rfl, rfl, _, rfl, _, _, rfl, rfl, _, _, rfl, rfl, false, ?_, iteF ⟨_, _, _, _, _, sm1, rfl⟩⟩⟩
          · exact congrArg V.bl (decide_eq_false (by omega))
          · exact congrArg V.bl (decide_eq_false (by omega))
        | lt c n =>
          refine ⟨_, rfl, false, rfl, iteF ⟨_, rfl, _, rfl, b, none, rfl, dgetW hdb hval, false, rfl, iteF ⟨_, rfl, _, rfl, xo, nofun, true, rfl, iteF ?_⟩⟩⟩
          refine ⟨_, rfl, false, rfl, iteF ?_⟩
          refine ⟨_, rfl, _, rfl, .inr ⟨_, rfl, _, _, rfl, rfl, _, rfl, .inr ⟨_, rfl, _, _, rfl, rfl, ?_⟩⟩⟩
          dsimp only [List.set_cons_zero, List.set_cons_succ]
          rw [← b1, ← b2', ← hd]
          refine ⟨_, rfl, _, rfl, .inr ⟨_, rfl, _, _, rfl, rfl, ?_⟩⟩
          dsimp only [List.set_cons_zero, List.set_cons_succ]
          rw [← b1]
          refine ⟨_, rfl, _, _, rfl, rfl, false, ?_, iteF ⟨_, rfl, _, _, rfl, rfl, _, rfl, _, _, rfl, rfl, _, _, rfl, rfl, false, ?_, iteF ⟨_, _, _, _, _, sm1, rfl⟩⟩⟩
          · exact congrArg V.bl (decide_eq_false (by omega))
          · exact congrArg V.bl (decide_eq_false (by omega))
      | nm j =>
          refine ⟨_, rfl, false, rfl, iteF ⟨_, rfl, _, rfl, b, some (v j), rfl, dgetW hdb hval, true, rfl, iteT (iteF ?_)⟩⟩
          refine ⟨_, rfl, false, rfl, iteF ?_⟩
          refine ⟨_, rfl, _, rfl, .inr ⟨_, rfl, _, _, rfl, rfl, _, rfl, .inr ⟨_, rfl, _, _, rfl, rfl, ?_⟩⟩⟩
          dsimp only [List.set_cons_zero, List.set_cons_succ]
          rw [← b1, ← b2', ← hd]
          refine ⟨_, rfl, _, rfl, .inr ⟨_, rfl, _, _, rfl, rfl, ?_⟩⟩
          dsimp only [List.set_cons_zero, List.set_cons_succ]
          rw [← b1]
          refine ⟨_, rfl, _, _, rfl, rfl, false, ?_, iteF ⟨_, rfl, _, _, rfl, rfl, _, rfl, _, _, rfl, rfl, _, _, rfl, rfl, false, ?_, iteF ⟨_, _, _, _, _, sm1, rfl⟩⟩⟩
          · exact congrArg V.bl (decide_eq_false (by omega))
          · exact congrArg V.bl (decide_eq_false (by omega))
    · obtain ⟨z3, z4, z5, z6, z7, sm, rfl⟩ := hp
      have h0 : dep (ws.map Nw.shw) (wsV NL ws).length = 0 := by rw [len]; exact ok.shut
      refine ⟨_, rfl, _, _, rfl, rfl, false, ?_, iteF (q H' sm)⟩
      show V.bl (decide (dep (ws.map Nw.shw) (wsV NL ws).length > 0)) = _
      rw [h0]
      rfl
def spNaming : Sp := fun vs H Q _ => ∃ l : List Nat, vs = [.str (namC l)] ∧ LN.LowN l ∧ Q (.bl true) H
theorem ok_naming (D : Ds K) (T : Tx K mg) : FnOk P w K mg base CX0 1 (d_is_naming.adr K) D.fd__is_naming ["word"] spNaming := by
  refine D.F__is_naming.ok sc_is_naming (fun vs H Q E h => ?_) (fun cdv A outer s H vs Q E hr h => ?_)
  · obtain ⟨l, rfl, _⟩ := h
    rfl
  · obtain ⟨l, rfl, low, q⟩ := h
    have nd := sc_is_naming.nd
    obtain ⟨tD, vSHORTEST_NAME⟩ := T.v_SHORTEST_NAME
    obtain ⟨tW, vLONGEST_NAME⟩ := T.v_LONGEST_NAME
    refine ⟨_, PSs.nox (pss_cons (ps_if (PW.pt (pw_or (pt_not (pt_val (pe_m1 PySem.F.slot_str_endswith PySem.F.type_str_endswith mt_endswith (pv 0) pe_str))) (pw_or1 (pt_not (pt_chain op_le op_le (pe_op op_add (pe_glob (v := .int 2) rfl vSHORTEST_NAME ⟨_, rfl⟩) pe_int) (pe_callB call_len_str (by rfl) T.z_len PySem.boot_len (pa_cons (pv 0) pa_nil)) (pe_op op_add (pe_glob (v := .int 8) rfl vLONGEST_NAME ⟨_, rfl⟩) pe_int))))))
        (pss_one (ps_ret pe_bl))
        pss_nil)
        (pss_cons (ps_set (i := 1) nd rfl (.inl rfl) (pe_slice sl_str (pv 0) po_none (po_some (pe_un un_neg pe_int))))
        (pss_one (ps_ret (pe_and (pe_m0 PySem.F.slot_str_isascii PySem.F.type_str_isascii mt_isascii (pv 1)) (pe_and (pe_m0 PySem.F.slot_str_isalpha PySem.F.type_str_isalpha mt_isalpha (pv 1)) (pe_one (pe_m0 PySem.F.slot_str_islower PySem.F.type_str_islower mt_islower (pv 1))))))))), ?_⟩
    have h9 := namC_len l
    have zl : (namC l).length ≤ sizeLine := by
      have : 1000 ≤ sizeLine := by decide
      have := low.2.1
      omega
    refine ⟨_, rfl, ⟨_, rfl⟩, _, _, rfl, rfl, true, congrArg V.bl (colon_ends l), iteF ?_⟩
    have l2 := low.1
    have l8 := low.2.1
    refine ⟨_, _, rfl, rfl, _, rfl, _, rfl, zl, _, _, rfl, rfl, true, congrArg V.bl (decide_eq_true (by rw [h9]; omega)), iteT ⟨_, _, rfl, rfl, _, _, rfl, rfl, true, congrArg V.bl (decide_eq_true (by rw [h9]; omega)), iteF ?_⟩⟩
    refine ⟨_, rfl, 1, rfl, _, rfl, _, rfl, zl, ?_⟩
    show gName 1 (V.str (cutS (namC l) none (some (-1)))) _ _ _
    rw [colon_cut]
    refine ⟨_, rfl, ⟨_, rfl⟩, _, rfl, rfl, trivial, true, congrArg V.bl (nm_ascii low), iteT ⟨_, rfl, ⟨_, rfl⟩, _, rfl, rfl, trivial, true, congrArg V.bl (nm_alpha low), iteT ⟨_, rfl, ⟨_, rfl⟩, _, rfl, rfl, trivial, ?_⟩⟩⟩
    rw [nm_lower low]
    exact q
def spNameOf (K : PySem.W.Frag) : Sp := fun vs H Q _ => ∃ (a : Addr) (l : List Nat) (r : List V), vs = [.ref a] ∧ SqL K H a (.str (namC l) :: r) ∧ LN.LowN l ∧ Q (.str (nmS l)) H
theorem ok_nameof (D : Ds K) (T : Tx K mg) : FnOk P w K mg base CX0 1 (d_name_of.adr K) D.fd__name_of ["words"] (spNameOf K) := by
  refine D.F__name_of.ok sc_name_of (fun vs H Q E h => ?_) (fun cdv A outer s H vs Q E hr h => ?_)
  · obtain ⟨a, l, r, rfl, _⟩ := h
    rfl
  · obtain ⟨a, l, r, rfl, ha, low, q⟩ := h
    have nd := sc_name_of.nd
    refine ⟨_, PSs.nox (pss_one (ps_ret (pe_slice sl_str (pe_ix ix_list (pv 0) pe_int (fun _ _ => rfl)) po_none (po_some (pe_un un_neg pe_int))))), ?_⟩
    have h9 := namC_len l
    have zl : (namC l).length ≤ sizeLine := by
      have : 1000 ≤ sizeLine := by decide
      have := low.2.1
      omega
    refine ⟨_, rfl, a, _, 0, .str (namC l), rfl, rfl, ha, atI_nat (j := 0) rfl, 1, rfl, _, rfl, _, rfl, zl, ?_⟩
    show Q (V.str (cutS (namC l) none (some (-1)))) _
    rw [colon_cut]
    exact q
theorem cut_tail (x : V) (xs : List V) : cutV (x :: xs) (some 1) none = xs := by
  have e2 : HT.sIx (x :: xs).length 0 (some 1) = 1 := by
    have := HT.sIx_nat (x :: xs).length 0 1
    rw [show ((1 : Nat) : Int) = 1 from rfl] at this
    rw [this, List.length_cons]
    omega
  show ((x :: xs).drop (HT.sIx (x :: xs).length 0 (some 1))).take ((x :: xs).length - HT.sIx (x :: xs).length 0 (some 1)) = xs
  rw [e2]
  show List.take (xs.length + 1 - 1) xs = xs
  rw [Nat.add_sub_cancel, List.take_length]
def spWrongN (K : PySem.W.Frag) : Sp := fun vs H Q _ => ∃ (a b : Addr) (NL : List (List Nat)) (m k : Nat) (kvs : List (Key × V)) (v : Nat → V) (ws : List Nw), vs = [.ref a, .ref b] ∧ SqL K H a (.str (namC (nmAt NL k)) :: wsV NL ws) ∧ H b = some (.dK kvs) ∧ Names NL m ∧ k < m ∧ Dct NL k kvs v ∧ ws ≠ [] ∧ (∀ x ∈ ws, x.okN k) ∧ OkW (ws.map Nw.shw) ∧ ∀ H', Same H H' → Q .non H'
theorem ok_wrongN (D : Ds K) (T : Tx K mg) : FnOk P w K mg base CX0 5 (d_wrong_in_named.adr K) D.fd__wrong_in_named ["words", "named"] (spWrongN K) := by
  have GW : FnOk P w K mg base CX0 4 _ _ _ (spWrongD K) := ok_wrongD D T
  have GI : FnOk P w K mg base CX0 1 _ _ _ spNaming := ok_naming D T
  have GO : FnOk P w K mg base CX0 1 _ _ _ (spNameOf K) := ok_nameof D T
  refine D.F__wrong_in_named.ok sc_wrong_in_named (fun vs H Q E h => ?_) (fun cdv A outer s H vs Q E hr h => ?_)
  · obtain ⟨a, b, NL, m, k, kvs, v, ws, rfl, _⟩ := h
    rfl
  · obtain ⟨a, b, NL, m, k, kvs, v, ws, rfl, ha, hb, hN, hkm, dct, wne, oks, ok, q⟩ := h
    have nd := sc_wrong_in_named.nd
    refine ⟨_, PSs.nox (pss_cons (ps_if (PW.pt (pw_or (pt_not (pt_truth (pv 0) (by intro _; rfl))) (pw_or (pt_not (pt_val (pe_call GI (hr.mono (by decide)) (by rfl) T.g__is_naming D.F__is_naming.kp (b__is_naming D) .nil pass0 (pa_cons (pe_ix ix_list (pv 0) pe_int (fun _ _ => rfl)) pa_nil)))) (pw_or1 (pt_cmp (pc_din (hu_of hr) (pe_call GO (hr.mono (by decide)) (by rfl) T.g__name_of D.F__name_of.kp (b__name_of D) .nil pass0 (pa_cons (pv 0) pa_nil)) (pv 1)))))))
        (pss_one (ps_ret pe_int))
        pss_nil)
        (pss_cons (ps_if (pt_cmpR op_eq (pe_callB call_len_seq (by rfl) T.z_len PySem.boot_len (pa_cons (pv 0) pa_nil)) pe_int (nomark _))
        (pss_one (ps_ret pe_int))
        pss_nil)
        (pss_cons (ps_set (i := 2) nd rfl (.inl rfl) (pe_call GW hr (by rfl) T.g_wrong_word D.F_wrong_word.kp (b_wrong_word D) .nil pass0 (pa_cons (pe_slice sl_list (pv 0) (po_some pe_int) po_none) (pa_cons (pv 1) pa_nil))))
        (pss_one (ps_ret (pe_ifExp (pt_cmpR op_isN (pv 2) pe_non (nomark _)) pe_non (pe_op op_add (pv 2) pe_int))))))), ?_⟩
    have low := hN.atLow hkm
    have lv : (wsV NL ws).length = ws.length := List.length_map ..
    refine ⟨_, rfl, true, .inl ⟨_, ha, rfl⟩, iteF ?_⟩
    refine ⟨_, rfl, a, _, 0, .str (namC (nmAt NL k)), rfl, rfl, ha, atI_nat (j := 0) rfl, _, rfl, low, true, rfl, iteF ?_⟩
    refine ⟨_, rfl, a, _, _, rfl, ha, low, _, rfl, b, none, rfl, dgetW hb (dct.non _ fun i hi z => ?_), false, rfl, iteF ?_⟩
    · have := hN.inj hkm (by omega) (nmS_inj z)
      omega
    refine ⟨_, rfl, a, _, rfl, .inl ha, rfl, false, congrArg V.bl (decide_eq_false fun z => ?_), iteF ?_⟩
    · injection z with z
      have : ws.length ≠ 0 := fun y => wne (List.length_eq_zero_iff.mp y)
      have z : (((wsV NL ws).length + 1 : Nat) : Int) = 1 := z
      omega
    refine ⟨_, rfl, 1, rfl, a, _, rfl, ha, fun p hp => ?_⟩
    have sp := same_new (o := .lst (cutV (.str (namC (nmAt NL k)) :: wsV NL ws) (some 1) none)) hp
    have ec : cutV (.str (namC (nmAt NL k)) :: wsV NL ws) (some 1) none = wsV NL ws := cut_tail _ _
    rw [ec] at sp ⊢
    refine ⟨_, rfl, p, b, NL, m, k, kvs, v, ws, rfl, lstL upd_same, sp _ _ hb, hN, by omega, dct, oks, ok, fun H' s' => ?_⟩
    exact ⟨_, rfl, rfl, true, rfl, iteT (q H' (sp.trans s'))⟩
end
end K09P

set_option Elab.async false
set_option linter.all false
set_option maxRecDepth 100000
set_option maxHeartbeats 4000000
set_option exponentiation.threshold 3000
namespace K09P
open PySem PySem.Spec PyProof.Rows L2 RT WM K09 TL
theorem nw_head {NL : List (List Nat)} {m : Nat} (hN : Names NL m) {x : Nw} (h : x.okN m) : ∃ c r, (x.str NL).cps.toList = c :: r ∧ decide (V.str ⟨#[c]⟩ = V.str ")") = isCl x.shw := by
  have key : ∀ c : Nat, decide (V.str ⟨#[c]⟩ = V.str ")") = decide (c = 41) := fun c => decide_eq_decide.mpr ⟨fun z => by
    injection z with z
    have := congrArg tl z
    injection this, fun z => by subst z; rfl⟩
  cases x with
  | wd y =>
    cases y with
    | op => exact ⟨40, [], rfl, by rw [key]; rfl⟩
    | cl n => exact ⟨41, numL n, rfl, by rw [key]; rfl⟩
    | lt c n =>
      have sl := six_low h.1
      by_cases h1 : n = 1
      · exact ⟨c, [], if_pos h1, by rw [key]; exact decide_eq_false (by omega)⟩
      · exact ⟨c, numL n, if_neg h1, by rw [key]; exact decide_eq_false (by omega)⟩
  | nm i =>
    have lo := hN.atLow h
    have e : (nmS (nmAt NL i)).cps.toList = nmAt NL i := rfl
    show ∃ c r, (nmS (nmAt NL i)).cps.toList = c :: r ∧ _
    rw [e]
    obtain ⟨l, hl⟩ : ∃ l, l = nmAt NL i := ⟨_, rfl⟩
    rw [← hl] at lo ⊢
    cases l with
    | nil => exact absurd lo.1 (by decide)
    | cons c l =>
      have := lo.2.2 c (List.mem_cons_self ..)
      exact ⟨c, l, rfl, by rw [key]; exact decide_eq_false (by omega)⟩
theorem nvs_at {NL : List (List Nat)} {m i : Nat} (hN : Names NL m) (hi : i < m) : atI (nvs NL) (i : Int) = some (.str (nmS (nmAt NL i))) := by
  refine atI_nat (j := i) ?_
  unfold nvs
  rw [List.getElem?_map, hN.at hi]
  rfl
theorem ixN_of {n j : Nat} (h : j < n) : ixN n (j : Int) = some j := by
  unfold ixN
  rw [if_pos (by omega), if_pos (by omega), Int.toNat_natCast]
theorem ixN_last (m : Nat) : ixN (m + 1) (-1) = some m := by
  unfold ixN
  rw [if_neg (by decide), if_pos (by omega)]
  exact congrArg some (by omega)
theorem at_sizes {u : Int} (h0 : 0 ≤ u) (h : u < 2) : ∃ m : Nat, atI [V.int 3, V.int 9] u = some (.int (m : Int)) ∧ 1 ≤ m ∧ m ≤ 9 := by
  have e : u = 0 ∨ u = 1 := by omega
  rcases e with rfl | rfl
  · exact ⟨3, atI_nat (j := 0) rfl, by decide, by decide⟩
  · exact ⟨9, atI_nat (j := 1) rfl, by decide, by decide⟩
theorem Dry.weak {Lb k : Nat} {A : Int} (h : LN.Dry Lb (k + 1) A) : LN.Dry Lb k A := by
  refine ⟨h.1, Int.lt_of_le_of_lt ?_ h.2⟩
  rw [Int.pow_succ]
  have p : (0 : Int) ≤ A * 2 ^ k := Int.mul_nonneg h.1 (Int.le_of_lt (Int.pow_pos (by decide)))
  rw [← Int.mul_assoc]
  omega
/-- lines that are made so far -/
def Done (L : Nat → Ns) (k : Nat) : Prop := ∀ j, j < k → (L j).ok j ∧ L j ≠ .nil ∧ (L j).words.length ≤ 9 ∧ (L j).lev ≤ 2
theorem Done.lines {L : Nat → Ns} {m : Nat} (h : Done L (m + 1)) : Lines L m := ⟨fun k hk => (h k (by omega)).1, fun k hk => (h k (by omega)).2.1, fun k hk => Nat.le_trans (h k (by omega)).2.2.1 (by decide), fun k hk => (h k (by omega)).2.2.2⟩
theorem Done.up {L : Nat → Ns} {k : Nat} (h : Done L k) {t : Ns} (o : t.ok k) (n : t ≠ .nil) (l : t.words.length ≤ 9) (v : t.lev ≤ 2) : Done (upF L k t) (k + 1) := fun j hj => by
  by_cases e : j = k
  · rw [e, upF_same]
    exact ⟨o, n, l, v⟩
  · rw [upF_ne e]
    exact h j (by omega)
section
variable {P : Program} {w : World} {K : PySem.W.Frag} {mg : Str → Option Value} {base : Heap}
/-- the lists of a source in the heap -/
structure SrcAt (H : Hp) (NL : List (List Nat)) (L : Nat → Ns) (m : Nat) (nl ll : Addr) (as_ : Nat → Addr) : Prop where
  nl : H nl = some (.lst (nvs NL))
  ll : H ll = some (.lst (refsV as_ (m + 1)))
  at_ : ∀ k, k ≤ m → H (as_ k) = some (.lst (wsV NL (L k).words))
theorem SrcAt.same {H H' : Hp} {NL : List (List Nat)} {L : Nat → Ns} {m : Nat} {nl ll : Addr} {as_ : Nat → Addr} (h : SrcAt H NL L m nl ll as_) (s : Same H H') : SrcAt H' NL L m nl ll as_ := ⟨s _ _ h.nl, s _ _ h.ll, fun k hk => s _ _ (h.at_ k hk)⟩
end
end K09P

set_option Elab.async false
set_option linter.all false
set_option maxRecDepth 100000
set_option maxHeartbeats 4000000
set_option exponentiation.threshold 3000
namespace K09P
open PySem PySem.Spec PyProof.Rows L2 RT WM K09 TL
def rAddS : R2 := fun x y H Q => ∃ i j, x = .str i ∧ y = .str j ∧ i.length + j.length ≤ sizeLine ∧ Q (.str (i ++ j)) H
def rJoin (K : PySem.W.Frag) : V → List V → Hp → VK → Prop := fun x xs H Q => ∃ a p, ∃ ys : List Str, x = .str a ∧ xs = [.ref p] ∧ (SqL K H p (ys.map V.str) ∨ SqT K H p (ys.map V.str)) ∧ (ys.map (·.length)).sum + ys.length * a.length ≤ 16777216 ∧ Q (.str (Txt.join a ys)) H
theorem lc_enum {K : PySem.W.Frag} {a : Addr} {xs : List V} {g : TG} {tt : TT} {te : TE} {vs : List Nat} {σ : L2.St} {H1 : Hp} {D : Addr} {Qd : Hp → Prop} (Pv : Nat → Hp → Prop) (h0 : Pv 0 (upd H1 D (.lst []))) (hl : ∀ i H, i ≤ xs.length → Pv i H → SqL K H a xs)
    (hs : ∀ i x H T, xs[i]? = some x → Pv i H → H T = none → g (.ref T) (wipe σ vs) (upd H T (.tup [.int (i : Nat), x])) fun σ2 H2 => wipe σ2 vs = wipe σ vs ∧ tt σ2 H2 fun b H3 =>
      if b = true then te σ2 H3 fun y H4 => ∃ acc, H4 D = some (.lst acc) ∧ acc.length < sizeLine ∧ Pv (i + 1) (upd H4 D (.lst (acc ++ [y]))) else Pv (i + 1) H3) (hd : ∀ H, Pv xs.length H → Qd H) :
    ∃ W : Nat → Nat → Hp → Prop, (∃ m, W 0 m (upd H1 D (.lst []))) ∧ ∀ i m H, W i m H →
      ((Ite K a).stop i H ∧ Qd H) ∨ ((Ite K a).go i H ∧ ∃ Nx : Hp → Prop, (∀ H', Nx H' → ∃ m', m' < m ∧ W (i + 1) m' H') ∧ ∀ x H', (Ite K a).yld i H x H' → g x (wipe σ vs) H' fun σ2 H2 => wipe σ2 vs = wipe σ vs ∧ tt σ2 H2 fun b H3 =>
        if b = true then te σ2 H3 fun y H4 => ∃ acc, H4 D = some (.lst acc) ∧ acc.length < sizeLine ∧ Nx (upd H4 D (.lst (acc ++ [y]))) else Nx H3) := by
  refine ⟨fun i m H => m = xs.length - i ∧ i ≤ xs.length ∧ Pv i H, ⟨xs.length, by simp, Nat.zero_le _, h0⟩, ?_⟩
  rintro i m H ⟨rfl, hi, p⟩
  have q := hl i H hi p
  by_cases hlt : i < xs.length
  · refine .inr ⟨⟨xs, xs[i], q, by simp [hlt]⟩, Pv (i + 1), fun H' p' => ⟨xs.length - (i + 1), by omega, rfl, hlt, p'⟩, fun x H' y => ?_⟩
    obtain ⟨T, v, rfl, hT, rfl, y⟩ := y
    exact hs i v _ T (y xs q) p hT
  · have e : i = xs.length := by omega
    subst e
    exact .inl ⟨⟨xs, q, Nat.le_refl _⟩, hd H p⟩
abbrev NT_ : List Str := N_law_text ++ [("k" : Str), ("name" : Str)]
theorem scNT_ : FnScope NT_ ["names", "lines"] (defScope s_law_text) := ⟨rfl, rfl, rfl, by decide +kernel, rfl, by decide +kernel, by decide +kernel⟩
section
variable {P : Program} {w : World} {K : PySem.W.Frag} {mg : Str → Option Value} {base : Heap}
def spTextL : Sp := fun vs H Q _ => ∃ (nl ll : Addr) (NL : List (List Nat)) (L : Nat → Ns) (m : Nat) (as_ : Nat → Addr), vs = [.ref nl, .ref ll] ∧ Names NL m ∧ Lines L m ∧ SrcAt H NL L m nl ll as_ ∧ ∀ H', Same H H' → Q (.str (srcT NL L m)) H'
theorem ok_textL (D : Ds K) (T : Tx K mg) : FnOk P w K mg base CX0 1 (d_law_text.adr K) D.fd__law_text ["names", "lines"] spTextL := by
  refine D.F__law_text.ok scNT_ (fun vs H Q E h => ?_) (fun cdv A outer s H vs Q E hr h => ?_)
  · obtain ⟨nl, ll, NL, L, m, as_, rfl, _⟩ := h
    rfl
  · obtain ⟨nl, ll, NL, L, m, as_, rfl, hN, hL, sa, q⟩ := h
    have nd := scNT_.nd
    refine ⟨_, PSs.nox (pss_cons (ps_setLc (i := 2) (own := [(("k" : Str), 3), (("name" : Str), 4)]) (g := gTup K 2 (gCons (gName 3) (gCons (gName 4) gNil))) (tt := tYes) (te := tOp rAddS (tOp rAddS (tVar 4) (tC (.str ": "))) (tM1 (rJoin K) (tC (.str " ")) (tOp (rIxL K) (tVar 1) (tVar 3)))) rfl nd rfl rfl (sw_true rfl rfl rfl (by decide +kernel)) (pi_enum (by rfl) T.z_enumerate (pa_cons (pv 0) pa_nil)) (blkOk_by (own := [(("k" : Str), 3), (("name" : Str), 4)]) (N := NT_) (sc := defScope s_law_text) (by decide +kernel)) (fun _ _ _ _ _ => (pg_tup (by rfl) (pgs_cons (pg_name (i := 3) nd rfl (Or.inl rfl)) (pgs_cons (pg_name (i := 4) nd rfl (Or.inl rfl)) pgs_nil)))) (fun _ _ _ _ _ => pts_nil) (fun _ _ _ _ _ => (pe_op op_add_str (pe_op op_add_str (pv 4) pe_str) (pe_join pe_str (pe_ix ix_list (pv 1) (pv 3) (fun _ _ => rfl))))))
        (pss_one (ps_ret (pe_join pe_str (pe_op op_cat (pv 2) (pe_lst (pa_cons (pe_join pe_str (pe_ix ix_list (pv 1) (pe_un un_neg pe_int) (fun _ _ => rfl))) pa_nil))))))), ?_⟩
    have m19 := hN.most
    have z1000 : 100000 ≤ sizeLine := by decide
    have nlen : (nvs NL).length = m := by
      unfold nvs
      rw [List.length_map, hN.len]
    have oks : ∀ k, k ≤ m → ∀ x ∈ (L k).words, x.okN m := fun k hk => words_okN _ (Ns.ok_mono hk _ (hL.ok k hk))
    have sums : ∀ k, k ≤ m → ((wsS NL (L k).words).map (·.length)).sum + (wsS NL (L k).words).length * (" " : Str).length ≤ 16777216 := fun k hk => by
      have h1 := sum_len (wdS_words hN (oks k hk))
      have h2 : (wsS NL (L k).words).length = (L k).words.length := List.length_map ..
      have h3 := hL.few k hk
      have h4 : (" " : Str).length = 1 := rfl
      rw [h2] at h1
      rw [h2, h4]
      omega
    refine ⟨_, rfl, nl, _, rfl, lstL sa.nl, fun D hD => ?_⟩
    refine lc_enum (K := K) (a := nl) (xs := nvs NL) (fun i H' => Same H H' ∧ H' D = some (.lst (((List.range i).map (rowT NL L m)).map V.str)))
      ⟨same_new hD, upd_same⟩ (fun i H' hi hp => lstL (hp.1 _ _ sa.nl)) (fun i x H1 Tp hx hp hT => ?_) fun H1 hp => ?_
    · obtain ⟨sm, eD⟩ := hp
      have il : i < m := by
        have := (List.getElem?_eq_some_iff.mp hx).1
        omega
      have ex : x = .str (nmS (nmAt NL i)) := by
        unfold nvs at hx
        rw [List.getElem?_map, hN.at il] at hx
        exact (Option.some.inj hx).symm
      subst ex
      have sT := sm.trans (same_new (o := .tup [.int (i : Nat), .str (nmS (nmAt NL i))]) hT)
      have eD2 := same_new (o := .tup [.int (i : Nat), .str (nmS (nmAt NL i))]) hT _ _ eD
      have low := hN.atLow il
      have nl8 := nm_len low
      refine ⟨Tp, _, rfl, tupT upd_same, rfl, _, _, rfl, _, _, rfl, rfl, rfl, ?_⟩
      refine ⟨_, rfl, _, _, rfl, rfl, by have : (": " : Str).length = 2 := rfl; omega, ⟨_, rfl⟩, _, rfl, _, rfl, ll, _, (i : Int), .ref (as_ i), rfl, rfl, lstL (sT _ _ sa.ll), atI_nat (refsV_get (by omega)), ?_⟩
      refine ⟨_, as_ i, wsS NL (L i).words, rfl, rfl, .inl (lstL (by rw [← wsV_map]; exact sT _ _ (sa.at_ i (by omega)))), sums i (by omega), ?_⟩
      have wne : wsS NL (L i).words ≠ [] := fun z => hL.full i il ((Ns.nil_iff _).mp (List.map_eq_nil_iff.mp z))
      have hrow : (nmS (nmAt NL i) ++ (": " : Str)) ++ Txt.join " " (wsS NL (L i).words) = rowT NL L m i := by
        rw [join_eq, named_row _ wne]
        unfold rowT lineS
        rw [if_pos il]
      have jl : (Txt.join " " (wsS NL (L i).words)).length ≤ 429 := by
        rw [join_eq]
        have h1 := row_len (wdS_words hN (oks i (by omega)))
        have h2 : (wsS NL (L i).words).length = (L i).words.length := List.length_map ..
        have h3 := hL.few i (by omega)
        omega
      have cl : (nmS (nmAt NL i) ++ (": " : Str)).length ≤ 10 := by
        rw [WM.len_tl, tl_append, List.length_append]
        have : (tl (nmS (nmAt NL i))).length ≤ 8 := nl8
        have : (tl (": " : Str)).length = 2 := rfl
        omega
      refine ⟨_, _, rfl, rfl, by omega, ?_⟩
      rw [hrow]
      refine ⟨_, eD2, by rw [List.length_map, List.length_map, List.length_range]; omega, fun y o e => ?_, ?_⟩
      · rw [upd_ne (ne_of_none e hD)]
        exact sT _ _ e
      · rw [upd_same, List.range_succ, List.map_append, List.map_append]
        rfl
    · obtain ⟨sm, eD⟩ := hp
      rw [nlen] at eD
      have sA := sa.same sm
      have at1 : atI (refsV as_ (m + 1)) (-1) = some (.ref (as_ m)) := by
        rw [refsV_succ]
        exact atI_last _ _
      refine ⟨⟨_, rfl⟩, _, rfl, ⟨_, rfl⟩, _, rfl, 1, rfl, ll, _, _, _, rfl, rfl, lstL sA.ll, at1, ?_⟩
      refine ⟨_, as_ m, wsS NL (L m).words, rfl, rfl, .inl (lstL (by rw [← wsV_map]; exact sA.at_ m (Nat.le_refl _))), sums m (Nat.le_refl _), by show 1 ≤ sizeLine; decide, fun p hp => ?_⟩
      have sp := same_new (o := .lst [.str (Txt.join " " (wsS NL (L m).words))]) hp
      have elast : Txt.join " " (wsS NL (L m).words) = rowT NL L m m := by
        rw [join_eq]
        unfold rowT lineS
        rw [if_neg (Nat.lt_irrefl m)]
      refine ⟨_, _, _, _, rfl, rfl, sp _ _ eD, upd_same, by rw [List.length_map, List.length_map, List.length_range]; show m + 1 ≤ _; omega, fun p2 hp2 => ?_⟩
      have sp2 := same_new (o := .lst (((List.range m).map (rowT NL L m)).map V.str ++ [.str (Txt.join " " (wsS NL (L m).words))])) hp2
      have erows : ((List.range m).map (rowT NL L m)).map V.str ++ [V.str (Txt.join " " (wsS NL (L m).words))] = (rowsT NL L m).map V.str := by
        unfold rowsT
        rw [elast, List.range_succ, List.map_append, List.map_append]
        rfl
      refine ⟨_, p2, rowsT NL L m, rfl, rfl, .inl (lstL (by rw [upd_same, erows])), ?_, ?_⟩
      · have h1 := src_sum hN hL
        have h2 : (rowsT NL L m).length = m + 1 := by
          unfold rowsT
          rw [List.length_map, List.length_range]
        have h3 : ("\n" : Str).length = 1 := rfl
        rw [h2, h3]
        omega
      · have e : Txt.join "\n" (rowsT NL L m) = srcT NL L m := join_eq _ _
        rw [e]
        exact q _ (sm.trans (sp.trans sp2))
/-- a row that is written out: None where it is longer than the limit -/
def RowAt (H : Hp) (v : V) (ws : List Wd) : Prop := (v = .non ∧ 1000 < ws.length) ∨ ∃ a, v = .ref a ∧ H a = some (.lst (wstrs ws)) ∧ ws.length ≤ 1000
theorem RowAt.same {H H' : Hp} {v : V} {ws : List Wd} (h : RowAt H v ws) (s : Same H H') : RowAt H' v ws := by
  rcases h with h | ⟨a, e, h1, h2⟩
  · exact .inl h
  · exact .inr ⟨a, e, s _ _ h1, h2⟩
def valsV (f : Nat → V) (n : Nat) : List V := (List.range n).map f
theorem valsV_len (f : Nat → V) (n : Nat) : (valsV f n).length = n := by
  unfold valsV
  rw [List.length_map, List.length_range]
theorem valsV_get {f : Nat → V} {n i : Nat} (h : i < n) : (valsV f n)[i]? = some (f i) := by
  unfold valsV
  rw [List.getElem?_map, List.getElem?_range h]
  rfl
theorem valsV_up (f : Nat → V) (n : Nat) (r : V) : valsV (upF f n r) (n + 1) = valsV f n ++ [r] := by
  unfold valsV
  rw [List.range_succ, List.map_append]
  show (List.range n).map (upF f n r) ++ [upF f n r n] = _
  rw [upF_same]
  exact congrArg (· ++ [r]) (List.map_congr_left fun j hj => upF_ne (by have := List.mem_range.mp hj; omega))
theorem nvs_index {NL : List (List Nat)} {m i : Nat} (hN : Names NL m) (hi : i < m) : (nvs NL)[i]? = some (.str (nmS (nmAt NL i))) := by
  unfold nvs
  rw [List.getElem?_map, hN.at hi]
  rfl
theorem nvs_flat (NL : List (List Nat)) : (nvs NL).all flatV = true := by
  rw [nvs_map]
  exact flat_strs _
def spWritten : Sp := fun vs H Q _ => ∃ (nl ll : Addr) (NL : List (List Nat)) (L : Nat → Ns) (m : Nat) (as_ : Nat → Addr), vs = [.ref nl, .ref ll, .int 1000] ∧ Names NL m ∧ Lines L m ∧ SrcAt H NL L m nl ll as_ ∧
  ∀ (r : Addr) (v : Nat → V) H', Same H H' → H' r = some (.lst (valsV v (m + 1))) → (∀ k, k ≤ m → RowAt H' (v k) (flat L k).words) → Q (.ref r) H'
theorem ok_written (D : Ds K) (T : Tx K mg) : FnOk P w K mg base CX0 1 (d_law_written.adr K) D.fd__law_written ["names", "lines", "limit"] spWritten := by
  refine D.F__law_written.ok sc_law_written (fun vs H Q E h => ?_) (fun cdv A outer s H vs Q E hr h => ?_)
  · obtain ⟨nl, ll, NL, L, m, as_, rfl, _⟩ := h
    rfl
  · obtain ⟨nl, ll, NL, L, m, as_, rfl, hN, hL, sa, q⟩ := h
    have nd := sc_law_written.nd
    refine ⟨_, PSs.nox (pss_cons (ps_set (i := 3) nd rfl (.inl rfl) (pe_lst pa_nil))
        (pss_cons (ps_for PassesOwn.never rfl (pi_list (pv 1)) (pg_name (i := 4) nd rfl (.inl rfl))
        (pss_cons (ps_set (i := 5) nd rfl (.inl rfl) (pe_lst pa_nil))
        (pss_cons (ps_for PassesOwn.never rfl (pi_list (pv 4)) (pg_name (i := 6) nd rfl (.inl rfl))
        (pss_cons (ps_set (i := 7) nd rfl (.inl rfl) (pe_lst (pa_cons (pv 6) pa_nil)))
        (pss_cons (ps_if (pt_cmpR op_in_seq (pv 6) (pv 0) (by rfl))
        (pss_one (ps_set (i := 7) nd rfl (.inl rfl) (pe_ix ix_list (pv 3) (pe_bm PySem.F.plainAttrs_list PySem.F.slot_list_index PySem.F.type_list_index mt_index (pv 0) (pa_cons (pv 6) pa_nil)) (fun _ _ => rfl))))
        pss_nil)
        (pss_one (ps_set (i := 5) nd rfl (.inl rfl) (pe_ifExp (PW.pt (pw_or (pt_cmpR op_isN (pv 5) pe_non (nomark _)) (pw_or (pt_cmpR op_isN (pv 7) pe_non (nomark _)) (pw_or1 (pt_cmpR op_gt (pe_op op_add (pe_callB call_len_seq (by rfl) T.z_len PySem.boot_len (pa_cons (pv 5) pa_nil)) (pe_callB call_len_seq (by rfl) T.z_len PySem.boot_len (pa_cons (pv 7) pa_nil))) (pv 2) (nomark _)))))) pe_non (pe_op op_cat (pv 5) (pv 7))))))))
        (pss_one (ps_expr (pe_bm PySem.F.plainAttrs_list PySem.F.slot_list_append PySem.F.type_list_append mt_append (pv 3) (pa_cons (pv 5) pa_nil)))))))
        (pss_one (ps_ret (pv 3))))), ?_⟩
    have m19 := hN.most
    have z1000 : 100000 ≤ sizeLine := by decide
    refine ⟨by show 0 ≤ sizeLine; decide, fun f hf => ?_⟩
    have sf := same_new (o := .lst []) hf
    refine ⟨_, rfl, ll, rfl, ⟨_, lstL (sf _ _ sa.ll)⟩, ?_⟩
    refine for_list (xs := refsV as_ (m + 1)) (fun k σ H' => ∃ (v : Nat → V) (z4 z5 z6 z7 : Option V), Same H H' ∧ H' f = some (.lst (valsV v k)) ∧ (∀ j, j < k → RowAt H' (v j) (flat L j).words ∧ v j ≠ .ref f) ∧ σ = [some (.ref nl), some (.ref ll), some (.int 1000), some (.ref f), z4, z5, z6, z7])
      ⟨fun _ => .non, none, none, none, none, sf, upd_same, fun j hj => absurd hj (Nat.not_lt_zero _), rfl⟩ (fun i σ H' hi hp => by obtain ⟨_, _, _, _, _, sm, _⟩ := hp; exact lstL (sm _ _ sa.ll)) (fun k x σ H1 hx hp => ?_) fun σ H' hp => ?_
    · obtain ⟨v, z4, z5, z6, z7, sm, ef, rows, rfl⟩ := hp
      obtain ⟨kl, rfl⟩ := refsV_at hx
      have km : k ≤ m := by omega
      have eak := sa.at_ k km
      refine ⟨by show 0 ≤ sizeLine; decide, fun r0 hr0 => ?_⟩
      have s0 := same_new (o := .lst []) hr0
      have nr0 : r0 ≠ f := Ne.symm (ne_of_none ef hr0)
      refine ⟨_, rfl, as_ k, rfl, ⟨_, lstL (s0 _ _ (sm _ _ eak))⟩, ?_⟩
      refine for_list (xs := wsV NL (L k).words) (fun i σ H' => ∃ (y : V) (z6 z7 : Option V), Same (upd H1 r0 (.lst [])) H' ∧ RowAt H' y (((L k).words.take i).flatMap (Nw.flat (flat L))) ∧ y ≠ .ref f ∧ σ = [some (.ref nl), some (.ref ll), some (.int 1000), some (.ref f), some (.ref (as_ k)), some y, z6, z7])
        ⟨.ref r0, z6, z7, fun _ _ e => e, .inr ⟨r0, rfl, upd_same, Nat.zero_le _⟩, fun z => nr0 (by injection z), rfl⟩ (fun i σ H' hi hp => by obtain ⟨_, _, _, s2, _⟩ := hp; exact lstL (s2 _ _ (s0 _ _ (sm _ _ eak)))) (fun i x σ H2 hx2 hp => ?_) fun σ H' hp => ?_
      · obtain ⟨y, z6, z7, s2, row, nyf, rfl⟩ := hp
        obtain ⟨x0, hx0, rfl⟩ := wsV_get hx2
        have xk := words_okN _ (hL.ok k km) x0 (List.mem_of_getElem? hx0)
        have xm : x0.okN m := by
          cases x0 with
          | wd _ => exact xk
          | nm _ => exact Nat.lt_of_lt_of_le xk km
        have et : ((L k).words.take (i + 1)).flatMap (Nw.flat (flat L)) = ((L k).words.take i).flatMap (Nw.flat (flat L)) ++ x0.flat (flat L) := by
          rw [List.take_succ, hx0, List.flatMap_append]
          show _ ++ (x0.flat (flat L) ++ []) = _
          rw [List.append_nil]
        have s02 := sm.trans (s0.trans s2)
        have enl2 := s02 _ _ sa.nl
        -- part
        refine ⟨_, rfl, by show 1 ≤ sizeLine; decide, fun p1 hp1 => ?_⟩
        have s3 := same_new (o := .lst [.str (x0.str NL)]) hp1
        have ef2 := s2 _ _ (s0 _ _ ef)
        have np1 : p1 ≠ f := Ne.symm (ne_of_none ef2 hp1)
        refine ⟨_, rfl, _, rfl, nl, _, rfl, .inl (lstL (s3 _ _ enl2)), rfl, nvs_flat NL, _, rfl, ?_⟩
        rw [in_names hN xm]
        cases x0
        case' wd x1 =>
          refine iteF ?_
          have prow : RowAt (upd H2 p1 (.lst [.str ((Nw.wd x1).str NL)])) (.ref p1) ((Nw.wd x1).flat (flat L)) := .inr ⟨p1, rfl, upd_same, (by decide : 1 ≤ 1000)⟩
          have npf : V.ref p1 ≠ .ref f := fun z => np1 (by injection z)
          obtain ⟨pt, ept⟩ : ∃ pt, pt = V.ref p1 := ⟨_, rfl⟩
          rw [← ept] at prow npf
          show Ends.nx _ [some (.ref nl), some (.ref ll), some (.int 1000), some (.ref f), some (.ref (as_ k)), some y, some (.str ((Nw.wd x1).str NL)), some (.ref p1)] _
          rw [← ept]
          clear ept
        case' nm j =>
          have jk : j < k := xk
          have jm : j < m := xm
          have efj := s3 _ _ ef2
          have prow : RowAt (upd H2 p1 (.lst [.str ((Nw.nm j).str NL)])) (v j) ((Nw.nm j).flat (flat L)) := (rows j jk).1.same (s0.trans (s2.trans s3))
          have npf : v j ≠ .ref f := (rows j jk).2
          refine iteT ⟨_, rfl, _, rfl, .inl ⟨rfl, _, lstL (s3 _ _ enl2)⟩, _, rfl, nl, _, _, j, .str (nmS (nmAt NL j)), rfl, rfl, lstL (s3 _ _ enl2), rfl, nvs_flat NL, nvs_index hN jm, beq_self_eq_true _, fun q z' hq hz => ?_, f, _, _, v j, rfl, rfl, lstL efj, atI_nat (valsV_get jk), ?_⟩
          · rw [nvs_index hN (show q < m by omega)] at hz
            obtain rfl := Option.some.inj hz
            refine beq_false_of_ne fun z => ?_
            have := hN.inj (by omega) jm (nmS_inj z)
            omega
          obtain ⟨pt, ept⟩ : ∃ pt, pt = v j := ⟨_, rfl⟩
          rw [← ept] at prow npf
          show Ends.nx _ [some (.ref nl), some (.ref ll), some (.int 1000), some (.ref f), some (.ref (as_ k)), some y, some (.str ((Nw.nm j).str NL)), some (v j)] _
          rw [← ept]
          clear ept
        all_goals
          rw [et]
          have row3 := row.same s3
          have s23 := s2.trans s3
          rcases row3 with ⟨rfl, rl⟩ | ⟨ya, rfl, ya1, ya2⟩
          · refine ⟨_, rfl, rfl, true, rfl, iteT (iteT ⟨.non, _, _, s23, .inl ⟨rfl, ?_⟩, nofun, rfl⟩)⟩
            rw [List.length_append]
            omega
          · rcases prow with ⟨rfl, pl⟩ | ⟨pa, rfl, pa1, pa2⟩
            · refine ⟨_, rfl, rfl, false, rfl, iteF ⟨_, rfl, rfl, true, rfl, iteT (iteT ⟨.non, _, _, s23, .inl ⟨rfl, ?_⟩, nofun, rfl⟩)⟩⟩
              rw [List.length_append]
              omega
            · have ly : ∀ ws : List Wd, (wstrs ws).length = ws.length := fun ws => List.length_map ..
              refine ⟨_, rfl, rfl, false, rfl, iteF ⟨_, rfl, rfl, false, rfl, iteF ⟨_, rfl, ya, _, rfl, .inl (lstL ya1), _, rfl, pa, _, rfl, .inl (lstL pa1), _, _, rfl, rfl, _, rfl, _, _, rfl, rfl, _, rfl, ?_⟩⟩⟩
              rw [ly, ly]
              refine ite2 (fun e => ?_) (fun e => ?_)
              · have e := of_decide_eq_true e
                refine ⟨.non, _, _, s23, .inl ⟨rfl, ?_⟩, nofun, rfl⟩
                rw [List.length_append]
                omega
              · have e : ¬ _ := fun z => e (decide_eq_true z)
                refine ⟨_, rfl, _, rfl, ya, pa, _, _, rfl, rfl, ya1, pa1, by rw [ly, ly]; omega, fun p2 hp2 => ?_⟩
                have s4 := fun o => same_new (o := o) hp2
                have np2 : p2 ≠ f := Ne.symm (ne_of_none (s3 _ _ ef2) hp2)
                refine ⟨.ref p2, _, _, s23.trans (s4 _), .inr ⟨p2, rfl, ?_, ?_⟩, fun z => np2 (by injection z), rfl⟩
                · rw [upd_same]
                  unfold wstrs
                  rw [List.map_append]
                · rw [List.length_append]
                  omega
      · obtain ⟨y, z6, z7, s2, row, nyf, rfl⟩ := hp
        have wl : (wsV NL (L k).words).length = (L k).words.length := List.length_map ..
        have efl : ((L k).words.flatMap (Nw.flat (flat L))) = (flat L k).words := by
          rw [← Ns.sub_words, ← flat_eq hL.ok km]
        rw [wl, List.take_length, efl] at row
        have ef2 := s2 _ _ (s0 _ _ ef)
        have s02 := s0.trans s2
        have hfH := hf
        have stay : ∀ {u : V} {ws : List Wd} {o : HO}, u ≠ .ref f → RowAt H' u ws → RowAt (upd H' f o) u ws := fun n h => by
          rcases h with h | ⟨a, rfl, h1, h2⟩
          · exact .inl h
          · exact .inr ⟨a, rfl, (upd_ne (fun z => n (by rw [z]))).trans h1, h2⟩
        refine ⟨_, rfl, .inl ⟨rfl, _, lstL ef2⟩, _, rfl, f, _, _, rfl, rfl, ef2, by rw [valsV_len]; omega, upF v k y, _, _, _, _, fun x o e => ?_, ?_, fun j hj => ?_, rfl⟩
        · rw [upd_ne (ne_of_none e hf)]
          exact s02 _ _ (sm _ _ e)
        · rw [upd_same, valsV_up]
        · by_cases hjk : j = k
          · rw [hjk, upF_same]
            exact ⟨stay nyf row, nyf⟩
          · rw [upF_ne hjk]
            obtain ⟨q1, q2⟩ := rows j (by omega)
            exact ⟨stay q2 (q1.same s02), q2⟩
    · obtain ⟨v, z4, z5, z6, z7, sm, ef, rows, rfl⟩ := hp
      rw [refsV_len] at ef rows
      exact ⟨_, rfl, q f v H' sm ef fun k hk => (rows k (by omega)).1⟩
end
end K09P

set_option Elab.async false
set_option linter.all false
set_option maxRecDepth 100000
set_option maxHeartbeats 4000000
namespace K09P
open PySem PySem.Spec PyProof.Rows L2 RT WM K09 TL
section
variable {P : Program} {w : World} {K : PySem.W.Frag} {mg : Str → Option Value} {base : Heap}
def spText (K : PySem.W.Frag) : Sp := fun vs H Q _ => ∃ a p, vs = [.ref a] ∧ IsP K H a p ∧ Q (.str (textOf p.words)) H
theorem ok_text (D : Ds K) (T : Tx K mg) : FnOk P w K mg base CX0 1 (dProgram_text.adr K) D.fd_Program_text ["self"] (spText K) := by
  refine D.F_Program_text.ok scProgram_text (fun vs H Q E h => ?_) (fun cdv A outer s H vs Q E hr h => ?_)
  · obtain ⟨a, p, rfl, _⟩ := h
    rfl
  · obtain ⟨a, p, rfl, ⟨_, _, _, d, wd, t, us, ea, ew, et, pt⟩, q⟩ := h
    exact ⟨_, PSs.nox (pss_one (ps_ret (pe_fld (pv 0) rfl))), _, rfl, a, _, d, _, _, rfl, ea, T.c_Program, T.n_Program__text, rfl, q⟩
def spDepth (K : PySem.W.Frag) : Sp := fun vs H Q _ => ∃ a p, vs = [.ref a] ∧ IsP K H a p ∧ Q (.int (p.lev : Int)) H
theorem ok_depth (D : Ds K) (T : Tx K mg) : FnOk P w K mg base CX0 1 (dProgram_depth.adr K) D.fd_Program_depth ["self"] (spDepth K) := by
  refine D.F_Program_depth.ok scProgram_depth (fun vs H Q E h => ?_) (fun cdv A outer s H vs Q E hr h => ?_)
  · obtain ⟨a, p, rfl, _⟩ := h
    rfl
  · obtain ⟨a, p, rfl, ⟨_, _, _, d, wd, t, us, ea, ew, et, pt⟩, q⟩ := h
    exact ⟨_, PSs.nox (pss_one (ps_ret (pe_fld (pv 0) rfl))), _, rfl, a, _, d, _, _, rfl, ea, T.c_Program, T.n_Program__depth, rfl, q⟩
def spLenP (K : PySem.W.Frag) : Sp := fun vs H Q _ => ∃ a p, vs = [.ref a] ∧ IsP K H a p ∧ Q (.int (p.words.length : Int)) H
theorem ok_lenP (D : Ds K) (T : Tx K mg) : FnOk P w K mg base CX0 1 (dProgram_len.adr K) D.fd_Program_len ["self"] (spLenP K) := by
  refine D.F_Program_len.ok scProgram_len (fun vs H Q E h => ?_) (fun cdv A outer s H vs Q E hr h => ?_)
  · obtain ⟨a, p, rfl, _⟩ := h
    rfl
  · obtain ⟨a, p, rfl, ⟨_, _, _, d, wd, t, us, ea, ew, et, pt⟩, q⟩ := h
    refine ⟨_, PSs.nox (pss_one (ps_ret (pe_callB call_len_seq (by rfl) T.z_len PySem.boot_len (pa_cons (pe_fld (pv 0) rfl) pa_nil)))), ?_⟩
    refine ⟨_, rfl, a, _, d, _, _, rfl, ea, T.c_Program, T.n_Program__words, rfl, wd, _, rfl, .inr (tupT ew), ?_⟩
    have e : (wstrs p.words).length = p.words.length := List.length_map ..
    rw [e]
    exact q
def spCheckP (K : PySem.W.Frag) : Sp := fun vs H Q _ => ∃ a p, vs = [.ref a] ∧ IsP K H a p ∧ Q .non H
theorem ok_checkP (D : Ds K) (T : Tx K mg) : FnOk P w K mg base CX0 1 (dcheck_program.adr K) D.fd_check_program ["program"] (spCheckP K) := by
  refine D.F_check_program.ok sccheck_program (fun vs H Q E h => ?_) (fun cdv A outer s H vs Q E hr h => ?_)
  · obtain ⟨a, p, rfl, _⟩ := h
    rfl
  · obtain ⟨a, p, rfl, ⟨_, _, _, d, wd, t, us, ea, ew, et, pt⟩, q⟩ := h
    refine ⟨_, PSs.nox (pss_one (ps_if (pt_not (pt_val (pe_callB call_isiY (by rfl) T.z_isinstance (by decide +kernel) (pa_cons (pv 0) (pa_cons (pe_glob (v := .ref (He.ga K "Program")) rfl T.g_Program rfl) pa_nil))))) (pss_one ps_never) pss_nil)), ?_⟩
    exact ⟨_, rfl, _, .ref (He.ga K "Program"), _, _, true, rfl, .own _, .base (.base (.ins ea T.c_Program T.i_Program.ha T.i_Program.hn T.i_Program.ht T.i_Program.hm)), T.t_Program, true, rfl, iteF q⟩
/-- == with another program: by the texts -/
def spEqP (K : PySem.W.Frag) : Sp := fun vs H Q _ => ∃ a p v, vs = [.ref a, v] ∧ IsP K H a p ∧
  ((∃ b r, v = .ref b ∧ IsP K H b r ∧ Q (.bl (decide (textOf p.words = textOf r.words))) H) ∨ (∃ Ty, TyY K H v (.type Ty) ∧ Ty ∈ (["NoneType", "int", "str", "list", "tuple"] : List String) ∧ Q (.bl false) H))
theorem ok_eqP (D : Ds K) (T : Tx K mg) : FnOk P w K mg base CX0 1 (dProgram_eq.adr K) D.fd_Program_eq ["self", "other"] (spEqP K) := by
  refine D.F_Program_eq.ok scProgram_eq (fun vs H Q E h => ?_) (fun cdv A outer s H vs Q E hr h => ?_)
  · obtain ⟨a, p, v, rfl, _⟩ := h
    rfl
  · obtain ⟨a, p, v, rfl, ⟨_, _, _, d, wd, t, us, ea, ew, et, pt⟩, h⟩ := h
    refine ⟨_, PSs.nox (pss_one (ps_ret (pe_and (pe_callB call_isiY (by rfl) T.z_isinstance (by decide +kernel) (pa_cons (pv 1) (pa_cons (pe_glob (v := .ref (He.ga K "Program")) rfl T.g_Program rfl) pa_nil)))
      (pe_one (pe_cmpR op_eq (pe_fld (pv 0) rfl) (pe_fld (pv 1) rfl) (nomark _)))))), ?_⟩
    rcases h with ⟨b, r, rfl, ⟨_, _, _, d2, wd2, t2, us2, eb, _⟩, q⟩ | ⟨Ty, ty, tm, q⟩
    · refine ⟨_, rfl, _, .ref (He.ga K "Program"), _, _, true, rfl, .own _, .base (.base (.ins eb T.c_Program T.i_Program.ha T.i_Program.hn T.i_Program.ht T.i_Program.hm)), T.t_Program, true, rfl, iteT ?_⟩
      refine ⟨_, rfl, a, _, d, _, _, rfl, ea, T.c_Program, T.n_Program__text, rfl, _, rfl, b, _, d2, _, _, rfl, eb, T.c_Program, T.n_Program__text, rfl, rfl, ?_⟩
      rw [show decide (V.str (textOf p.words) = V.str (textOf r.words)) = decide (textOf p.words = textOf r.words) from decide_eq_decide.mpr ⟨fun z => by injection z, fun z => by rw [z]⟩]
      exact q
    · have kt : PySem.W.kitOne K (.type Ty) (.ref (He.ga K "Program")) = some false := by
        simp only [List.mem_cons, List.not_mem_nil, or_false] at tm
        rcases tm with rfl | rfl | rfl | rfl | rfl
        · exact T.kt_none
        · exact T.kt_int
        · exact T.kt_str
        · exact T.kt_list
        · exact T.kt_tuple
      exact ⟨_, rfl, _, .ref (He.ga K "Program"), _, _, false, rfl, .own _, ty, kt, false, rfl, iteF q⟩
end
end K09P

set_option Elab.async false
set_option linter.all false
set_option maxRecDepth 100000
set_option maxHeartbeats 4000000
namespace K09P
open PySem PySem.Spec PyProof.Rows L2 RT WM K09 TL
theorem wstrs_map (ws : List Wd) : wstrs ws = (ws.map Wd.str).map V.str := by
  unfold wstrs
  rw [List.map_map]
  rfl
theorem lens_le : ∀ {ws : List Wd}, (∀ x ∈ ws, x.ok) → ((ws.map Wd.str).map (·.length)).sum ≤ ws.length * 32
  | [], _ => Nat.le_refl _
  | x :: ws, h => by
    have h1 := lens_le fun z hz => h z (List.mem_cons_of_mem _ hz)
    have h2 := cps_len (h x (List.mem_cons_self ..))
    have h3 : x.str.length = x.cps.length := WM.len_tl x.str
    simp only [List.map_cons, List.sum_cons, List.length_cons] at h1 ⊢
    omega
section
variable {P : Program} {w : World} {K : PySem.W.Frag} {mg : Str → Option Value} {base : Heap}
theorem make_p {H : Hp} {p : Ps} {t : Str} {Q : VK} {E : XK} {x d : Addr} (hx : H x = none) (hd : H d = none) (et : t = textOf p.words) (hp : p.ok) (hl : p.lev ≤ 12) (hw : p.words.length ≤ 1000) (q : ∀ H', Same H H' → IsP K H' x p → Q .non H') :
    spProg K (.ref x :: ([.str t] ++ [])) (upd (upd H d (.own x)) x (.ins (He.ga K "Program") d [])) Q E := by
  subst et
  exact ⟨x, d, p, rfl, upd_same, hp, hl, hw, fun H' k m => q H' (fun b o e => k b o (ne_of_none e hx) (by rw [upd_ne (ne_of_none e hx), upd_ne (ne_of_none e hd)]; exact e)) m⟩
def spAddP (K : PySem.W.Frag) : Sp := fun vs H Q _ => ∃ a b p q, vs = [.ref a, .ref b] ∧ IsP K H a p ∧ IsP K H b q ∧ p.words.length + q.words.length ≤ 1000 ∧ ∀ r H', Same H H' → IsP K H' r (p.app q) → Q (.ref r) H'
theorem ok_addP (D : Ds K) (T : Tx K mg) : FnOk P w K mg base CX0 21 (dProgram_add.adr K) D.fd_Program_add ["self", "other"] (spAddP K) := by
  have GC : FnOk P w K mg base CX0 1 _ _ _ (spCheckP K) := ok_checkP D T
  have GI : FnOk P w K mg base CX0 19 _ _ _ (spProg K) := ok_prog D T
  refine D.F_Program_add.ok scProgram_add (fun vs H Q E h => ?_) (fun cdv A outer s H vs Q E hr h => ?_)
  · obtain ⟨a, b, p, q, rfl, _⟩ := h
    rfl
  · obtain ⟨a, b, p, q, rfl, ha, hb, hle, k⟩ := h
    obtain ⟨tW, vW⟩ := T.v_MOST_WORDS
    refine ⟨_, PSs.nox (pss_cons (ps_expr (pe_call GC (hr.mono (by decide)) (by rfl) T.g_check_program D.F_check_program.kp (b_check_program D) .nil pass0 (pa_cons (pv 1) pa_nil)))
      (pss_cons (ps_if (pt_cmpR op_gt (pe_op op_add (pe_callB call_len_seq (by rfl) T.z_len PySem.boot_len (pa_cons (pe_fld (pv 0) rfl) pa_nil)) (pe_callB call_len_seq (by rfl) T.z_len PySem.boot_len (pa_cons (pe_fld (pv 1) rfl) pa_nil))) (pe_glob (v := .int 1000) rfl vW ⟨_, rfl⟩) (nomark _)) (pss_one ps_never) pss_nil)
      (pss_one (ps_ret (pe_make T.k_Program GI hr (by rfl) T.g_Program (b_Program_init D) .nil pass0 (pa_cons (pe_join pe_str (pe_op op_catA (pe_fld (pv 0) rfl) (pe_fld (pv 1) rfl))) pa_nil)))))), ?_⟩
    obtain ⟨op, lp, wp, d1, wd1, t1, us1, ea, ew1, et1, pt1⟩ := id ha
    obtain ⟨oq, lq, wq, d2, wd2, t2, us2, eb, ew2, et2, pt2⟩ := id hb
    have e1 : (wstrs p.words).length = p.words.length := List.length_map ..
    have e2 : (wstrs q.words).length = q.words.length := List.length_map ..
    refine ⟨_, rfl, b, q, rfl, hb, ?_⟩
    refine ⟨_, rfl, a, _, d1, _, _, rfl, ea, T.c_Program, T.n_Program__words, rfl, wd1, _, rfl, .inr (tupT ew1), _, rfl, b, _, d2, _, _, rfl, eb, T.c_Program, T.n_Program__words, rfl, wd2, _, rfl, .inr (tupT ew2), _, _, rfl, rfl, _, _, rfl, rfl, false, ?_, iteF ?_⟩
    · rw [e1, e2]
      exact congrArg V.bl (decide_eq_false (by omega))
    have aw : (p.app q).words = p.words ++ q.words := app_words p q
    have aok := app_ok op oq
    have al : (p.app q).lev ≤ 12 := by
      rw [app_lev]
      omega
    have alen : (p.app q).words.length ≤ 1000 := by
      rw [aw, List.length_append]
      exact hle
    have sums : (((p.app q).words.map Wd.str).map (·.length)).sum + ((p.app q).words.map Wd.str).length * (" " : Str).length ≤ 16777216 := by
      have h1 := lens_le (words_ok _ aok)
      have h2 : (" " : Str).length = 1 := rfl
      rw [List.length_map, h2]
      omega
    have fin : ∀ (z : Addr) (H1 : Hp), Same H H1 → H1 z = some (.tup (wstrs (p.app q).words)) → ∀ {R : Addr → Hp → Prop}, (∀ r H', Same H1 H' → IsP K H' r (p.app q) → R r H') → ∀ {t : Str}, t = textOf (p.app q).words → ∀ x dx, H1 x = none → H1 dx = none → dx ≠ x → spProg K (.ref x :: ([.str t] ++ [])) (upd (upd H1 dx (.own x)) x (.ins (He.ga K "Program") dx [])) (fun v H2 => v = .non ∧ R x H2) E0 :=
      fun z H1 s1 ez R hR t et x dx nx nd _ => make_p nx nd et aok al alen fun H2 s2 hp2 => ⟨rfl, hR x H2 s2 hp2⟩
    refine ⟨⟨_, rfl⟩, ?_⟩
    refine ⟨_, rfl, a, _, d1, _, _, rfl, ea, T.c_Program, T.n_Program__words, rfl, _, rfl, b, _, d2, _, _, rfl, eb, T.c_Program, T.n_Program__words, rfl, wd1, wd2, _, _, rfl, rfl, tupT ew1, tupT ew2, ?_, fun z => ?_, fun z1 z2 => ?_, fun z1 z2 y ny => ?_⟩
    · rw [e1, e2]
      exact Nat.le_trans hle (by decide)
    · have z : p.words = [] := List.map_eq_nil_iff.mp z
      have ew : (p.app q).words = q.words := by rw [aw, z]; rfl
      refine ⟨_, wd2, (p.app q).words.map Wd.str, rfl, rfl, .inr (tupT (by rw [← wstrs_map, ew]; exact ew2)), sums, ?_⟩
      exact fin wd2 H (fun _ _ e => e) (by rw [ew]; exact ew2) (fun r H' s h => k r H' s h) (join_eq _ _)
    · have z2 : q.words = [] := List.map_eq_nil_iff.mp z2
      have ew : (p.app q).words = p.words := by rw [aw, z2, List.append_nil]
      refine ⟨_, wd1, (p.app q).words.map Wd.str, rfl, rfl, .inr (tupT (by rw [← wstrs_map, ew]; exact ew1)), sums, ?_⟩
      exact fin wd1 H (fun _ _ e => e) (by rw [ew]; exact ew1) (fun r H' s h => k r H' s h) (join_eq _ _)
    · have sy := same_new (o := .tup (wstrs p.words ++ wstrs q.words)) ny
      have ey : upd H y (.tup (wstrs p.words ++ wstrs q.words)) y = some (.tup (wstrs (p.app q).words)) := by
        rw [upd_same, aw]
        unfold wstrs
        rw [List.map_append]
      refine ⟨_, y, (p.app q).words.map Wd.str, rfl, rfl, .inr (tupT (by rw [← wstrs_map]; exact ey)), sums, ?_⟩
      exact fin y _ sy ey (fun r H' s h => k r H' (sy.trans s) h) (join_eq _ _)
end
end K09P

set_option Elab.async false
set_option linter.all false
set_option maxRecDepth 100000
set_option maxHeartbeats 4000000
set_option exponentiation.threshold 3000
namespace K09P
open PySem PySem.Spec PyProof.Rows L2 RT WM K09 TL
theorem for_keys {d : Addr} {o : Obj} {kvs : List (Key × V)} {g : TG} {tb : TS} {D : Ends} {σ : L2.St} {H : Hp} (Pv : Nat → L2.St → Hp → Prop) (h0 : Pv 0 σ H) (hl : ∀ i σ H, i ≤ kvs.length → Pv i σ H → H d = some (.frz o (.dK kvs)))
    (hs : ∀ i k v σ H, kvs[i]? = some (k, v) → Pv i σ H → g (kV k) σ H fun σ2 H2 => tb { D with nx := Pv (i + 1), ct := Pv (i + 1), bk := D.nx } σ2 H2) (hd : ∀ σ H, Pv kvs.length σ H → D.nx σ H) :
    ∃ W : Nat → Nat → L2.St → Hp → Prop, (∃ m, W 0 m σ H) ∧ ∀ i m σ H, W i m σ H →
      ((Itk d o kvs).stop i H ∧ D.nx σ H) ∨ ((Itk d o kvs).go i H ∧ ∃ N : L2.St → Hp → Prop, (∀ σ' H', N σ' H' → ∃ m', m' < m ∧ W (i + 1) m' σ' H') ∧ ∀ x H', (Itk d o kvs).yld i H x H' → g x σ H' fun σ2 H2 => tb { D with nx := N, ct := N, bk := D.nx } σ2 H2) := by
  refine ⟨fun i m σ H => m = kvs.length - i ∧ i ≤ kvs.length ∧ Pv i σ H, ⟨kvs.length, by simp, Nat.zero_le _, h0⟩, ?_⟩
  rintro i m σ H ⟨rfl, hi, p⟩
  have q := hl i σ H hi p
  by_cases h : i < kvs.length
  · refine .inr ⟨⟨q, h⟩, Pv (i + 1), fun σ' H' p' => ⟨kvs.length - (i + 1), by omega, rfl, by omega, p'⟩, fun x H' y => ?_⟩
    obtain ⟨rfl, k, v, hk, rfl⟩ := y
    exact hs i k v σ _ hk p
  · refine .inl ⟨⟨q, by omega⟩, hd σ H ?_⟩
    rw [show kvs.length = i by omega]
    exact p
theorem deep_succ {g : Nat → Nat} {s : Int × Int} {ws : List Nw} {i : Nat} {x : Nw} (h : ws[i]? = some x) : deepF g s (ws.take (i + 1)) = deepS g (deepF g s (ws.take i)) x := by
  unfold deepF
  rw [List.take_succ, h, List.foldl_append]
  rfl
theorem many_succ {g : Nat → Nat} {ws : List Nw} {i : Nat} {x : Nw} (h : ws[i]? = some x) : manyF g (ws.take (i + 1)) = manyF g (ws.take i) + nwN 1 g x := by
  unfold manyF
  rw [List.take_succ, h, List.map_append, List.sum_append]
  rfl
section
variable {P : Program} {w : World} {K : PySem.W.Frag} {mg : Str → Option Value} {base : Heap}
/-- what is known of the names in a dict of measures -/
structure Meas (H : Hp) (NL : List (List Nat)) (k : Nat) (d : Addr) (mn lv : Nat → Nat) (kvs : List (Key × V)) (t : Nat → Addr) : Prop where
  dict : H d = some (.dK kvs)
  dct : Dct NL k kvs fun i => .ref (t i)
  at_ : ∀ i, i < k → H (t i) = some (.tup [.int (mn i : Int), .int (lv i : Int)])
theorem Meas.same {H H' : Hp} {NL : List (List Nat)} {k : Nat} {d : Addr} {mn lv : Nat → Nat} {kvs : List (Key × V)} {t : Nat → Addr} (h : Meas H NL k d mn lv kvs t) (s : Same H H') : Meas H' NL k d mn lv kvs t := ⟨s _ _ h.dict, h.dct, fun i hi => s _ _ (h.at_ i hi)⟩
def spMeasure (K : PySem.W.Frag) : Sp := fun vs H Q _ => ∃ (a b : Addr) (NL : List (List Nat)) (m k : Nat) (kvs : List (Key × V)) (t : Nat → Addr) (mn lv : Nat → Nat) (ws : List Nw), vs = [.ref a, .ref b] ∧ SqL K H a (wsV NL ws) ∧ Names NL m ∧ k ≤ m ∧ Meas H NL k b mn lv kvs t ∧ (∀ x ∈ ws, x.okN k) ∧
  ∀ r H', Same H H' → H' r = some (.tup [.int (manyF mn ws : Int), .int (deepF lv (0, 0) ws).2]) → Q (.ref r) H'
theorem ok_measure (D : Ds K) (T : Tx K mg) : FnOk P w K mg base CX0 1 (d_measure.adr K) D.fd__measure ["words", "measures"] (spMeasure K) := by
  refine D.F__measure.ok sc_measure (fun vs H Q E h => ?_) (fun cdv A outer s H vs Q E hr h => ?_)
  · obtain ⟨a, b, NL, m, k, kvs, t, mn, lv, ws, rfl, _⟩ := h
    rfl
  · obtain ⟨a, b, NL, m, k, kvs, t, mn, lv, ws, rfl, ha, hN, hkm, me, oks, q⟩ := h
    have nd := sc_measure.nd
    refine ⟨_, PSs.nox (pss_cons (ps_set (i := 2) nd rfl (.inl rfl) pe_int)
        (pss_cons (ps_set (i := 3) nd rfl (.inl rfl) pe_int)
        (pss_cons (ps_set (i := 4) nd rfl (.inl rfl) pe_int)
        (pss_cons (ps_for PassesOwn.never rfl (pi_list (pv 0)) (pg_name (i := 5) nd rfl (.inl rfl))
        (pss_cons (ps_set (i := 4) nd rfl (.inl rfl) (pe_op op_sub (pe_op op_add (pv 4) (pe_callTy call_int1 (by rfl) T.z_int (by decide +kernel) (pa_cons (pe_cmpR op_eq (pv 5) pe_str (nomark _)) pa_nil))) (pe_callTy call_int1 (by rfl) T.z_int (by decide +kernel) (pa_cons (pe_m1 PySem.F.slot_str_startswith PySem.F.type_str_startswith mt_startswith (pv 5) pe_str) pa_nil))))
        (pss_cons (ps_asg (pe_dget2 (hu_of hr) (pv 1) (pv 5) (pe_tup (pa_cons pe_int (pa_cons pe_int pa_nil))) ⟨rfl, rfl, rfl, rfl⟩) (pg_tup (by rfl) (pgs_cons (pg_name (i := 6) nd rfl (.inl rfl)) (pgs_cons (pg_name (i := 7) nd rfl (.inl rfl)) pgs_nil))))
        (pss_cons (ps_set (i := 2) nd rfl (.inl rfl) (pe_op op_add (pv 2) (pv 6)))
        (pss_one (ps_set (i := 3) nd rfl (.inl rfl) (pe_callB (call_max2 rfl) (by rfl) T.z_max (by decide +kernel) (pa_cons (pv 3) (pa_cons (pe_op op_add (pv 4) (pv 7)) pa_nil)))))))))
        (pss_one (ps_ret (pe_tup (pa_cons (pv 2) (pa_cons (pv 3) pa_nil))))))))), ?_⟩
    refine ⟨_, rfl, a, rfl, ⟨_, ha⟩, ?_⟩
    refine for_list (xs := wsV NL ws) (fun i σ H' => ∃ z5 z6 z7, Same H H' ∧ σ = [some (.ref a), some (.ref b), some (.int (manyF mn (ws.take i) : Int)), some (.int (deepF lv (0, 0) (ws.take i)).2), some (.int (deepF lv (0, 0) (ws.take i)).1), z5, z6, z7])
      ⟨none, none, none, fun _ _ e => e, rfl⟩ (fun i σ H' hi hp => by obtain ⟨_, _, _, sm, _⟩ := hp; exact Same.sql sm ha) (fun i x σ H1 hx hp => ?_) fun σ H' hp => ?_
    · obtain ⟨z5, z6, z7, sm, rfl⟩ := hp
      obtain ⟨y, hy, rfl⟩ := wsV_get hx
      have yo := oks y (List.mem_of_getElem? hy)
      have yom : y.okN m := by
        cases y with
        | wd _ => exact yo
        | nm _ => exact Nat.lt_of_lt_of_le yo hkm
      have hval := me.dct.word hN hkm yo
      rw [deep_succ hy, many_succ hy]
      generalize deepF lv (0, 0) (ws.take i) = dd
      generalize manyF mn (ws.take i) = mm
      obtain ⟨l0, d0⟩ := dd
      refine ⟨_, rfl, _, rfl, rfl, .inr ⟨_, rfl, ?_⟩⟩
      rw [nw_op hN yom]
      refine ⟨_, _, rfl, rfl, _, rfl, ⟨_, rfl⟩, _, _, rfl, rfl, .inr ⟨_, rfl, ?_⟩⟩
      rw [nw_cl hN yom]
      refine ⟨_, _, rfl, rfl, ?_⟩
      have est : l0 + (if isOp y.shw = true then 1 else 0) - (if isCl y.shw = true then 1 else 0) = l0 + WM.step y.shw := by
        unfold WM.step b2
        omega
      show tSeq _ _ _ [some (.ref a), some (.ref b), some (.int (mm : Int)), some (.int d0), some (.int (l0 + (if isOp y.shw = true then 1 else 0) - (if isCl y.shw = true then 1 else 0))), some (.str (y.str NL)), z6, z7] _
      rw [est]
      have emax : ∀ p q : Int, (if q > p then q else p) = max p q := fun p q => by omega
      refine ⟨_, rfl, b, rfl, .inl ⟨_, .inl (sm _ _ me.dict)⟩, _, rfl, by show 2 ≤ sizeLine; decide, fun p hp => ⟨_, dgetW ((sm.trans (same_new hp)) _ _ me.dict) hval, ?_⟩⟩
      have sp := sm.trans (same_new (o := .tup [.int 1, .int 0]) hp)
      have fin : ∀ (M V0 : Nat) (q : Addr), M = nwN 1 mn y → V0 = nwN 0 lv y → upd H1 p (.tup [.int 1, .int 0]) q = some (.tup [.int (M : Int), .int (V0 : Int)]) → ∀ {R : Prop}, True := fun _ _ _ _ _ _ _ => trivial
      cases y with
      | wd x =>
        refine ⟨p, _, rfl, tupT upd_same, rfl, _, _, rfl, _, _, rfl, rfl, ?_⟩
        refine ⟨_, rfl, _, rfl, _, _, rfl, rfl, ?_⟩
        refine ⟨_, rfl, _, rfl, _, rfl, _, _, rfl, rfl, _, _, rfl, some (.str (Nw.str NL (Nw.wd x))), some (.int 1), some (.int 0), sp, ?_⟩
        show [some (V.ref a), some (V.ref b), some (V.int ((mm : Int) + 1)), some (V.int (if l0 + WM.step (Nw.wd x).shw + 0 > d0 then _ else _)), _, _, _, _] = _
        rw [emax]
        rfl
      | nm j =>
        refine ⟨t j, _, rfl, tupT (sp _ _ (me.at_ j yo)), rfl, _, _, rfl, _, _, rfl, rfl, ?_⟩
        refine ⟨_, rfl, _, rfl, _, _, rfl, rfl, ?_⟩
        refine ⟨_, rfl, _, rfl, _, rfl, _, _, rfl, rfl, _, _, rfl, some (.str (Nw.str NL (Nw.nm j))), some (.int (mn j : Int)), some (.int (lv j : Int)), sp, ?_⟩
        show [some (V.ref a), some (V.ref b), some (V.int ((mm : Int) + (mn j : Int))), some (V.int (if l0 + WM.step (Nw.nm j).shw + (lv j : Int) > d0 then _ else _)), _, _, _, _] = _
        rw [emax, ← Int.natCast_add]
        rfl
    · obtain ⟨z5, z6, z7, sm, rfl⟩ := hp
      have len : (wsV NL ws).length = ws.length := List.length_map ..
      rw [len, List.take_length]
      refine ⟨_, rfl, _, rfl, by show 2 ≤ sizeLine; decide, fun r hr => q r _ (sm.trans (same_new hr)) upd_same⟩
/-- the lines of a source in the dict of names -/
structure Nmd (H : Hp) (NL : List (List Nat)) (L : Nat → Ns) (m : Nat) (kvs : List (Key × V)) (as_ : Nat → Addr) : Prop where
  dct : Dct NL m kvs fun i => .ref (as_ i)
  at_ : ∀ i, i < m → H (as_ i) = some (.lst (wsV NL (L i).words))
theorem Nmd.same {H H' : Hp} {NL : List (List Nat)} {L : Nat → Ns} {m : Nat} {kvs : List (Key × V)} {as_ : Nat → Addr} (h : Nmd H NL L m kvs as_) (s : Same H H') : Nmd H' NL L m kvs as_ := ⟨h.dct, fun i hi => s _ _ (h.at_ i hi)⟩
def spRepl (K : PySem.W.Frag) (d : Nat) : Sp := fun vs H Q _ => ∃ (a b : Addr) (NL : List (List Nat)) (L : Nat → Ns) (m k : Nat) (kvs : List (Key × V)) (as_ : Nat → Addr) (ws : List Nw), vs = [.ref a, .ref b] ∧ k < d ∧ k ≤ m ∧ SqL K H a (wsV NL ws) ∧ H b = some (.dK kvs) ∧ Names NL m ∧ Lines L m ∧ Nmd H NL L m kvs as_ ∧ (∀ x ∈ ws, x.okN k) ∧ (ws.flatMap (Nw.flat (flat L))).length ≤ 1000 ∧
  ∀ r H', Same H H' → H r = none → H' r = some (.lst (wstrs (ws.flatMap (Nw.flat (flat L))))) → Q (.ref r) H'
theorem ok_repl (D : Ds K) (T : Tx K mg) : ∀ d, FnOk P w K mg base CX0 (1 + d) (d_replaced.adr K) D.fd__replaced ["words", "named"] (spRepl K d) := by
  intro d
  induction d with
  | zero =>
    refine D.F__replaced.ok sc_replaced (fun vs H Q E h => ?_) (fun cdv A outer s H vs Q E hr h => ?_)
    · obtain ⟨a, b, NL, L, m, k, kvs, as_, ws, rfl, _⟩ := h
      rfl
    · obtain ⟨a, b, NL, L, m, k, kvs, as_, ws, rfl, h0, _⟩ := h
      exact absurd h0 (Nat.not_lt_zero _)
  | succ d ih =>
  refine D.F__replaced.ok sc_replaced (fun vs H Q E h => ?_) (fun cdv A outer s H vs Q E hr h => ?_)
  · obtain ⟨a, b, NL, L, m, k, kvs, as_, ws, rfl, _⟩ := h
    rfl
  · obtain ⟨a, b, NL, L, m, k, kvs, as_, ws, rfl, hkd, hkm, ha, hb, hN, hL, nm, oks, len, q⟩ := h
    have nd := sc_replaced.nd
    have hr' : Room (1 + d) _ := hr
    refine ⟨_, PSs.nox (pss_cons (ps_set (i := 2) nd rfl (.inl rfl) (pe_lst pa_nil))
        (pss_cons (ps_for PassesOwn.never rfl (pi_list (pv 0)) (pg_name (i := 3) nd rfl (.inl rfl))
        (pss_one (ps_if (pt_cmp (pc_din (hu_of hr) (pv 3) (pv 1)))
        (pss_one (ps_expr (pe_bm PySem.F.plainAttrs_list PySem.F.slot_list_extend PySem.F.type_list_extend mt_extend (pv 2) (pa_cons (pe_call ih hr' (by rfl) T.g__replaced D.F__replaced.kp (b__replaced D) .nil pass0 (pa_cons (pe_dget (hu_of hr) (pv 1) (pv 3) (fun _ _ => rfl)) (pa_cons (pv 1) pa_nil))) pa_nil))))
        (pss_one (ps_expr (pe_bm PySem.F.plainAttrs_list PySem.F.slot_list_append PySem.F.type_list_append mt_append (pv 2) (pa_cons (pv 3) pa_nil)))))))
        (pss_one (ps_ret (pv 2))))), ?_⟩
    refine ⟨by show 0 ≤ sizeLine; decide, fun f hf => ?_⟩
    have sf := same_new (o := .lst []) hf
    have nfb : f ≠ b := Ne.symm (ne_of_none hb hf)
    refine ⟨_, rfl, a, rfl, ⟨_, Same.sql sf ha⟩, ?_⟩
    refine for_list (xs := wsV NL ws) (fun i σ H' => ∃ z3, Same H H' ∧ H' f = some (.lst (wstrs ((ws.take i).flatMap (Nw.flat (flat L))))) ∧ σ = [some (.ref a), some (.ref b), some (.ref f), z3])
      ⟨none, sf, upd_same, rfl⟩ (fun i σ H' hi hp => by obtain ⟨_, sm, _⟩ := hp; exact Same.sql sm ha) (fun i x σ H1 hx hp => ?_) fun σ H' hp => ?_
    · obtain ⟨z3, sm, ef, rfl⟩ := hp
      obtain ⟨y, hy, rfl⟩ := wsV_get hx
      have yo := oks y (List.mem_of_getElem? hy)
      have yom : y.okN m := by
        cases y with
        | wd _ => exact yo
        | nm _ => exact Nat.lt_of_lt_of_le yo hkm
      have hval := nm.dct.word hN (Nat.le_refl _) yom
      have et : (ws.take (i + 1)).flatMap (Nw.flat (flat L)) = (ws.take i).flatMap (Nw.flat (flat L)) ++ y.flat (flat L) := by
        rw [List.take_succ, hy, List.flatMap_append]
        show _ ++ (y.flat (flat L) ++ []) = _
        rw [List.append_nil]
      have ele : ((ws.take i).flatMap (Nw.flat (flat L))).length + (y.flat (flat L)).length ≤ 1000 := by
        rw [← List.length_append, ← et]
        refine Nat.le_trans ?_ len
        conv => rhs; rw [← List.take_append_drop (i + 1) ws, List.flatMap_append, List.length_append]
        exact Nat.le_add_right _ _
      have hB := sm _ _ hb
      have sz : 1000 < sizeLine := by decide
      cases y with
      | wd x =>
        refine ⟨_, rfl, _, rfl, b, none, rfl, dgetW hB hval, false, rfl, iteF ?_⟩
        refine ⟨_, rfl, .inl ⟨rfl, _, lstL ef⟩, _, rfl, f, _, _, rfl, rfl, ef, ?_, ?_⟩
        · have : (wstrs ((ws.take i).flatMap (Nw.flat (flat L)))).length = ((ws.take i).flatMap (Nw.flat (flat L))).length := List.length_map ..
          rw [this]
          have e1 : ((Nw.wd x).flat (flat L)).length = 1 := rfl
          omega
        · refine ⟨_, fun p o e => ?_, ?_, rfl⟩
          · rw [upd_ne (ne_of_none e hf)]
            exact sm _ _ e
          · rw [upd_same, et]
            unfold wstrs
            rw [List.map_append]
            rfl
      | nm j =>
        refine ⟨_, rfl, _, rfl, b, _, rfl, dgetW hB hval, true, rfl, iteT ?_⟩
        have jm : j < m := yom
        have efl : ((L j).words.flatMap (Nw.flat (flat L))) = (flat L j).words := by
          rw [← Ns.sub_words, ← flat_eq hL.ok (by omega)]
        refine ⟨_, rfl, .inl ⟨rfl, _, lstL ef⟩, _, rfl, _, rfl, b, _, rfl, dgetW hB hval, _, rfl, as_ j, b, NL, L, m, j, kvs, as_, (L j).words, rfl, by have : j < k := yo; omega, by omega, lstL (sm _ _ (nm.at_ j jm)), hB, hN, hL, nm.same sm, words_okN _ (hL.ok j (by omega)), ?_, fun r H2 s2 hr0 er => ?_⟩
        · rw [efl]
          have e1 : ((Nw.nm j).flat (flat L)).length = (flat L j).words.length := rfl
          omega
        · have ef2 := s2 _ _ ef
          rw [efl] at er
          refine ⟨f, r, _, _, rfl, rfl, ef2, er, ?_, ?_⟩
          · have e1 : (wstrs ((ws.take i).flatMap (Nw.flat (flat L)))).length = ((ws.take i).flatMap (Nw.flat (flat L))).length := List.length_map ..
            have e2 : (wstrs (flat L j).words).length = (flat L j).words.length := List.length_map ..
            rw [e1, e2]
            have e3 : ((Nw.nm j).flat (flat L)).length = (flat L j).words.length := rfl
            omega
          · refine ⟨_, fun p o e => ?_, ?_, rfl⟩
            · rw [upd_ne (ne_of_none e hf)]
              exact s2 _ _ (sm _ _ e)
            · rw [upd_same, et]
              unfold wstrs
              rw [List.map_append]
              rfl
    · obtain ⟨z3, sm, ef, rfl⟩ := hp
      have len2 : (wsV NL ws).length = ws.length := List.length_map ..
      rw [len2, List.take_length] at ef
      exact ⟨_, rfl, q f H' sm hf ef⟩
theorem meas_line {L : Nat → Ns} {m k : Nat} (hL : Lines L m) (hk : k ≤ m) : manyF (fun j => (flat L j).words.length) (L k).words = (flat L k).words.length ∧ (deepF (fun j => (flat L j).lev) (0, 0) (L k).words).2 = ((flat L k).lev : Int) := by
  constructor
  · rw [many_words, ← Ns.sub_words, ← flat_eq hL.ok hk]
  · rw [deep_tree (flat L) (L k) 0 0 (Int.le_refl _), ← flat_eq hL.ok hk]
    show max 0 (0 + ((flat L k).lev : Int)) = _
    omega
/-- the program of words in which names stand -/
def spProgOf (K : PySem.W.Frag) : Sp := fun vs H Q _ => ∃ (a b : Addr) (NL : List (List Nat)) (L : Nat → Ns) (m k : Nat) (kvs : List (Key × V)) (as_ : Nat → Addr), vs = [.ref a, .ref b] ∧ k ≤ m ∧ SqL K H a (wsV NL (L k).words) ∧ H b = some (.dK kvs) ∧ Names NL m ∧ Lines L m ∧ Nmd H NL L m kvs as_ ∧ (flat L k).lev ≤ 12 ∧ (flat L k).words.length ≤ 1000 ∧
  ∀ r H', Same H H' → IsP K H' r (flat L k) → Q (.ref r) H'
theorem ok_progof (D : Ds K) (T : Tx K mg) : FnOk P w K mg base CX0 22 (d_program_of.adr K) D.fd__program_of ["words", "named"] (spProgOf K) := by
  have GM : FnOk P w K mg base CX0 1 _ _ _ (spMeasure K) := ok_measure D T
  have GR : FnOk P w K mg base CX0 21 _ _ _ (spRepl K 20) := ok_repl D T 20
  have GP : FnOk P w K mg base CX0 19 _ _ _ (spProg K) := ok_prog D T
  refine D.F__program_of.ok sc_program_of (fun vs H Q E h => ?_) (fun cdv A outer s H vs Q E hr h => ?_)
  · obtain ⟨a, b, NL, L, m, k, kvs, as_, rfl, _⟩ := h
    rfl
  · obtain ⟨a, b, NL, L, m, k, kvs, as_, rfl, hkm, ha, hb, hN, hL, nm, lev, len, q⟩ := h
    have nd := sc_program_of.nd
    obtain ⟨tD, vMOST_DEPTH⟩ := T.v_MOST_DEPTH
    obtain ⟨tW, vMOST_WORDS⟩ := T.v_MOST_WORDS
    refine ⟨_, PSs.nox (pss_cons (ps_set (i := 2) nd rfl (.inl rfl) pe_dnewK)
        (pss_cons (ps_lock (ps_for PassesOwn.never rfl (pi_keys (pv 1)) (pg_name (i := 3) nd rfl (.inl rfl))
        (pss_one (ps_dput (hu_of hr) (pv 2) (pv 3) (pe_call GM (hr.mono (by decide)) (by rfl) T.g__measure D.F__measure.kp (b__measure D) .nil pass0 (pa_cons (pe_dget (hu_of hr) (pv 1) (pv 3) (fun _ _ => rfl)) (pa_cons (pv 2) pa_nil))) rfl))))
        (pss_cons (ps_asg (pe_call GM (hr.mono (by decide)) (by rfl) T.g__measure D.F__measure.kp (b__measure D) .nil pass0 (pa_cons (pv 0) (pa_cons (pv 2) pa_nil))) (pg_tup (by rfl) (pgs_cons (pg_name (i := 4) nd rfl (.inl rfl)) (pgs_cons (pg_name (i := 5) nd rfl (.inl rfl)) pgs_nil))))
        (pss_cons (ps_if (pt_cmpR op_gt (pv 4) (pe_glob (v := .int 1000) rfl vMOST_WORDS ⟨_, rfl⟩) (nomark _))
        (pss_one ps_never)
        pss_nil)
        (pss_cons (ps_if (pt_cmpR op_gt (pv 5) (pe_glob (v := .int 12) rfl vMOST_DEPTH ⟨_, rfl⟩) (nomark _))
        (pss_one ps_never)
        pss_nil)
        (pss_one (ps_ret (pe_make T.k_Program GP (hr.mono (by decide)) (by rfl) T.g_Program (b_Program_init D) .nil pass0 (pa_cons (pe_join pe_str (pe_call GR (hr.mono (by decide)) (by rfl) T.g__replaced D.F__replaced.kp (b__replaced D) .nil pass0 (pa_cons (pv 0) (pa_cons (pv 1) pa_nil)))) pa_nil))))))))), ?_⟩
    have kdm : Dct NL m kvs fun i => .ref (as_ i) := nm.dct
    refine fun d hd => ?_
    have sd := same_new (o := .dK []) hd
    have ndb : d ≠ b := Ne.symm (ne_of_none hb hd)
    refine ⟨b, .dK kvs, sd _ _ hb, trivial, fun od => ?_⟩
    refine ⟨_, rfl, b, od, rfl, .inl ⟨kvs, upd_same, ?_⟩⟩
    refine for_keys (fun i σ H' => ∃ (t : Nat → Addr) (kv2 : List (Key × V)) (z3 : Option V), (∀ x o, x ≠ b → H x = some o → H' x = some o) ∧ H' b = some (.frz od (.dK kvs)) ∧ Meas H' NL i d (fun j => (flat L j).words.length) (fun j => (flat L j).lev) kv2 t ∧ σ = [some (.ref a), some (.ref b), some (.ref d), z3, none, none])
      ⟨fun _ => 0, [], none, fun x o hx e => by rw [upd_ne hx]; exact sd _ _ e, upd_same, ⟨(upd_ne ndb).trans upd_same, Dct.nil NL _, fun i hi => absurd hi (Nat.not_lt_zero _)⟩, rfl⟩
      (fun i σ H' hi hp => by obtain ⟨_, _, _, _, h, _⟩ := hp; exact h) (fun i kx vx σ H1 hx hp => ?_) fun σ H' hp => ?_
    · obtain ⟨t, kv2, z3, sb, eb, me, rfl⟩ := hp
      obtain ⟨im, rfl⟩ := kdm.key hN (Nat.le_refl _) hx
      have eai : H1 (as_ i) = some (.lst (wsV NL (L i).words)) := sb _ _ (fun z => by
        have := nm.at_ i im
        rw [z, hb] at this
        cases this) (nm.at_ i im)
      refine ⟨_, rfl, _, rfl, b, .ref (as_ i), rfl, dgetR (.inr ⟨od, eb⟩) (kdm.val i im), _, rfl, as_ i, d, NL, m, i, kv2, t, _, _, (L i).words, rfl, lstL eai, hN, by omega, me, words_okN _ (hL.ok i (by omega)), fun r H2 s2 er => ?_⟩
      obtain ⟨l1, l2⟩ := meas_line hL (show i ≤ m by omega)
      rw [l1, l2] at er
      have mdl : kv2.length < sizeLine := by
        rw [me.dct.len hN (show i ≤ m by omega)]
        have := hN.most
        exact Nat.lt_of_lt_of_le (show i < 20 by omega) (by decide)
      have ed := s2 _ _ me.dict
      refine ⟨_, rfl, _, rfl, d, _, rfl, DPut.k (k := Sum.inr (nmS (nmAt NL i))) ed mdl, fun j => if j = i then r else t j, _, _, fun x o hx e => ?_, ?_, ⟨upd_same, me.dct.put hN im (by rw [if_pos rfl]) (fun j hj => by rw [if_neg (by omega)]), fun j hj => ?_⟩, rfl⟩
      · rw [upd_ne (ne_of_none e hd)]
        exact s2 _ _ (sb _ _ hx e)
      · rw [upd_ne (Ne.symm ndb)]
        exact s2 _ _ eb
      · have ne : ∀ {q : Addr} {us : List V}, H2 q = some (.tup us) → q ≠ d := fun e z => by
          rw [z, ed] at e
          cases e
        by_cases hji : j = i
        · subst hji
          rw [if_pos rfl, upd_ne (ne er)]
          exact er
        · rw [if_neg hji]
          have e := s2 _ _ (me.at_ j (by omega))
          rw [upd_ne (ne e)]
          exact e
    · obtain ⟨t, kv2, z3, sb, eb, me, rfl⟩ := hp
      rw [kdm.len hN (Nat.le_refl _)] at me
      refine ⟨eb, ?_⟩
      have sH : Same H (upd H' b (.dK kvs)) := fun x o e => by
        by_cases hx : x = b
        · subst hx
          rw [upd_same, ← hb, e]
        · rw [upd_ne hx]
          exact sb _ _ hx e
      have me2 : Meas (upd H' b (.dK kvs)) NL m d (fun j => (flat L j).words.length) (fun j => (flat L j).lev) kv2 t := by
        refine ⟨(upd_ne ndb).trans me.dict, me.dct, fun j hj => ?_⟩
        have e := me.at_ j hj
        rw [upd_ne (fun z => by
          rw [z, eb] at e
          cases e)]
        exact e
      refine ⟨_, rfl, _, rfl, a, d, NL, m, m, kv2, t, _, _, (L k).words, rfl, Same.sql sH ha, hN, Nat.le_refl _, me2, words_okN _ (Ns.ok_mono hkm _ (hL.ok k hkm)), fun r H2 s2 er => ?_⟩
      obtain ⟨l1, l2⟩ := meas_line hL hkm
      rw [l1, l2] at er
      refine ⟨r, _, rfl, tupT er, rfl, _, _, rfl, _, _, rfl, rfl, ?_⟩
      refine ⟨_, rfl, _, _, rfl, rfl, false, congrArg V.bl (decide_eq_false (by omega)), iteF ?_⟩
      refine ⟨_, rfl, _, _, rfl, rfl, false, congrArg V.bl (decide_eq_false (by omega)), iteF ?_⟩
      have s3 := sH.trans s2
      have efl : ((L k).words.flatMap (Nw.flat (flat L))) = (flat L k).words := by
        rw [← Ns.sub_words, ← flat_eq hL.ok hkm]
      have m19 := hN.most
      refine ⟨⟨_, rfl⟩, _, rfl, _, rfl, a, b, NL, L, m, k, kvs, as_, (L k).words, rfl, by omega, hkm, Same.sql s3 ha, s3 _ _ hb, hN, hL, nm.same s3, words_okN _ (hL.ok k hkm), by rw [efl]; exact len, fun f H3 s4 hf ef => ?_⟩
      rw [efl] at ef
      have okp := hL.flat_ok k hkm
      refine ⟨_, f, (flat L k).words.map Wd.str, rfl, rfl, .inl (lstL (by rw [← wstrs_map]; exact ef)), ?_, ?_⟩
      · have h1 := lens_le (words_ok _ okp)
        have h2 : (" " : Str).length = 1 := rfl
        rw [List.length_map, h2]
        omega
      · exact fun x dx nx nd _ => make_p nx nd (join_eq _ _) okp lev len fun H4 s5 hp2 => ⟨rfl, q x H4 (s3.trans (s4.trans s5)) hp2⟩
end
end K09P

set_option Elab.async false
set_option linter.all false
set_option maxRecDepth 100000
set_option maxHeartbeats 4000000
set_option exponentiation.threshold 3000
namespace K09P
open PySem PySem.Spec PyProof.Rows L2 RT WM K09 TL
abbrev NL_ : List Str := N_read_lines ++ [("line" : Str)]
theorem scNL_ : FnScope NL_ ["source"] (defScope s_read_lines) := ⟨rfl, rfl, rfl, by decide +kernel, rfl, by decide +kernel, by decide +kernel⟩
theorem cut_most {xs : List V} {n : Nat} (h : xs.length ≤ n) : cutV xs none (some (n : Int)) = xs := by
  have e2 : HT.sIx xs.length xs.length (some (n : Int)) = xs.length := by
    rw [HT.sIx_nat]
    omega
  show (xs.drop 0).take (HT.sIx xs.length xs.length (some (n : Int)) - 0) = xs
  rw [e2, List.drop_zero, Nat.sub_zero, List.take_length]
section
variable {P : Program} {w : World} {K : PySem.W.Frag} {mg : Str → Option Value} {base : Heap}
def spRL : Sp := fun vs H Q _ => ∃ (NL : List (List Nat)) (L : Nat → Ns) (m : Nat), vs = [.str (srcT NL L m)] ∧ Names NL m ∧ Lines L m ∧
  ∀ (r d lw : Addr) (kvs : List (Key × V)) (as_ : Nat → Addr) H', Same H H' → H' r = some (.tup [.ref d, .ref lw]) → H' d = some (.dK kvs) → Nmd H' NL L m kvs as_ → H' lw = some (.lst (wsV NL (L m).words)) → Q (.ref r) H'
theorem ok_rl (D : Ds K) (T : Tx K mg) : FnOk P w K mg base CX0 6 (d_read_lines.adr K) D.fd__read_lines ["source"] spRL := by
  have GT : FnOk P w K mg base CX0 1 _ _ _ spWordsS := ok_wordsS D T
  have GW : FnOk P w K mg base CX0 4 _ _ _ (spWrongD K) := ok_wrongD D T
  have GN : FnOk P w K mg base CX0 5 _ _ _ (spWrongN K) := ok_wrongN D T
  have GO : FnOk P w K mg base CX0 1 _ _ _ (spNameOf K) := ok_nameof D T
  refine D.F__read_lines.ok scNL_ (fun vs H Q E h => ?_) (fun cdv A outer s H vs Q E hr h => ?_)
  · obtain ⟨NL, L, m, rfl, _⟩ := h
    rfl
  · obtain ⟨NL, L, m, rfl, hN, hL, q⟩ := h
    have nd := scNL_.nd
    obtain ⟨tD, vMOST_LINES⟩ := T.v_MOST_LINES
    refine ⟨_, PSs.nox (pss_cons (ps_if (pt_not (pt_val (pe_callB call_isiY (by rfl) T.z_isinstance (by decide +kernel) (pa_cons (pv 0) (pa_cons (pe_bltn (v := .ty "str") (by rfl) T.z_str (by decide +kernel) rfl) pa_nil)))))
        (pss_one ps_never)
        pss_nil)
        (pss_cons (ps_setLc (i := 1) (own := [(("line" : Str), 7)]) (g := gName 7) (tt := tYes) (te := tCall spWordsS [] E0 (tCons (tVar 7) tNil)) rfl nd rfl rfl (sw_true rfl rfl rfl (by decide +kernel)) (pi_list (pe_split (pv 0) pe_str)) (blkOk_by (own := [(("line" : Str), 7)]) (N := NL_) (sc := defScope s_read_lines) (by decide +kernel)) (fun _ _ _ _ _ => (pg_name (i := 7) nd rfl (Or.inl rfl))) (fun _ _ _ _ _ => pts_nil) (fun _ _ _ _ _ => (pe_call GT (hr.mono (by decide)) (by rfl) T.g_words_of D.F_words_of.kp (b_words_of D) .nil pass0 (pa_cons (pv 7) pa_nil))))
        (pss_cons (ps_set (i := 2) nd rfl (.inl rfl) pe_dnewK)
        (pss_cons (ps_for PassesOwn.never rfl (pi_enum (by rfl) T.z_enumerate (pa_cons (pe_slice sl_list (pv 1) po_none (po_some (pe_glob (v := .int 20) rfl vMOST_LINES ⟨_, rfl⟩))) pa_nil)) (pg_tup (by rfl) (pgs_cons (pg_name (i := 3) nd rfl (.inl rfl)) (pgs_cons (pg_name (i := 4) nd rfl (.inl rfl)) pgs_nil)))
        (pss_cons (ps_set (i := 5) nd rfl (.inl rfl) (pe_cmpR op_eq (pe_op op_add (pv 3) pe_int) (pe_callB call_len_seq (by rfl) T.z_len PySem.boot_len (pa_cons (pv 1) pa_nil)) (nomark _)))
        (pss_cons (ps_set (i := 6) nd rfl (.inl rfl) (pe_ifExp (pt_val (pv 5)) (pe_call GW (hr.mono (by decide)) (by rfl) T.g_wrong_word D.F_wrong_word.kp (b_wrong_word D) .nil pass0 (pa_cons (pv 4) (pa_cons (pv 2) pa_nil))) (pe_call GN (hr.mono (by decide)) (by rfl) T.g__wrong_in_named D.F__wrong_in_named.kp (b__wrong_in_named D) .nil pass0 (pa_cons (pv 4) (pa_cons (pv 2) pa_nil)))))
        (pss_cons (ps_if (pt_cmpR op_notN (pv 6) pe_non (nomark _))
        (pss_one ps_never)
        pss_nil)
        (pss_one (ps_if (pt_not (pt_val (pv 5)))
        (pss_one (ps_dput (hu_of hr) (pv 2) (pe_call GO (hr.mono (by decide)) (by rfl) T.g__name_of D.F__name_of.kp (b__name_of D) .nil pass0 (pa_cons (pv 4) pa_nil)) (pe_slice sl_list (pv 4) (po_some pe_int) po_none) rfl))
        pss_nil))))))
        (pss_cons (ps_if (pt_cmpR op_gt (pe_callB call_len_seq (by rfl) T.z_len PySem.boot_len (pa_cons (pv 1) pa_nil)) (pe_glob (v := .int 20) rfl vMOST_LINES ⟨_, rfl⟩) (nomark _))
        (pss_one ps_never)
        pss_nil)
        (pss_one (ps_ret (pe_tup (pa_cons (pv 2) (pa_cons (pe_ix ix_list (pv 1) (pe_un un_neg pe_int) (fun _ _ => rfl)) pa_nil)))))))))), ?_⟩
    have m19 := hN.most
    have z1000 : 10000 ≤ sizeLine := by decide
    refine ⟨_, rfl, _, .ty "str", _, _, true, rfl, .ty "str", .base (.base (.str _)), kit_ss, true, rfl, iteF ?_⟩
    refine ⟨_, rfl, ⟨_, rfl⟩, _, _, rfl, rfl, rfl, by have := src_len hN hL; omega, fun p hp => ?_⟩
    rw [split_src hN hL]
    have sp := same_new (o := .lst ((rowsT NL L m).map V.str)) hp
    have rlen : (rowsT NL L m).length = m + 1 := by
      unfold rowsT
      rw [List.length_map, List.length_range]
    have rget : ∀ i, i < m + 1 → ((rowsT NL L m).map V.str)[i]? = some (.str (rowT NL L m i)) := fun i hi => by
      unfold rowsT
      rw [List.getElem?_map, List.getElem?_map, List.getElem?_range hi]
      rfl
    refine ⟨p, rfl, ⟨_, lstL upd_same⟩, fun D hD => ?_⟩
    refine lc_list (K := K) (a := p) (xs := (rowsT NL L m).map V.str) (fun i H' => ∃ ls : Nat → Addr, Same H H' ∧ H' p = some (.lst ((rowsT NL L m).map V.str)) ∧ H' D = some (.lst (refsV ls i)) ∧ ∀ j, j < i → ls j ≠ D ∧ H' (ls j) = some (.lst ((lineS NL L m j).map V.str)))
      ⟨fun _ => 0, sp.trans (same_new hD), same_new hD _ _ upd_same, upd_same, fun j hj => absurd hj (Nat.not_lt_zero _)⟩ (fun i H' hi hp => by obtain ⟨_, _, h, _⟩ := hp; exact lstL h) (fun i x H1 hx hp => ?_) fun H1 hp => ?_
    · obtain ⟨ls, sm, ep, eD, el⟩ := hp
      have il : i < m + 1 := by
        have := (List.getElem?_eq_some_iff.mp hx).1
        rw [List.length_map, rlen] at this
        exact this
      rw [rget i il] at hx
      obtain rfl := Option.some.inj hx
      refine ⟨rfl, _, rfl, lineS NL L m i, rfl, line_wdS hN hL (by omega), line_len hL (by omega), fun r H2 s2 hr0 er => ?_⟩
      have nrD : r ≠ D := fun z => by
        rw [z, eD] at hr0
        cases hr0
      refine ⟨_, s2 _ _ eD, by rw [refsV_len]; omega, upF ls i r, fun x o e => ?_, ?_, ?_, fun j hj => ?_⟩
      · rw [upd_ne (ne_of_none (sp _ _ e) hD)]
        exact s2 _ _ (sm _ _ e)
      · rw [upd_ne (ne_of_none upd_same hD)]
        exact s2 _ _ ep
      · rw [upd_same, refsV_up]
      · by_cases hji : j = i
        · rw [hji, upF_same, upd_ne nrD]
          exact ⟨nrD, er⟩
        · obtain ⟨n1, e1⟩ := el j (by omega)
          rw [upF_ne hji, upd_ne n1]
          exact ⟨n1, s2 _ _ e1⟩
    obtain ⟨ls, sm, ep, eD, el⟩ := hp
    rw [List.length_map, rlen] at eD el
    clear ep
    have lineN : ∀ k, k < m → (lineS NL L m k).map V.str = .str (namC (nmAt NL k)) :: wsV NL (L k).words := fun k hk => by
      unfold lineS
      rw [if_pos hk, List.map_cons, ← wsV_map]
    have lineL : (lineS NL L m m).map V.str = wsV NL (L m).words := by
      unfold lineS
      rw [if_neg (Nat.lt_irrefl m), ← wsV_map]
    have okw : ∀ k, k ≤ m → OkW ((L k).words.map Nw.shw) := fun k hk => Ns.okW (hL.ok k hk) (Nat.le_trans (hL.few k hk) (by decide)) (Nat.le_trans (hL.low k hk) (by decide))
    refine fun d hd => ?_
    have sd := same_new (o := .dK []) hd
    refine ⟨_, rfl, 20, rfl, D, _, rfl, lstL (sd _ _ eD), fun p2 hp2 => ?_⟩
    have ec : cutV (refsV ls (m + 1)) none (some 20) = refsV ls (m + 1) := cut_most (n := 20) (by rw [refsV_len]; omega)
    rw [ec]
    have sp2 := same_new (o := .lst (refsV ls (m + 1))) hp2
    have ndp : d ≠ p2 := ne_of_none upd_same hp2
    obtain ⟨H2, eH2⟩ : ∃ H2, H2 = upd (upd H1 d (.dK [])) p2 (.lst (refsV ls (m + 1))) := ⟨_, rfl⟩
    have s12 : Same H1 H2 := eH2 ▸ sd.trans sp2
    have ed2 : H2 d = some (.dK []) := by rw [eH2]; exact sp2 _ _ upd_same
    have ep2 : H2 p2 = some (.lst (refsV ls (m + 1))) := by rw [eH2]; exact upd_same
    rw [← eH2]
    clear eH2 sp2 sd
    have eD2 := s12 _ _ eD
    have ne_ld : ∀ {x : Addr} {us : List V}, H2 x = some (.lst us) → x ≠ d := fun e z => by
      rw [z, ed2] at e
      cases e
    refine ⟨p2, _, rfl, lstL ep2, ?_⟩
    refine for_enum (xs := refsV ls (m + 1)) (fun i σ H' => ∃ (kvs : List (Key × V)) (as_ : Nat → Addr) (z3 z4 z5 z6 : Option V), (∀ x o, x ≠ d → H2 x = some o → H' x = some o) ∧ H' d = some (.dK kvs) ∧ Dct NL (min i m) kvs (fun j => .ref (as_ j)) ∧ (∀ j, j < min i m → H' (as_ j) = some (.lst (wsV NL (L j).words))) ∧ σ = [some (.str (srcT NL L m)), some (.ref D), some (.ref d), z3, z4, z5, z6, none])
      ⟨[], fun _ => 0, none, none, none, none, fun _ _ _ e => e, ed2, by rw [Nat.zero_min]; exact Dct.nil NL _, fun j hj => by rw [Nat.zero_min] at hj; exact absurd hj (Nat.not_lt_zero _), rfl⟩
      (fun i σ H' hi hp => by obtain ⟨_, _, _, _, _, _, h, _⟩ := hp; exact lstL (h _ _ (ne_ld ep2) ep2)) (fun i x σ H3 Tp hx hp hT => ?_) fun σ H' hp => ?_
    · obtain ⟨kvs, as_, z3, z4, z5, z6, sb, ed, dct, ea, rfl⟩ := hp
      obtain ⟨il, rfl⟩ := refsV_at hx
      have sT := same_new (o := .tup [.int (i : Nat), .ref (ls i)]) hT
      refine ⟨Tp, _, rfl, tupT upd_same, rfl, _, _, rfl, _, _, rfl, rfl, ?_⟩
      have eD3 := sT _ _ (sb _ _ (ne_ld eD2) eD2)
      have ed3 := sT _ _ ed
      have el3 := sT _ _ (sb _ _ (ne_ld (s12 _ _ (el i il).2)) (s12 _ _ (el i il).2))
      refine ⟨_, rfl, _, _, rfl, rfl, _, rfl, D, _, rfl, .inl (lstL eD3), rfl, ?_⟩
      have elast : decide (V.int ((i : Int) + 1) = V.int ((refsV ls (m + 1)).length : Int)) = decide (i = m) := decide_eq_decide.mpr ⟨fun z => by
        injection z with z
        rw [refsV_len] at z
        omega, fun z => by rw [refsV_len, z]; rfl⟩
      show tSeq _ _ _ [some (.str (srcT NL L m)), some (.ref D), some (.ref d), some (.int (i : Int)), some (.ref (ls i)), some (.bl (decide (V.int ((i : Int) + 1) = V.int ((refsV ls (m + 1)).length : Int)))), z6, none] _
      rw [elast]
      by_cases him : i = m
      · subst him
        rw [decide_eq_true rfl]
        rw [Nat.min_self] at dct ea
        rw [lineL] at el3
        refine ⟨_, rfl, true, rfl, iteT ⟨_, rfl, _, rfl, ls i, d, NL, i, i, kvs, _, (L i).words, rfl, lstL el3, ed3, hN, Nat.le_refl _, dct, words_okN _ (hL.ok i (Nat.le_refl _)), okw i (Nat.le_refl _), fun H4 s4 => ?_⟩⟩
        refine ⟨_, rfl, rfl, false, rfl, iteF ⟨_, rfl, true, rfl, iteF ?_⟩⟩
        have s34 := sT.trans s4
        rw [show min (i + 1) i = i by omega]
        exact ⟨kvs, as_, _, _, _, _, fun x o hx e => s34 _ _ (sb x o hx e), s34 _ _ ed, dct, fun j hj => s34 _ _ (ea j hj), rfl⟩
      · have im : i < m := by omega
        rw [decide_eq_false him]
        rw [Nat.min_eq_left (by omega)] at dct ea
        rw [lineN i im] at el3
        refine ⟨_, rfl, false, rfl, iteF ⟨_, rfl, _, rfl, ls i, d, NL, m, i, kvs, _, (L i).words, rfl, lstL el3, ed3, hN, im, dct, fun z => hL.full i im ((Ns.nil_iff _).mp z), words_okN _ (hL.ok i (by omega)), okw i (by omega), fun H4 s4 => ?_⟩⟩
        refine ⟨_, rfl, rfl, false, rfl, iteF ⟨_, rfl, false, rfl, iteT ?_⟩⟩
        have el4 := s4 _ _ el3
        have ed4 := s4 _ _ ed3
        refine ⟨_, rfl, 1, rfl, ls i, _, rfl, lstL el4, fun p3 hp3 => ?_⟩
        have s5 := same_new (o := .lst (cutV (.str (namC (nmAt NL i)) :: wsV NL (L i).words) (some 1) none)) hp3
        have np3 : p3 ≠ d := Ne.symm (ne_of_none ed4 hp3)
        rw [cut_tail] at s5 ⊢
        have s35 := sT.trans (s4.trans s5)
        have kl : kvs.length < sizeLine := by
          rw [dct.len hN (by omega)]
          omega
        refine ⟨_, rfl, _, rfl, ls i, nmAt NL i, _, rfl, lstL (s5 _ _ el4), hN.atLow im, d, _, rfl, DPut.k (k := Sum.inr (nmS (nmAt NL i))) (s5 _ _ ed4) kl, ?_⟩
        have dput := dct.put (v' := fun j => .ref (upF as_ i p3 j)) (x := .ref p3) hN im (by rw [upF_same]) (fun j hj => by rw [upF_ne (by omega)])
        rw [show min (i + 1) m = i + 1 by omega]
        refine ⟨_, upF as_ i p3, _, _, _, _, fun x o hx e => ?_, upd_same, dput, fun j hj => ?_, rfl⟩
        · rw [upd_ne hx]
          exact s35 _ _ (sb x o hx e)
        · by_cases hji : j = i
          · rw [hji, upF_same, upd_ne np3, upd_same]
          · have e := s35 _ _ (ea j (by omega))
            rw [upF_ne hji, upd_ne (fun z => by
              rw [z, s35 _ _ ed] at e
              cases e)]
            exact e
    · obtain ⟨kvs, as_, z3, z4, z5, z6, sb, ed, dct, ea, rfl⟩ := hp
      rw [refsV_len, show min (m + 1) m = m by omega] at dct ea
      have sH : Same H H' := fun x o e => sb x o (ne_of_none (sm _ _ e) hd) (s12 _ _ (sm _ _ e))
      have eD3 := sb _ _ (ne_ld eD2) eD2
      have elm := s12 _ _ (el m (by omega)).2
      have elm3 := sb _ _ (ne_ld elm) elm
      rw [lineL] at elm3
      refine ⟨_, rfl, D, _, rfl, .inl (lstL eD3), _, _, rfl, rfl, false, congrArg V.bl (decide_eq_false (by rw [refsV_len]; omega)), iteF ?_⟩
      have at1 : atI (refsV ls (m + 1)) (-1) = some (.ref (ls m)) := by
        rw [refsV_succ]
        exact atI_last _ _
      refine ⟨_, rfl, _, rfl, 1, rfl, D, _, _, _, rfl, rfl, lstL eD3, at1, by show 2 ≤ sizeLine; decide, fun r hr => ?_⟩
      have sr := same_new (o := .tup [.ref d, .ref (ls m)]) hr
      exact q r d (ls m) kvs as_ _ (sH.trans sr) upd_same (sr _ _ ed) ⟨dct, fun i hi => sr _ _ (ea i hi)⟩ (sr _ _ elm3)
def spRS (K : PySem.W.Frag) : Sp := fun vs H Q _ => ∃ (NL : List (List Nat)) (L : Nat → Ns) (m : Nat), vs = [.str (srcT NL L m)] ∧ Names NL m ∧ Lines L m ∧ (flat L m).lev ≤ 12 ∧ (flat L m).words.length ≤ 1000 ∧ ∀ r H', Same H H' → IsP K H' r (flat L m) → Q (.ref r) H'
theorem ok_rs (D : Ds K) (T : Tx K mg) : FnOk P w K mg base CX0 23 (dread_source.adr K) D.fd_read_source ["source"] (spRS K) := by
  have GL : FnOk P w K mg base CX0 6 _ _ _ spRL := ok_rl D T
  have GP : FnOk P w K mg base CX0 22 _ _ _ (spProgOf K) := ok_progof D T
  refine D.F_read_source.ok scread_source (fun vs H Q E h => ?_) (fun cdv A outer s H vs Q E hr h => ?_)
  · obtain ⟨NL, L, m, rfl, _⟩ := h
    rfl
  · obtain ⟨NL, L, m, rfl, hN, hL, lev, len, q⟩ := h
    have nd := scread_source.nd
    refine ⟨_, PSs.nox (pss_cons (ps_asg (pe_call GL (hr.mono (by decide)) (by rfl) T.g__read_lines D.F__read_lines.kp (b__read_lines D) .nil pass0 (pa_cons (pv 0) pa_nil)) (pg_tup (by rfl) (pgs_cons (pg_name (i := 1) nd rfl (.inl rfl)) (pgs_cons (pg_name (i := 2) nd rfl (.inl rfl)) pgs_nil))))
        (pss_one (ps_ret (pe_call GP (hr.mono (by decide)) (by rfl) T.g__program_of D.F__program_of.kp (b__program_of D) .nil pass0 (pa_cons (pv 2) (pa_cons (pv 1) pa_nil)))))), ?_⟩
    refine ⟨_, rfl, NL, L, m, rfl, hN, hL, fun r d lw kvs as_ H1 s1 er ed nm el => ?_⟩
    refine ⟨r, _, rfl, tupT er, rfl, _, _, rfl, _, _, rfl, rfl, ?_⟩
    exact ⟨_, rfl, _, rfl, lw, d, NL, L, m, m, kvs, as_, rfl, Nat.le_refl _, lstL el, ed, hN, hL, nm, lev, len, fun x H2 s2 hp => q x H2 (s1.trans s2) hp⟩
def spRo (K : PySem.W.Frag) : Sp := fun vs H Q _ => ∃ (NL : List (List Nat)) (L : Nat → Ns) (m k : Nat), vs = [.str (srcT NL L m), .str (nmS (nmAt NL k))] ∧ k < m ∧ Names NL m ∧ Lines L m ∧ (flat L k).lev ≤ 12 ∧ (flat L k).words.length ≤ 1000 ∧ ∀ r H', Same H H' → IsP K H' r (flat L k) → Q (.ref r) H'
theorem ok_ro (D : Ds K) (T : Tx K mg) : FnOk P w K mg base CX0 23 (droutine.adr K) D.fd_routine ["source", "name"] (spRo K) := by
  have GL : FnOk P w K mg base CX0 6 _ _ _ spRL := ok_rl D T
  have GP : FnOk P w K mg base CX0 22 _ _ _ (spProgOf K) := ok_progof D T
  refine D.F_routine.ok scroutine (fun vs H Q E h => ?_) (fun cdv A outer s H vs Q E hr h => ?_)
  · obtain ⟨NL, L, m, k, rfl, _⟩ := h
    rfl
  · obtain ⟨NL, L, m, k, rfl, hk, hN, hL, lev, len, q⟩ := h
    have nd := scroutine.nd
    refine ⟨_, PSs.nox (pss_cons (ps_asg (pe_call GL (hr.mono (by decide)) (by rfl) T.g__read_lines D.F__read_lines.kp (b__read_lines D) .nil pass0 (pa_cons (pv 0) pa_nil)) (pg_tup (by rfl) (pgs_cons (pg_name (i := 2) nd rfl (.inl rfl)) (pgs_cons (pg_name (i := 3) nd rfl (.inl rfl)) pgs_nil))))
        (pss_cons (ps_if (PW.pt (pw_or (pt_not (pt_val (pe_callB call_isiY (by rfl) T.z_isinstance (by decide +kernel) (pa_cons (pv 1) (pa_cons (pe_bltn (v := .ty "str") (by rfl) T.z_str (by decide +kernel) rfl) pa_nil))))) (pw_or1 (pt_cmp (pc_dnotin (hu_of hr) (pv 1) (pv 2))))))
        (pss_one ps_never)
        pss_nil)
        (pss_one (ps_ret (pe_call GP (hr.mono (by decide)) (by rfl) T.g__program_of D.F__program_of.kp (b__program_of D) .nil pass0 (pa_cons (pe_dget (hu_of hr) (pv 2) (pv 1) (fun _ _ => rfl)) (pa_cons (pv 2) pa_nil))))))), ?_⟩
    refine ⟨_, rfl, NL, L, m, rfl, hN, hL, fun r d lw kvs as_ H1 s1 er ed nm el => ?_⟩
    refine ⟨r, _, rfl, tupT er, rfl, _, _, rfl, _, _, rfl, rfl, ?_⟩
    refine ⟨_, rfl, _, .ty "str", _, _, true, rfl, .ty "str", .base (.base (.str _)), kit_ss, true, rfl, iteF ?_⟩
    refine ⟨_, rfl, _, rfl, d, _, rfl, dgetW ed (nm.dct.val k hk), false, rfl, iteF ?_⟩
    exact ⟨_, rfl, _, rfl, d, _, rfl, dgetW ed (nm.dct.val k hk), _, rfl, as_ k, d, NL, L, m, k, kvs, as_, rfl, by omega, lstL (nm.at_ k hk), ed, hN, hL, nm, lev, len, fun x H2 s2 hp => q x H2 (s1.trans s2) hp⟩
def spNo : Sp := fun vs H Q _ => ∃ (NL : List (List Nat)) (L : Nat → Ns) (m : Nat), vs = [.str (srcT NL L m)] ∧ Names NL m ∧ Lines L m ∧ ∀ r H', Same H H' → H r = none → H' r = some (.lst (nvs NL)) → Q (.ref r) H'
theorem ok_no (D : Ds K) (T : Tx K mg) : FnOk P w K mg base CX0 7 (dnames_of.adr K) D.fd_names_of ["source"] spNo := by
  have GL : FnOk P w K mg base CX0 6 _ _ _ spRL := ok_rl D T
  refine D.F_names_of.ok scnames_of (fun vs H Q E h => ?_) (fun cdv A outer s H vs Q E hr h => ?_)
  · obtain ⟨NL, L, m, rfl, _⟩ := h
    rfl
  · obtain ⟨NL, L, m, rfl, hN, hL, q⟩ := h
    have nd := scnames_of.nd
    refine ⟨_, PSs.nox (pss_cons (ps_asg (pe_call GL (hr.mono (by decide)) (by rfl) T.g__read_lines D.F__read_lines.kp (b__read_lines D) .nil pass0 (pa_cons (pv 0) pa_nil)) (pg_tup (by rfl) (pgs_cons (pg_name (i := 1) nd rfl (.inl rfl)) (pgs_cons (pg_name (i := 2) nd rfl (.inl rfl)) pgs_nil))))
        (pss_one (ps_ret (pe_callTy (call_listD rfl) (by rfl) T.z_list (by decide +kernel) (pa_cons (pv 1) pa_nil))))), ?_⟩
    refine ⟨_, rfl, NL, L, m, rfl, hN, hL, fun r d lw kvs as_ H1 s1 er ed nm el => ?_⟩
    refine ⟨r, _, rfl, tupT er, rfl, _, _, rfl, _, _, rfl, rfl, ?_⟩
    refine ⟨_, rfl, d, kvs, rfl, .inl ed, fun p hp => ?_⟩
    have ek : (kvs.map fun kv => kV kv.1) = nvs NL := by
      have := congrArg (List.map kV) nm.dct.keys
      rw [List.map_map, List.map_map, ← hN.len, List.take_length] at this
      exact this
    rw [ek]
    exact q p _ (s1.trans (same_new hp)) (by
      cases e : H p with
      | none => rfl
      | some o => rw [s1 _ _ e] at hp; cases hp) upd_same
end
end K09P

set_option Elab.async false
set_option linter.all false
set_option maxRecDepth 100000
set_option maxHeartbeats 4000000
set_option exponentiation.threshold 600
namespace K09P
open PySem PySem.Spec PyProof.Rows L2 RT WM K09 TL DQ
def clsNames : List Str := ["InvalidText", "InvalidSource", "InvalidProgram", "InvalidTimes", "InvalidIndex", "InvalidLetter", "InvalidName", "HasPen", "TooDeep", "TooLarge"]
/-- a raised class: which of the ten it is -/
structure ClsAt (K : PySem.W.Frag) (C : Addr) (j : Nat) : Prop where
  lt : j < 10
  ec : ExcC K C
  k0 : PySem.W.kitOne K (.ref C) (.ref (He.ga K "InvalidText")) = some (decide (0 = j))
  k1 : PySem.W.kitOne K (.ref C) (.ref (He.ga K "InvalidSource")) = some (decide (1 = j))
  k2 : PySem.W.kitOne K (.ref C) (.ref (He.ga K "InvalidProgram")) = some (decide (2 = j))
  k3 : PySem.W.kitOne K (.ref C) (.ref (He.ga K "InvalidTimes")) = some (decide (3 = j))
  k4 : PySem.W.kitOne K (.ref C) (.ref (He.ga K "InvalidIndex")) = some (decide (4 = j))
  k5 : PySem.W.kitOne K (.ref C) (.ref (He.ga K "InvalidLetter")) = some (decide (5 = j))
  k6 : PySem.W.kitOne K (.ref C) (.ref (He.ga K "InvalidName")) = some (decide (6 = j))
  k7 : PySem.W.kitOne K (.ref C) (.ref (He.ga K "HasPen")) = some (decide (7 = j))
  k8 : PySem.W.kitOne K (.ref C) (.ref (He.ga K "TooDeep")) = some (decide (8 = j))
  k9 : PySem.W.kitOne K (.ref C) (.ref (He.ga K "TooLarge")) = some (decide (9 = j))
  ve : PySem.W.kitOne K (.ref C) (.type "ValueError") = some true
  a0 : PySem.W.kitAny K (.ref C) ((["InvalidArt", "InvalidCommand", "InvalidCount", "InvalidEdge", "InvalidFace", "InvalidFaces"] : List Str).map fun x => .ref (He.ga K x)) = some false
  a1 : PySem.W.kitAny K (.ref C) ((["InvalidIntervals", "InvalidMotion", "InvalidOperation", "InvalidPicture", "InvalidPlace"] : List Str).map fun x => .ref (He.ga K x)) = some false
  a2 : PySem.W.kitAny K (.ref C) ((["InvalidPoint", "InvalidPose", "InvalidTurn", "NoSteps", "NotClosed", "NotDrifting", "NotEven", "Nothing"] : List Str).map fun x => .ref (He.ga K x)) = some false
theorem pe_never {X : Cx} {e : Expr} : PE X e (fun _ _ _ => False) := ⟨fun _ _ _ _ _ _ h => h.elim⟩
def clsRow (j : Nat) : List V := (List.range 10).map fun i => V.bl (decide (i = j))
theorem clsRow_flat (j : Nat) : (clsRow j).all flatV = true := by
  unfold clsRow
  rw [List.all_map]
  exact List.all_eq_true.mpr fun _ _ => rfl
theorem clsRow_count : ∀ j, j < 10 → (clsRow j).countP (fun z => eqV z (.bl true)) = 1 := by decide +kernel
theorem clsRow_get (j m : Nat) (z : V) (h : (clsRow j)[m]? = some z) : z = .bl (decide (m = j)) := by
  unfold clsRow at h
  rw [List.getElem?_map] at h
  cases e : (List.range 10)[m]? with
  | none => rw [e] at h; cases h
  | some i =>
    rw [e] at h
    have := (List.getElem?_eq_some_iff.mp e)
    obtain ⟨hl, hi⟩ := this
    rw [List.getElem_range] at hi
    subst hi
    exact (Option.some.inj h).symm
theorem clsRow_at : ∀ j, j < 10 → (clsRow j)[j]? = some (.bl true) := by decide +kernel
theorem clsRow_no (j : Nat) : ∀ (m : Nat) (z : V), m < j → (clsRow j)[m]? = some z → eqV z (.bl true) = false := fun m z hm h => by
  rw [clsRow_get j m z h, decide_eq_false (by omega)]
  rfl
theorem clsNames_at : ∀ j, j < 10 → (clsNames.map V.str)[j]? = some (.str (clsNames.getD j "")) := by decide +kernel
def optV : Option Nat → V
  | none => .non
  | some k => .int (k : Int)
/-- the text of None or a number -/
def reprO (v : Option Nat) : Str := match v with | none => "None" | some k => toString (k : Int)
theorem repr_small {k : Nat} (h : k < 2 ^ 1000) : ((k : Int)).natAbs.log2 < 1920 := by
  have h1 : ((k : Int)).natAbs < 2 ^ 1000 := by rw [Int.natAbs_natCast]; exact h
  exact Nat.lt_trans (PySem.Flt.log2_lt_of (by decide) h1) (by decide)
theorem reprO_of {v : Option Nat} {H : Hp} {Q : VK} (h : ∀ k, v = some k → k < 2 ^ 1000) (q : Q (.str (reprO v)) H) : rRepr0 [optV v] H Q := by
  cases v with
  | none => exact .inr ⟨rfl, q⟩
  | some k => exact .inl ⟨_, rfl, repr_small (h k rfl), q⟩
theorem reprO_arg {v : Option Nat} {σ : L2.St} {H : Hp} {Q : VK} (h : ∀ k, v = some k → k < 2 ^ 1000) (q : Q (.str (reprO v)) H) : tNil σ H fun xs H2 => rRepr0 (optV v :: xs) H2 Q := reprO_of h q
/-- the fields of an exception, and how it is told -/
def Says (K : PySem.W.Frag) (H : Hp) (C : Addr) (j : Nat) (od : Option Addr) (out : Str) : Prop :=
  (j = 0 ∧ ∃ d v, od = some d ∧ H d = some (.xd [("index", optV v)]) ∧ PySem.W.findIn K (.ref C) "index" = some none ∧ (∀ k, v = some k → k < 2 ^ 1000) ∧ (reprO v).length ≤ 400 ∧ out = "InvalidText " ++ reprO v) ∨
  (j = 1 ∧ ∃ d v u, od = some d ∧ H d = some (.xd [("index", optV u), ("line", optV v)]) ∧ PySem.W.findIn K (.ref C) "line" = some none ∧ PySem.W.findIn K (.ref C) "index" = some none ∧ (∀ k, v = some k → k < 2 ^ 1000) ∧ (∀ k, u = some k → k < 2 ^ 1000) ∧ (reprO v).length ≤ 400 ∧ (reprO u).length ≤ 400 ∧ out = "InvalidSource " ++ reprO v ++ " " ++ reprO u) ∨
  ((j = 8 ∨ j = 9) ∧ ∃ d k, od = some d ∧ H d = some (.xd [("limit", optV (some k))]) ∧ PySem.W.findIn K (.ref C) "limit" = some none ∧ k < 2 ^ 1000 ∧ (reprO (some k)).length ≤ 400 ∧ out = clsNames.getD j "" ++ (" " ++ reprO (some k))) ∨
  (2 ≤ j ∧ j ≤ 7 ∧ od = none ∧ out = clsNames.getD j "")
theorem Says.same {K : PySem.W.Frag} {H H' : Hp} {C : Addr} {j : Nat} {od : Option Addr} {out : Str} (h : Says K H C j od out) (s : Same H H') : Says K H' C j od out := by
  rcases h with ⟨e, d, v, e1, e2, r⟩ | ⟨e, d, v, u, e1, e2, r⟩ | ⟨e, d, k, e1, e2, r⟩ | h
  · exact .inl ⟨e, d, v, e1, s _ _ e2, r⟩
  · exact .inr (.inl ⟨e, d, v, u, e1, s _ _ e2, r⟩)
  · exact .inr (.inr (.inl ⟨e, d, k, e1, s _ _ e2, r⟩))
  · exact .inr (.inr (.inr h))
theorem Says.ty {K : PySem.W.Frag} {H : Hp} {a C : Addr} {j : Nat} {od : Option Addr} {out : Str} (h : Says K H C j od out) (ea : H a = some (ExT a (.ref C) od)) (c : ExcC K C) : TyY K H (.ref a) (.ref C) := by
  rcases h with ⟨e, d, v, e1, e2, r⟩ | ⟨e, d, v, u, e1, e2, r⟩ | ⟨e, d, k, e1, e2, r⟩ | ⟨_, _, e, _⟩
  · subst e1; exact .exc1 ea e2 c
  · subst e1; exact .exc1 ea e2 c
  · subst e1; exact .exc1 ea e2 c
  · subst e; exact .exc0 ea c
theorem XfC.ofE {K : PySem.W.Frag} {C : Addr} (c : ExcC K C) : XfC K C := ⟨c.hg, c.hk, c.hs, c.hd⟩
section
variable {P : Program} {w : World} {K : PySem.W.Frag} {mg : Str → Option Value} {base : Heap}
def spClass (K : PySem.W.Frag) : Sp := fun vs H Q _ => ∃ a C j od out, vs = [.ref a] ∧ H a = some (ExT a (.ref C) od) ∧ ClsAt K C j ∧ Says K H C j od out ∧ ∀ H', Same H H' → Q (.str out) H'
theorem ok_class (D : Ds K) (T : Tx K mg) : FnOk P w K mg base CX0 1 (d_law_class.adr K) D.fd__law_class ["caught"] (spClass K) := by
  refine D.F__law_class.ok sc_law_class (fun vs H Q E h => ?_) (fun cdv A outer s H vs Q E hr h => ?_)
  · obtain ⟨a, C, j, od, out, rfl, _⟩ := h
    rfl
  · obtain ⟨a, C, j, od, out, rfl, ea, c, sy, q⟩ := h
    have nd := sc_law_class.nd
    refine ⟨_, PSs.nox (pss_cons (ps_set (i := 1) nd rfl (.inl rfl) (pe_lst (pa_cons (pe_callB call_isiY (by rfl) T.z_isinstance (by decide +kernel) (pa_cons (pv 0) (pa_cons (pe_glob (v := .ref (He.ga K "InvalidText")) rfl T.g_InvalidText rfl) pa_nil))) (pa_cons (pe_callB call_isiY (by rfl) T.z_isinstance (by decide +kernel) (pa_cons (pv 0) (pa_cons (pe_glob (v := .ref (He.ga K "InvalidSource")) rfl T.g_InvalidSource rfl) pa_nil))) (pa_cons (pe_callB call_isiY (by rfl) T.z_isinstance (by decide +kernel) (pa_cons (pv 0) (pa_cons (pe_glob (v := .ref (He.ga K "InvalidProgram")) rfl T.g_InvalidProgram rfl) pa_nil))) pa_nil)))))
      (pss_cons (ps_set (i := 1) nd rfl (.inl rfl) (pe_op op_cat (pv 1) (pe_lst (pa_cons (pe_callB call_isiY (by rfl) T.z_isinstance (by decide +kernel) (pa_cons (pv 0) (pa_cons (pe_glob (v := .ref (He.ga K "InvalidTimes")) rfl T.g_InvalidTimes rfl) pa_nil))) (pa_cons (pe_callB call_isiY (by rfl) T.z_isinstance (by decide +kernel) (pa_cons (pv 0) (pa_cons (pe_glob (v := .ref (He.ga K "InvalidIndex")) rfl T.g_InvalidIndex rfl) pa_nil))) pa_nil)))))
      (pss_cons (ps_set (i := 1) nd rfl (.inl rfl) (pe_op op_cat (pv 1) (pe_lst (pa_cons (pe_callB call_isiY (by rfl) T.z_isinstance (by decide +kernel) (pa_cons (pv 0) (pa_cons (pe_glob (v := .ref (He.ga K "InvalidLetter")) rfl T.g_InvalidLetter rfl) pa_nil))) (pa_cons (pe_callB call_isiY (by rfl) T.z_isinstance (by decide +kernel) (pa_cons (pv 0) (pa_cons (pe_glob (v := .ref (He.ga K "InvalidName")) rfl T.g_InvalidName rfl) pa_nil))) (pa_cons (pe_callB call_isiY (by rfl) T.z_isinstance (by decide +kernel) (pa_cons (pv 0) (pa_cons (pe_glob (v := .ref (He.ga K "HasPen")) rfl T.g_HasPen rfl) pa_nil))) pa_nil))))))
      (pss_cons (ps_set (i := 1) nd rfl (.inl rfl) (pe_op op_cat (pv 1) (pe_lst (pa_cons (pe_callB call_isiY (by rfl) T.z_isinstance (by decide +kernel) (pa_cons (pv 0) (pa_cons (pe_glob (v := .ref (He.ga K "TooDeep")) rfl T.g_TooDeep rfl) pa_nil))) (pa_cons (pe_callB call_isiY (by rfl) T.z_isinstance (by decide +kernel) (pa_cons (pv 0) (pa_cons (pe_glob (v := .ref (He.ga K "TooLarge")) rfl T.g_TooLarge rfl) pa_nil))) pa_nil)))))
      (pss_cons (ps_set (i := 2) nd rfl (.inl rfl) (pe_lst (pa_cons pe_str (pa_cons pe_str (pa_cons pe_str (pa_cons pe_str (pa_cons pe_str (pa_cons pe_str pa_nil))))))))
      (pss_cons (ps_set (i := 2) nd rfl (.inl rfl) (pe_op op_cat (pv 2) (pe_lst (pa_cons pe_str (pa_cons pe_str (pa_cons pe_str (pa_cons pe_str pa_nil)))))))
      (pss_cons (ps_if (pt_val (pe_callB call_isiTY (by rfl) T.z_isinstance (by decide +kernel) (pa_cons (pv 0) (pa_cons (pe_tup (pa_cons (pe_glob (v := .ref (He.ga K "InvalidArt")) rfl T.g_InvalidArt rfl) (pa_cons (pe_glob (v := .ref (He.ga K "InvalidCommand")) rfl T.g_InvalidCommand rfl) (pa_cons (pe_glob (v := .ref (He.ga K "InvalidCount")) rfl T.g_InvalidCount rfl) (pa_cons (pe_glob (v := .ref (He.ga K "InvalidEdge")) rfl T.g_InvalidEdge rfl) (pa_cons (pe_glob (v := .ref (He.ga K "InvalidFace")) rfl T.g_InvalidFace rfl) (pa_cons (pe_glob (v := .ref (He.ga K "InvalidFaces")) rfl T.g_InvalidFaces rfl) pa_nil))))))) pa_nil)))) (pss_one (ps_ret pe_str)) pss_nil)
      (pss_cons (ps_if (pt_val (pe_callB call_isiTY (by rfl) T.z_isinstance (by decide +kernel) (pa_cons (pv 0) (pa_cons (pe_tup (pa_cons (pe_glob (v := .ref (He.ga K "InvalidIntervals")) rfl T.g_InvalidIntervals rfl) (pa_cons (pe_glob (v := .ref (He.ga K "InvalidMotion")) rfl T.g_InvalidMotion rfl) (pa_cons (pe_glob (v := .ref (He.ga K "InvalidOperation")) rfl T.g_InvalidOperation rfl) (pa_cons (pe_glob (v := .ref (He.ga K "InvalidPicture")) rfl T.g_InvalidPicture rfl) (pa_cons (pe_glob (v := .ref (He.ga K "InvalidPlace")) rfl T.g_InvalidPlace rfl) pa_nil)))))) pa_nil)))) (pss_one (ps_ret pe_str)) pss_nil)
      (pss_cons (ps_if (pt_val (pe_callB call_isiTY (by rfl) T.z_isinstance (by decide +kernel) (pa_cons (pv 0) (pa_cons (pe_tup (pa_cons (pe_glob (v := .ref (He.ga K "InvalidPoint")) rfl T.g_InvalidPoint rfl) (pa_cons (pe_glob (v := .ref (He.ga K "InvalidPose")) rfl T.g_InvalidPose rfl) (pa_cons (pe_glob (v := .ref (He.ga K "InvalidTurn")) rfl T.g_InvalidTurn rfl) (pa_cons (pe_glob (v := .ref (He.ga K "NoSteps")) rfl T.g_NoSteps rfl) (pa_cons (pe_glob (v := .ref (He.ga K "NotClosed")) rfl T.g_NotClosed rfl) (pa_cons (pe_glob (v := .ref (He.ga K "NotDrifting")) rfl T.g_NotDrifting rfl) (pa_cons (pe_glob (v := .ref (He.ga K "NotEven")) rfl T.g_NotEven rfl) (pa_cons (pe_glob (v := .ref (He.ga K "Nothing")) rfl T.g_Nothing rfl) pa_nil))))))))) pa_nil)))) (pss_one (ps_ret pe_str)) pss_nil)
      (pss_cons (ps_if (PW.pt (pw_or (pt_cmpR op_ne (pe_bm PySem.F.plainAttrs_list PySem.F.slot_list_count PySem.F.type_list_count mt_countF (pv 1) (pa_cons pe_bl pa_nil)) pe_int (nomark _)) (pw_or1 (pt_not (pt_val (pe_callB call_isiY (by rfl) T.z_isinstance (by decide +kernel) (pa_cons (pv 0) (pa_cons (pe_bltn (v := .ty "ValueError") (by rfl) T.z_ValueError (by decide +kernel) rfl) pa_nil)))))))) (pss_one (ps_ret pe_str)) pss_nil)
      (pss_cons (ps_set (i := 3) nd rfl (.inl rfl) (pe_ix ix_list (pv 2) (pe_bm PySem.F.plainAttrs_list PySem.F.slot_list_index PySem.F.type_list_index mt_index (pv 1) (pa_cons pe_bl pa_nil)) (fun _ _ => rfl)))
      (pss_cons (ps_if (pt_cmpR op_eq (pv 3) pe_str (nomark _)) (pss_one (ps_ret (pe_op op_add_str (pe_op op_add_str (pv 3) pe_str) (pe_callB call_repr0 (by rfl) T.z_repr (by decide +kernel) (pa_cons (pe_xfT (pv 0)) pa_nil))))) pss_nil)
      (pss_cons (ps_if (pt_cmpR op_eq (pv 3) pe_str (nomark _)) (pss_one (ps_ret (pe_op op_add_str (pe_op op_add_str (pe_op op_add_str (pe_op op_add_str (pv 3) pe_str) (pe_callB call_repr0 (by rfl) T.z_repr (by decide +kernel) (pa_cons (pe_xfT (pv 0)) pa_nil))) pe_str) (pe_callB call_repr0 (by rfl) T.z_repr (by decide +kernel) (pa_cons (pe_xfT (pv 0)) pa_nil))))) pss_nil)
      (pss_one (ps_ret (pe_op op_add_str (pv 3) (pe_ifExp (pt_cmpR op_in_seq (pv 3) (pe_lst (pa_cons pe_str (pa_cons pe_str pa_nil))) (by rfl)) (pe_op op_add_str pe_str (pe_callB call_repr0 (by rfl) T.z_repr (by decide +kernel) (pa_cons (pe_xfT (pv 0)) pa_nil))) pe_str))))))))))))))))), ?_⟩
    have tyF : ∀ {H'}, Same H H' → TyY K H' (.ref a) (.ref C) := fun s => (sy.same s).ty (s _ _ ea) c.ec
    have ty := tyF (fun _ _ h => h)
    refine ⟨_, rfl, _, .ref _, _, _, _, rfl, .own _, ty, c.k0, _, rfl, _, .ref _, _, _, _, rfl, .own _, ty, c.k1, _, rfl, _, .ref _, _, _, _, rfl, .own _, ty, c.k2, (by show 3 ≤ sizeLine; decide), fun a1 h1 => ?_⟩
    have SH1 : Same H (upd H a1 (.lst [.bl (decide (0 = j)), .bl (decide (1 = j)), .bl (decide (2 = j))])) := same_new h1
    have eH1 : (upd H a1 (.lst [.bl (decide (0 = j)), .bl (decide (1 = j)), .bl (decide (2 = j))])) a1 = some (.lst [.bl (decide (0 = j)), .bl (decide (1 = j)), .bl (decide (2 = j))]) := upd_same
    generalize upd H a1 (.lst [.bl (decide (0 = j)), .bl (decide (1 = j)), .bl (decide (2 = j))]) = H1 at SH1 eH1 ⊢
    have ty := tyF SH1
    refine ⟨_, rfl, _, rfl, _, .ref _, _, _, _, rfl, .own _, ty, c.k3, _, rfl, _, .ref _, _, _, _, rfl, .own _, ty, c.k4, (by show 2 ≤ sizeLine; decide), fun d1 hd1 => ?_⟩
    refine ⟨a1, d1, _, _, rfl, rfl, same_new hd1 _ _ eH1, upd_same, (by show 5 ≤ sizeLine; decide), fun r1 hr1 => ?_⟩
    have SH2 : Same H (upd (upd H1 d1 (.lst [.bl (decide (3 = j)), .bl (decide (4 = j))])) r1 (.lst ([.bl (decide (0 = j)), .bl (decide (1 = j)), .bl (decide (2 = j))] ++ [.bl (decide (3 = j)), .bl (decide (4 = j))]))) := SH1.trans ((same_new hd1).trans (same_new hr1))
    have eH2 : (upd (upd H1 d1 (.lst [.bl (decide (3 = j)), .bl (decide (4 = j))])) r1 (.lst ([.bl (decide (0 = j)), .bl (decide (1 = j)), .bl (decide (2 = j))] ++ [.bl (decide (3 = j)), .bl (decide (4 = j))]))) r1 = some (.lst [.bl (decide (0 = j)), .bl (decide (1 = j)), .bl (decide (2 = j)), .bl (decide (3 = j)), .bl (decide (4 = j))]) := upd_same
    generalize upd (upd H1 d1 (.lst [.bl (decide (3 = j)), .bl (decide (4 = j))])) r1 (.lst ([.bl (decide (0 = j)), .bl (decide (1 = j)), .bl (decide (2 = j))] ++ [.bl (decide (3 = j)), .bl (decide (4 = j))])) = H2 at SH2 eH2 ⊢
    have ty := tyF SH2
    refine ⟨_, rfl, _, rfl, _, .ref _, _, _, _, rfl, .own _, ty, c.k5, _, rfl, _, .ref _, _, _, _, rfl, .own _, ty, c.k6, _, rfl, _, .ref _, _, _, _, rfl, .own _, ty, c.k7, (by show 3 ≤ sizeLine; decide), fun d2 hd2 => ?_⟩
    refine ⟨r1, d2, _, _, rfl, rfl, same_new hd2 _ _ eH2, upd_same, (by show 8 ≤ sizeLine; decide), fun r2 hr2 => ?_⟩
    have SH3 : Same H (upd (upd H2 d2 (.lst [.bl (decide (5 = j)), .bl (decide (6 = j)), .bl (decide (7 = j))])) r2 (.lst ([.bl (decide (0 = j)), .bl (decide (1 = j)), .bl (decide (2 = j)), .bl (decide (3 = j)), .bl (decide (4 = j))] ++ [.bl (decide (5 = j)), .bl (decide (6 = j)), .bl (decide (7 = j))]))) := SH2.trans ((same_new hd2).trans (same_new hr2))
    have eH3 : (upd (upd H2 d2 (.lst [.bl (decide (5 = j)), .bl (decide (6 = j)), .bl (decide (7 = j))])) r2 (.lst ([.bl (decide (0 = j)), .bl (decide (1 = j)), .bl (decide (2 = j)), .bl (decide (3 = j)), .bl (decide (4 = j))] ++ [.bl (decide (5 = j)), .bl (decide (6 = j)), .bl (decide (7 = j))]))) r2 = some (.lst [.bl (decide (0 = j)), .bl (decide (1 = j)), .bl (decide (2 = j)), .bl (decide (3 = j)), .bl (decide (4 = j)), .bl (decide (5 = j)), .bl (decide (6 = j)), .bl (decide (7 = j))]) := upd_same
    generalize upd (upd H2 d2 (.lst [.bl (decide (5 = j)), .bl (decide (6 = j)), .bl (decide (7 = j))])) r2 (.lst ([.bl (decide (0 = j)), .bl (decide (1 = j)), .bl (decide (2 = j)), .bl (decide (3 = j)), .bl (decide (4 = j))] ++ [.bl (decide (5 = j)), .bl (decide (6 = j)), .bl (decide (7 = j))])) = H3 at SH3 eH3 ⊢
    have ty := tyF SH3
    refine ⟨_, rfl, _, rfl, _, .ref _, _, _, _, rfl, .own _, ty, c.k8, _, rfl, _, .ref _, _, _, _, rfl, .own _, ty, c.k9, (by show 2 ≤ sizeLine; decide), fun d3 hd3 => ?_⟩
    refine ⟨r2, d3, _, _, rfl, rfl, same_new hd3 _ _ eH3, upd_same, (by show 10 ≤ sizeLine; decide), fun r3 hr3 => ?_⟩
    have SH4 : Same H (upd (upd H3 d3 (.lst [.bl (decide (8 = j)), .bl (decide (9 = j))])) r3 (.lst ([.bl (decide (0 = j)), .bl (decide (1 = j)), .bl (decide (2 = j)), .bl (decide (3 = j)), .bl (decide (4 = j)), .bl (decide (5 = j)), .bl (decide (6 = j)), .bl (decide (7 = j))] ++ [.bl (decide (8 = j)), .bl (decide (9 = j))]))) := SH3.trans ((same_new hd3).trans (same_new hr3))
    have eH4 : (upd (upd H3 d3 (.lst [.bl (decide (8 = j)), .bl (decide (9 = j))])) r3 (.lst ([.bl (decide (0 = j)), .bl (decide (1 = j)), .bl (decide (2 = j)), .bl (decide (3 = j)), .bl (decide (4 = j)), .bl (decide (5 = j)), .bl (decide (6 = j)), .bl (decide (7 = j))] ++ [.bl (decide (8 = j)), .bl (decide (9 = j))]))) r3 = some (.lst [.bl (decide (0 = j)), .bl (decide (1 = j)), .bl (decide (2 = j)), .bl (decide (3 = j)), .bl (decide (4 = j)), .bl (decide (5 = j)), .bl (decide (6 = j)), .bl (decide (7 = j)), .bl (decide (8 = j)), .bl (decide (9 = j))]) := upd_same
    generalize upd (upd H3 d3 (.lst [.bl (decide (8 = j)), .bl (decide (9 = j))])) r3 (.lst ([.bl (decide (0 = j)), .bl (decide (1 = j)), .bl (decide (2 = j)), .bl (decide (3 = j)), .bl (decide (4 = j)), .bl (decide (5 = j)), .bl (decide (6 = j)), .bl (decide (7 = j))] ++ [.bl (decide (8 = j)), .bl (decide (9 = j))])) = H4 at SH4 eH4 ⊢
    have ty := tyF SH4
    refine ⟨(by show 6 ≤ sizeLine; decide), fun n1 hn1 => ?_⟩
    refine ⟨_, rfl, (by show 4 ≤ sizeLine; decide), fun n2 hn2 => ?_⟩
    refine ⟨n1, n2, _, _, rfl, rfl, same_new hn2 _ _ upd_same, upd_same, (by show 10 ≤ sizeLine; decide), fun n3 hn3 => ?_⟩
    have eR := ((same_new hn1).trans ((same_new (o := .lst [.str "InvalidName", .str "HasPen", .str "TooDeep", .str "TooLarge"]) hn2).trans (same_new (o := .lst ([.str "InvalidText", .str "InvalidSource", .str "InvalidProgram", .str "InvalidTimes", .str "InvalidIndex", .str "InvalidLetter"] ++ [.str "InvalidName", .str "HasPen", .str "TooDeep", .str "TooLarge"])) hn3))) _ _ eH4
    have SM := SH4.trans ((same_new hn1).trans ((same_new (o := .lst [.str "InvalidName", .str "HasPen", .str "TooDeep", .str "TooLarge"]) hn2).trans (same_new (o := .lst ([.str "InvalidText", .str "InvalidSource", .str "InvalidProgram", .str "InvalidTimes", .str "InvalidIndex", .str "InvalidLetter"] ++ [.str "InvalidName", .str "HasPen", .str "TooDeep", .str "TooLarge"])) hn3)))
    have eN : (upd (upd (upd H4 n1 (.lst [.str "InvalidText", .str "InvalidSource", .str "InvalidProgram", .str "InvalidTimes", .str "InvalidIndex", .str "InvalidLetter"])) n2 (.lst [.str "InvalidName", .str "HasPen", .str "TooDeep", .str "TooLarge"])) n3 (.lst ([.str "InvalidText", .str "InvalidSource", .str "InvalidProgram", .str "InvalidTimes", .str "InvalidIndex", .str "InvalidLetter"] ++ [.str "InvalidName", .str "HasPen", .str "TooDeep", .str "TooLarge"]))) n3 = some (.lst (clsNames.map V.str)) := upd_same
    generalize upd (upd (upd H4 n1 (.lst [.str "InvalidText", .str "InvalidSource", .str "InvalidProgram", .str "InvalidTimes", .str "InvalidIndex", .str "InvalidLetter"])) n2 (.lst [.str "InvalidName", .str "HasPen", .str "TooDeep", .str "TooLarge"])) n3 (.lst ([.str "InvalidText", .str "InvalidSource", .str "InvalidProgram", .str "InvalidTimes", .str "InvalidIndex", .str "InvalidLetter"] ++ [.str "InvalidName", .str "HasPen", .str "TooDeep", .str "TooLarge"])) = H5 at eR SM eN ⊢
    have eL : H5 r3 = some (.lst (clsRow j)) := eR
    clear eR
    have ty := tyF SM
    refine ⟨_, rfl, (by show 6 ≤ sizeLine; decide), fun t0 ht0 => ?_⟩
    have eL := same_new (o := .tup [.ref (He.ga K "InvalidArt"), .ref (He.ga K "InvalidCommand"), .ref (He.ga K "InvalidCount"), .ref (He.ga K "InvalidEdge"), .ref (He.ga K "InvalidFace"), .ref (He.ga K "InvalidFaces")]) ht0 _ _ eL
    have eN := same_new (o := .tup [.ref (He.ga K "InvalidArt"), .ref (He.ga K "InvalidCommand"), .ref (He.ga K "InvalidCount"), .ref (He.ga K "InvalidEdge"), .ref (He.ga K "InvalidFace"), .ref (He.ga K "InvalidFaces")]) ht0 _ _ eN
    have SH6 : Same H (upd H5 t0 (.tup [.ref (He.ga K "InvalidArt"), .ref (He.ga K "InvalidCommand"), .ref (He.ga K "InvalidCount"), .ref (He.ga K "InvalidEdge"), .ref (He.ga K "InvalidFace"), .ref (He.ga K "InvalidFaces")])) := SM.trans (same_new ht0)
    have eH6 : (upd H5 t0 (.tup [.ref (He.ga K "InvalidArt"), .ref (He.ga K "InvalidCommand"), .ref (He.ga K "InvalidCount"), .ref (He.ga K "InvalidEdge"), .ref (He.ga K "InvalidFace"), .ref (He.ga K "InvalidFaces")])) t0 = some (.tup [.ref (He.ga K "InvalidArt"), .ref (He.ga K "InvalidCommand"), .ref (He.ga K "InvalidCount"), .ref (He.ga K "InvalidEdge"), .ref (He.ga K "InvalidFace"), .ref (He.ga K "InvalidFaces")]) := upd_same
    generalize upd H5 t0 (.tup [.ref (He.ga K "InvalidArt"), .ref (He.ga K "InvalidCommand"), .ref (He.ga K "InvalidCount"), .ref (He.ga K "InvalidEdge"), .ref (He.ga K "InvalidFace"), .ref (He.ga K "InvalidFaces")]) = H6 at SH6 eH6 eL eN ⊢
    have ty := tyF SH6
    refine ⟨_, t0, _, _, _, _, rfl, eH6, (.cons (.own _) (.cons (.own _) (.cons (.own _) (.cons (.own _) (.cons (.own _) (.cons (.own _) .nil)))))), ty, c.a0, _, rfl, iteF ?_⟩
    refine ⟨_, rfl, (by show 5 ≤ sizeLine; decide), fun t1 ht1 => ?_⟩
    have eL := same_new (o := .tup [.ref (He.ga K "InvalidIntervals"), .ref (He.ga K "InvalidMotion"), .ref (He.ga K "InvalidOperation"), .ref (He.ga K "InvalidPicture"), .ref (He.ga K "InvalidPlace")]) ht1 _ _ eL
    have eN := same_new (o := .tup [.ref (He.ga K "InvalidIntervals"), .ref (He.ga K "InvalidMotion"), .ref (He.ga K "InvalidOperation"), .ref (He.ga K "InvalidPicture"), .ref (He.ga K "InvalidPlace")]) ht1 _ _ eN
    have SH7 : Same H (upd H6 t1 (.tup [.ref (He.ga K "InvalidIntervals"), .ref (He.ga K "InvalidMotion"), .ref (He.ga K "InvalidOperation"), .ref (He.ga K "InvalidPicture"), .ref (He.ga K "InvalidPlace")])) := SH6.trans (same_new ht1)
    have eH7 : (upd H6 t1 (.tup [.ref (He.ga K "InvalidIntervals"), .ref (He.ga K "InvalidMotion"), .ref (He.ga K "InvalidOperation"), .ref (He.ga K "InvalidPicture"), .ref (He.ga K "InvalidPlace")])) t1 = some (.tup [.ref (He.ga K "InvalidIntervals"), .ref (He.ga K "InvalidMotion"), .ref (He.ga K "InvalidOperation"), .ref (He.ga K "InvalidPicture"), .ref (He.ga K "InvalidPlace")]) := upd_same
    generalize upd H6 t1 (.tup [.ref (He.ga K "InvalidIntervals"), .ref (He.ga K "InvalidMotion"), .ref (He.ga K "InvalidOperation"), .ref (He.ga K "InvalidPicture"), .ref (He.ga K "InvalidPlace")]) = H7 at SH7 eH7 eL eN ⊢
    have ty := tyF SH7
    refine ⟨_, t1, _, _, _, _, rfl, eH7, (.cons (.own _) (.cons (.own _) (.cons (.own _) (.cons (.own _) (.cons (.own _) .nil))))), ty, c.a1, _, rfl, iteF ?_⟩
    refine ⟨_, rfl, (by show 8 ≤ sizeLine; decide), fun t2 ht2 => ?_⟩
    have eL := same_new (o := .tup [.ref (He.ga K "InvalidPoint"), .ref (He.ga K "InvalidPose"), .ref (He.ga K "InvalidTurn"), .ref (He.ga K "NoSteps"), .ref (He.ga K "NotClosed"), .ref (He.ga K "NotDrifting"), .ref (He.ga K "NotEven"), .ref (He.ga K "Nothing")]) ht2 _ _ eL
    have eN := same_new (o := .tup [.ref (He.ga K "InvalidPoint"), .ref (He.ga K "InvalidPose"), .ref (He.ga K "InvalidTurn"), .ref (He.ga K "NoSteps"), .ref (He.ga K "NotClosed"), .ref (He.ga K "NotDrifting"), .ref (He.ga K "NotEven"), .ref (He.ga K "Nothing")]) ht2 _ _ eN
    have SH8 : Same H (upd H7 t2 (.tup [.ref (He.ga K "InvalidPoint"), .ref (He.ga K "InvalidPose"), .ref (He.ga K "InvalidTurn"), .ref (He.ga K "NoSteps"), .ref (He.ga K "NotClosed"), .ref (He.ga K "NotDrifting"), .ref (He.ga K "NotEven"), .ref (He.ga K "Nothing")])) := SH7.trans (same_new ht2)
    have eH8 : (upd H7 t2 (.tup [.ref (He.ga K "InvalidPoint"), .ref (He.ga K "InvalidPose"), .ref (He.ga K "InvalidTurn"), .ref (He.ga K "NoSteps"), .ref (He.ga K "NotClosed"), .ref (He.ga K "NotDrifting"), .ref (He.ga K "NotEven"), .ref (He.ga K "Nothing")])) t2 = some (.tup [.ref (He.ga K "InvalidPoint"), .ref (He.ga K "InvalidPose"), .ref (He.ga K "InvalidTurn"), .ref (He.ga K "NoSteps"), .ref (He.ga K "NotClosed"), .ref (He.ga K "NotDrifting"), .ref (He.ga K "NotEven"), .ref (He.ga K "Nothing")]) := upd_same
    generalize upd H7 t2 (.tup [.ref (He.ga K "InvalidPoint"), .ref (He.ga K "InvalidPose"), .ref (He.ga K "InvalidTurn"), .ref (He.ga K "NoSteps"), .ref (He.ga K "NotClosed"), .ref (He.ga K "NotDrifting"), .ref (He.ga K "NotEven"), .ref (He.ga K "Nothing")]) = H8 at SH8 eH8 eL eN ⊢
    have ty := tyF SH8
    refine ⟨_, t2, _, _, _, _, rfl, eH8, (.cons (.own _) (.cons (.own _) (.cons (.own _) (.cons (.own _) (.cons (.own _) (.cons (.own _) (.cons (.own _) (.cons (.own _) .nil)))))))), ty, c.a2, _, rfl, iteF ?_⟩
    refine ⟨_, rfl, .inl ⟨rfl, _, lstL eL⟩, r3, _, .bl true, rfl, rfl, lstL eL, rfl, clsRow_flat j, rfl, false, ?_, iteF ⟨_, rfl, _, .ty "ValueError", _, _, _, rfl, .ty "ValueError", ty, c.ve, _, rfl, iteF ?_⟩⟩
    · rw [clsRow_count j c.lt]
      rfl
    refine ⟨_, rfl, _, rfl, .inl ⟨rfl, _, lstL eL⟩, r3, _, .bl true, j, .bl true, rfl, rfl, lstL eL, rfl, clsRow_flat j, clsRow_at j c.lt, rfl, clsRow_no j, n3, _, _, _, rfl, rfl, lstL eN, atI_nat (clsNames_at j c.lt), ?_⟩
    have sy := sy.same SH8
    have ea := SH8 _ _ ea
    have xf := XfC.ofE c.ec
    rcases sy with ⟨rfl, dd, v, rfl, ed, f1, hv, lv, rfl⟩ | ⟨rfl, dd, v, u, rfl, ed, f1, f2, hv, hu, lv, lu, rfl⟩ | ⟨hj, dd, k, rfl, ed, f1, hk, lk, rfl⟩ | ⟨j2, j7, rfl, rfl⟩
    · refine ⟨_, rfl, rfl, true, rfl, iteT ?_⟩
      refine ⟨_, rfl, _, _, rfl, rfl, (by decide), _, rfl, a, C, dd, _, _, rfl, xf, f1, ea, ed, rfl, reprO_arg hv ?_⟩
      exact ⟨_, _, rfl, rfl, Nat.le_trans (Nat.add_le_add_left lv 12) (by decide), q _ SH8⟩
    · refine ⟨_, rfl, rfl, false, rfl, iteF ⟨_, rfl, rfl, true, rfl, iteT ?_⟩⟩
      refine ⟨_, rfl, _, _, rfl, rfl, (by decide), _, rfl, a, C, dd, _, _, rfl, xf, f1, ea, ed, rfl, reprO_arg hv ?_⟩
      refine ⟨_, _, rfl, rfl, Nat.le_trans (Nat.add_le_add_left lv 14) (by decide), _, _, rfl, rfl, ?_, _, rfl, a, C, dd, _, _, rfl, xf, f2, ea, ed, rfl, reprO_arg hu ?_⟩
      · rw [strLen_append]
        exact Nat.le_trans (Nat.add_le_add_right (Nat.add_le_add_left lv 14) 1) (by decide)
      · refine ⟨_, _, rfl, rfl, ?_, q _ SH8⟩
        rw [strLen_append, strLen_append]
        exact Nat.le_trans (Nat.add_le_add (Nat.add_le_add_right (Nat.add_le_add_left lv 14) 1) lu) (by decide)
    · rcases hj with rfl | rfl
      all_goals
        refine ⟨_, rfl, rfl, false, rfl, iteF ⟨_, rfl, rfl, false, rfl, iteF ?_⟩⟩
        refine ⟨_, rfl, _, rfl, (by show 2 ≤ sizeLine; decide), fun l hl => ⟨l, _, rfl, .inl (lstL upd_same), rfl, rfl, true, (by decide +kernel), iteT ?_⟩⟩
        have sl := same_new (o := .lst [.str "TooDeep", .str "TooLarge"]) hl
        refine ⟨_, rfl, a, C, dd, _, _, rfl, xf, f1, sl _ _ ea, sl _ _ ed, rfl, reprO_arg (v := some k) (fun i e => by cases e; exact hk) ?_⟩
        refine ⟨_, _, rfl, rfl, Nat.le_trans (Nat.add_le_add_left lk 1) (by decide), _, _, rfl, rfl, ?_, q _ (SH8.trans sl)⟩
        rw [strLen_append]
        exact Nat.le_trans (Nat.add_le_add (show _ ≤ 8 by decide +kernel) (Nat.add_le_add_left lk 1)) (by decide)
    · have e : j = 2 ∨ j = 3 ∨ j = 4 ∨ j = 5 ∨ j = 6 ∨ j = 7 := by omega
      rcases e with rfl | rfl | rfl | rfl | rfl | rfl
      all_goals
        refine ⟨_, rfl, rfl, false, rfl, iteF ⟨_, rfl, rfl, false, rfl, iteF ?_⟩⟩
        refine ⟨_, rfl, _, rfl, (by show 2 ≤ sizeLine; decide), fun l hl => ⟨l, _, rfl, .inl (lstL upd_same), rfl, rfl, false, (by decide +kernel), iteF ?_⟩⟩
        have sl := same_new (o := .lst [.str "TooDeep", .str "TooLarge"]) hl
        exact ⟨_, _, rfl, rfl, (by decide), q _ (SH8.trans sl)⟩
end
end K09P

set_option Elab.async false
set_option linter.all false
set_option maxRecDepth 100000
set_option maxHeartbeats 4000000
/-! an own exception with an own __init__, made and told by L2N (its context is empty) -/
namespace RT
open PySem PySem.Spec PyProof.Rows L2
section
variable {X : Cx} {e : Expr} {es : List Expr} {ta : TA} {p pos : Pos}
theorem made_oexN {CX : CXT} {C fI : Addr} {k : Nat} {fd : FuncData} {ps : List Str} {sp : Sp} {ds : List Value} {dvs : List V} {pins : List (Addr × Obj)} {σ : L2.St} {Q : XK}
    (T : OexC X.K C) (iC : PySem.W.findIn X.K (.ref C) "__init__" = some (some (.ref fI)))
    (tI : PySem.W.typeIn X.K (.ref fI) = some (.type "function"))
    (FI : FnOk X.prog X.w X.K X.mg X.base CX k fI fd ps sp)
    (room : Room (k + 1) X.A) (bi : Binds X.K fd ps ds) (dv : Vals dvs ds)
    (no : Passes CX X (fun _ _ _ => False))
    {us : List Value} {vs : List V} {H1 : Hp} {s1 : Shared} (I1 : Inv X pins σ H1 s1) (rv : Vals vs us) (few : vs.length ≤ 1000)
    (wish : ∀ a, H1 a = none → sp (.ref a :: (vs ++ dvs)) (upd H1 a (exo a C none))
      (fun v H2 => v = .non ∧ ∃ (d : Addr) (fs : List (Str × V)), H2 a = some (exo a C (some d)) ∧ H2 d = some (exd d fs) ∧ H1 d = none ∧ Q (.ref C) (some d) (upd (del H2 a) d (.xd fs))) (fun _ _ _ => False)) :
    wpAny (model X.prog X.w) X.A (call (.ref C) us) (L2N.MkP X pins σ Q) X.xe s1 := by
  obtain ⟨_, _, _, _, tail, _, _, _, _, _, _, _, _, _, _, look, tailOk⟩ := T.cls
  cases s1 with
  | mk hp g dr tk os =>
  obtain ⟨a, ea⟩ : ∃ a, a = hp.objs.size + 1 := ⟨_, rfl⟩
  have above : hp.objs.size ≤ a := by omega
  have new : H1 a = none := I1.hok.fresh above
  obtain ⟨h2, eh⟩ : ∃ h2, h2 = (hp.push (PySem.W.kdv_tup us)).push (PySem.HandSPX.excO C hp.objs.size) := ⟨_, rfl⟩
  have keeps : ∀ b o, hp.get? b = some o → h2.get? b = some o := by
    intro b o eb
    rw [eh]
    exact Heap.get?_push_of_some _ (Heap.get?_push_of_some _ eb)
  have there : h2.get? a = some (PySem.HandSPX.excO C hp.objs.size) := by
    rw [eh, ea]
    heap_get
  have I2 : Inv X pins σ (upd H1 a (exo a C none)) ⟨h2, g, dr, tk, os⟩ := Inv.laid (t' := tk) I1 keeps above (exo_ok there)
  have vals : Vals (V.ref a :: (vs ++ dvs)) (Value.ref a :: (us ++ ds)) := .cons rfl (rv.append dv)
  have many : (Value.ref a :: (us ++ ds)).length = ps.length := vals.length.symm.trans (FI.len _ _ _ _ (wish a new))
  have line : us.length ≤ sizeLine := by
    have := rv.length
    rw [sizeLine_eq]
    omega
  have deeper := room.make C us []
  have envs := I2.env0.make C us []
  have bound := bi ⟨h2, g, dr, tk, os⟩ (Value.ref a :: us) I2.kIn many
  have ran := FI.run _ X.stack _ _ ⟨Value.ref a :: us, []⟩ (Value.ref a :: (us ++ ds)) _ _ (fun _ _ _ => False) deeper envs bound vals (wish a new)
  refine wpAny_call (PySem.HandSPX.call_own (h := hp) F.excBase_ValueError (fun Y => PySem.HandSPX.refsVE_contains Y tail tailOk) (I1.kIn _ _ look) (PySem.W.looks_findIn I1.kIn iC) (fun self => PySem.W.bind_fn I1.kIn self tI) line ?_)
  rw [← ea, ← eh]
  refine codeAny_mono ran fun r s' z => ?_
  match r, z with
  | .error er, z => exact no pins σ _ _ er s' I2 z
  | .ok (.ret u), z =>
    obtain ⟨v, H2, os2, bare, un, hok, ruv, ev, d, fs, e1, e2, e3, q⟩ := z
    subst ev
    cases s' with
    | mk h3 g3 d3 t3 os3 =>
    obtain ⟨t0, G, J, kG, none_, obj, na⟩ := mk_end0 (d2 := d3) (t2 := t3) I1 above keeps un hok os2 bare e1 e2 e3
    refine ⟨ruv, a, _, _, ⟨G, g3, d3, t3, os3⟩, _, .ref C, some d, rfl, J, kG, none_, obj, ⟨rfl, rfl, fun ws ew => ?_⟩, rfl, rfl, na, rfl, bare, raises_own T.exC T.tyC, q⟩
    injection ew with ew
    rw [← ew]
    rfl
  | .ok .next, z => exact z.elim
  | .ok .brk, z => exact z.elim
  | .ok .cont, z => exact z.elim
theorem pmkN_oex {CX : CXT} {x : Str} {C fI : Addr} {k : Nat} {fd : FuncData} {ps : List Str} {sp : Sp} {ds : List Value} {dvs : List V}
    (T : OexC X.K C) (iC : PySem.W.findIn X.K (.ref C) "__init__" = some (some (.ref fI)))
    (tI : PySem.W.typeIn X.K (.ref fI) = some (.type "function"))
    (FI : FnOk X.prog X.w X.K X.mg X.base CX k fI fd ps sp)
    (room : Room (k + 1) X.A) (bi : Binds X.K fd ps ds) (dv : Vals dvs ds)
    (no : Passes CX X (fun _ _ _ => False))
    (gl : Gl X x) (at_ : X.mg x = some (.ref C)) (args : PA X (e :: es) ta)
    (nd : (x == ("__debug__" : Str)) = false := by decide)
    (one : starEach (e :: es) X.env = (false, eval e X.env) :: starEach es X.env := by rfl)
    (plain : (backTo pos (starEach es X.env)).any (·.1) = false := by rfl) :
    L2N.PMk X (.Call (.Name x p) (e :: es) [] pos) (tMkO C sp dvs ta) := by
  intro pins s σ H Q I h
  refine wpAny_Call_Name_kw (ld_glob I gl at_ ?_ nd)
  have got := args.run pos pins s σ H _ I h
  refine PySem.W.callWith_K (h₀ := X.base) I.ok.mod.kin T.kC ?_ one plain
  refine thn got fun us s1 z => ?_
  obtain ⟨vs, H1, I1, rv, few, wish⟩ := z
  exact ⟨I1.kIn, made_oexN T iC tI FI room bi dv no I1 rv few wish⟩
end
end RT

set_option Elab.async false
set_option linter.all false
set_option maxRecDepth 100000
set_option maxHeartbeats 4000000
set_option exponentiation.threshold 600
namespace K09P
open PySem PySem.Spec PyProof.Rows L2 RT WM K09 TL
section
variable {P : Program} {w : World} {K : PySem.W.Frag} {mg : Str → Option Value} {base : Heap}
/-- C(n) with one field -/
def spOneInit (K : PySem.W.Frag) (C f : Str) : Sp := fun vs H Q _ => ∃ (a : Addr) (n : Nat), vs = [.ref a, optV (some n)] ∧ n ≤ 5000 ∧ H a = some (exo a (He.ga K C) none) ∧
  ∀ d, H d = none → d ≠ a → Q .non (upd (upd H d (exd d [(f, optV (some n))])) a (exo a (He.ga K C) (some d)))
theorem ok_largeI (D : Ds K) (T : Tx K mg) : FnOk P w K mg base CX0 1 (dTooLarge_init.adr K) D.fd_TooLarge_init ["self", "limit"] (spOneInit K "TooLarge" "limit") := by
  obtain ⟨c1, c2, c3, c4⟩ := T.ce_PlotError
  refine D.F_TooLarge_init.ok scTooLarge_init (fun vs H Q E h => ?_) (fun cdv A outer s H vs Q E hr h => ?_)
  · obtain ⟨a, n, rfl, _⟩ := h
    rfl
  · obtain ⟨a, n, rfl, hn, ea, q⟩ := h
    refine ⟨_, PSs.nox (pss_cons (ps_expr (pe_ceinit (by rfl) T.g_PlotError c1 c2 c3 c4 (pa_cons (pv 0) (pa_cons (pe_joined (.cons pe_str (.cons (pe_fmt0 (pv 1)) .nil))) pa_nil))))
      (pss_one (ps_ost (pv 0) (pv 1)))), ?_⟩
    have fin : ∀ out : Str, ∃ (b C : Addr) (ws : List V), [V.ref a, V.str out] = .ref b :: ws ∧ ws.length ≤ 1000 ∧ OexC K C ∧ H b = some (exo b C none) ∧ tOst K "limit" (tVar 0) (tVar 1) { nx := fun x H' => Q V.non H', rt := Q } (L2.start NTooLarge_init [V.ref a, optV (some n)]) H := fun out =>
      ⟨a, He.ga K "TooLarge", [.str out], rfl, by show 1 ≤ 1000; decide, T.ox_TooLarge, ea, _, rfl, _, rfl, a, He.ga K "TooLarge", rfl, T.ox_TooLarge, T.no_TooLarge_limit, .inl ⟨ea, fun dx nd ne => q dx nd ne⟩⟩
    have l1 : (Str.empty ++ ("larger than " : Str)).length ≤ 60 := by decide
    refine ⟨_, rfl, _, rfl, Nat.le_trans l1 (by decide), ?_⟩
    have h30 : n ≤ T30 := Nat.le_trans hn (by decide)
    refine ⟨_, rfl, .inr (.inl ⟨(n : Int), rfl, ?_, _, rfl, ?_, fin _⟩)⟩
    · have h1 : ((n : Int)).natAbs < 2 ^ 20 := by omega
      exact Nat.lt_trans (PySem.Flt.log2_lt_of (by decide) h1) (by decide)
    · rw [strLen_append]
      have := dg_len h30
      rw [← dgS_eq] at this
      exact Nat.le_trans (Nat.add_le_add l1 this) (by decide)
theorem ok_deepI (D : Ds K) (T : Tx K mg) : FnOk P w K mg base CX0 1 (dTooDeep_init.adr K) D.fd_TooDeep_init ["self", "limit"] (spOneInit K "TooDeep" "limit") := by
  obtain ⟨c1, c2, c3, c4⟩ := T.ce_PlotError
  refine D.F_TooDeep_init.ok scTooDeep_init (fun vs H Q E h => ?_) (fun cdv A outer s H vs Q E hr h => ?_)
  · obtain ⟨a, n, rfl, _⟩ := h
    rfl
  · obtain ⟨a, n, rfl, hn, ea, q⟩ := h
    refine ⟨_, PSs.nox (pss_cons (ps_expr (pe_ceinit (by rfl) T.g_PlotError c1 c2 c3 c4 (pa_cons (pv 0) (pa_cons (pe_joined (.cons pe_str (.cons (pe_fmt0 (pv 1)) .nil))) pa_nil))))
      (pss_one (ps_ost (pv 0) (pv 1)))), ?_⟩
    have fin : ∀ out : Str, ∃ (b C : Addr) (ws : List V), [V.ref a, V.str out] = .ref b :: ws ∧ ws.length ≤ 1000 ∧ OexC K C ∧ H b = some (exo b C none) ∧ tOst K "limit" (tVar 0) (tVar 1) { nx := fun x H' => Q V.non H', rt := Q } (L2.start NTooDeep_init [V.ref a, optV (some n)]) H := fun out =>
      ⟨a, He.ga K "TooDeep", [.str out], rfl, by show 1 ≤ 1000; decide, T.ox_TooDeep, ea, _, rfl, _, rfl, a, He.ga K "TooDeep", rfl, T.ox_TooDeep, T.no_TooDeep_limit, .inl ⟨ea, fun dx nd ne => q dx nd ne⟩⟩
    have l1 : (Str.empty ++ ("repeats nested deeper than " : Str)).length ≤ 60 := by decide
    refine ⟨_, rfl, _, rfl, Nat.le_trans l1 (by decide), ?_⟩
    have h30 : n ≤ T30 := Nat.le_trans hn (by decide)
    refine ⟨_, rfl, .inr (.inl ⟨(n : Int), rfl, ?_, _, rfl, ?_, fin _⟩)⟩
    · have h1 : ((n : Int)).natAbs < 2 ^ 20 := by omega
      exact Nat.lt_trans (PySem.Flt.log2_lt_of (by decide) h1) (by decide)
    · rw [strLen_append]
      have := dg_len h30
      rw [← dgS_eq] at this
      exact Nat.le_trans (Nat.add_le_add l1 this) (by decide)
end
/-- what a raise of C(n) leaves -/
def LimX (K : PySem.W.Frag) (H : Hp) (E : XK) (C : Str) (n : Nat) : Prop := ∀ d H', Same H H' → H d = none → H' d = some (.xd [("limit", optV (some n))]) → E (.ref (He.ga K C)) (some d) H'
theorem boom1 {K : PySem.W.Frag} {C f : Str} {n : Nat} {H H1 : Hp} {R : XK} (s1 : Same H H1) (hn : n ≤ 5000) (told : ∀ d H', Same H H' → H d = none → H' d = some (.xd [(f, optV (some n))]) → R (.ref (He.ga K C)) (some d) H') : ∀ a, H1 a = none → spOneInit K C f (.ref a :: ([optV (some n)] ++ [])) (upd H1 a (exo a (He.ga K C) none))
    (fun v H2 => v = .non ∧ ∃ (d : Addr) (fs : List (Str × V)), H2 a = some (exo a (He.ga K C) (some d)) ∧ H2 d = some (exd d fs) ∧ H1 d = none ∧ R (.ref (He.ga K C)) (some d) (upd (del H2 a) d (.xd fs))) (fun _ _ _ => False) := by
  intro a na
  refine ⟨a, n, rfl, hn, upd_same, fun d nd hne => ⟨rfl, d, [(f, optV (some n))], upd_same, (upd_ne hne).trans upd_same, ?_, ?_⟩⟩
  · rw [upd_ne hne] at nd
    exact nd
  · rw [upd_ne hne] at nd
    refine told d _ (fun b o e => ?_) ?_ upd_same
    · have e1 := s1 b o e
      have ba : b ≠ a := ne_of_none e1 na
      have bd : b ≠ d := ne_of_none e1 nd
      rw [upd_ne bd, del_ne ba, upd_ne ba, upd_ne bd, upd_ne ba]
      exact e1
    · cases e : H d with
      | none => rfl
      | some o =>
        rw [s1 d o e] at nd
        cases nd
end K09P

set_option Elab.async false
set_option linter.all false
set_option maxRecDepth 100000
set_option maxHeartbeats 4000000
set_option exponentiation.threshold 3000
namespace K09P
open PySem PySem.Spec PyProof.Rows L2 RT WM K09 TL
theorem PS_nox {X : Cx} {st : Stmt} {t : TS} (h : PS X.nox st t) : PS X st t := ⟨fun pins s σ H D I hw =>
  wpAny_mono (h.run pins s σ H D (I.wish _) hw) (fun _ _ q => q.unwish) fun _ _ z => False.elim z⟩
/-- of another kind than a text -/
def NoStr (K : PySem.W.Frag) (H : Hp) (v : V) : Prop := ∃ t, (∀ H', Same H H' → TyY K H' v t) ∧ PySem.W.kitOne K t (.type "str") = some false
section
variable {P : Program} {w : World} {K : PySem.W.Frag} {mg : Str → Option Value} {base : Heap}
/-- what may come of a program that is asked for -/
structure Outs (K : PySem.W.Frag) (H : Hp) (Q : VK) (E : XK) (p : Ps) : Prop where
  fine : p.words.length ≤ 1000 → p.lev ≤ 12 → ∀ r H', Same H H' → IsP K H' r p → Q (.ref r) H'
  large : 1000 < p.words.length → LimX K H E "TooLarge" 1000
  deep : p.words.length ≤ 1000 → 12 < p.lev → LimX K H E "TooDeep" 12
theorem Outs.same {H H1 : Hp} {Q : VK} {E : XK} {p : Ps} (h : Outs K H Q E p) (s : Same H H1) : Outs K H1 Q E p := ⟨fun a b r H' s' ip => h.fine a b r H' (s.trans s') ip, fun a d H' s' nd ed => h.large a d H' (s.trans s') (by
    cases e : H d with
    | none => rfl
    | some o => rw [s _ _ e] at nd; cases nd) ed, fun a b d H' s' nd ed => h.deep a b d H' (s.trans s') (by
    cases e : H d with
    | none => rfl
    | some o => rw [s _ _ e] at nd; cases nd) ed⟩
def spProgX (K : PySem.W.Frag) : Sp := fun vs H Q E => ∃ (a b : Addr) (NL : List (List Nat)) (L : Nat → Ns) (m k : Nat) (kvs : List (Key × V)) (as_ : Nat → Addr), vs = [.ref a, .ref b] ∧ k ≤ m ∧ SqL K H a (wsV NL (L k).words) ∧ H b = some (.dK kvs) ∧ Names NL m ∧ Lines L m ∧ Nmd H NL L m kvs as_ ∧ Outs K H Q E (flat L k)
theorem ok_progX (D : Ds K) (T : Tx K mg) : FnOk P w K mg base (L2N.CX P w) 22 (d_program_of.adr K) D.fd__program_of ["words", "named"] (spProgX K) := by
  have GM : FnOk P w K mg base CX0 1 _ _ _ (spMeasure K) := ok_measure D T
  have GR : FnOk P w K mg base CX0 21 _ _ _ (spRepl K 20) := ok_repl D T 20
  have GP : FnOk P w K mg base CX0 19 _ _ _ (spProg K) := ok_prog D T
  have GTl : FnOk P w K mg base CX0 1 _ _ _ (spOneInit K "TooLarge" "limit") := ok_largeI D T
  have GTd : FnOk P w K mg base CX0 1 _ _ _ (spOneInit K "TooDeep" "limit") := ok_deepI D T
  obtain ⟨ol1, ol2⟩ := T.oi_TooLarge
  obtain ⟨od1, od2⟩ := T.oi_TooDeep
  refine D.F__program_of.ok sc_program_of (fun vs H Q E h => ?_) (fun cdv A outer s H vs Q E hr h => ?_)
  · obtain ⟨a, b, NL, L, m, k, kvs, as_, rfl, _⟩ := h
    rfl
  · obtain ⟨a, b, NL, L, m, k, kvs, as_, rfl, hkm, ha, hb, hN, hL, nm, out⟩ := h
    have nd := sc_program_of.nd
    obtain ⟨tD, vMOST_DEPTH⟩ := T.v_MOST_DEPTH
    obtain ⟨tW, vMOST_WORDS⟩ := T.v_MOST_WORDS
    refine ⟨_, (pss_cons (PS_nox (ps_set (i := 2) nd rfl (.inl rfl) pe_dnewK))
        (pss_cons (PS_nox (ps_lock (ps_for PassesOwn.never rfl (pi_keys (pv 1)) (pg_name (i := 3) nd rfl (.inl rfl))
        (pss_one (ps_dput (hu_of hr) (pv 2) (pv 3) (pe_call GM (hr.mono (by decide)) (by rfl) T.g__measure D.F__measure.kp (b__measure D) .nil pass0 (pa_cons (pe_dget (hu_of hr) (pv 1) (pv 3) (fun _ _ => rfl)) (pa_cons (pv 2) pa_nil))) rfl)))))
        (pss_cons (PS_nox (ps_asg (pe_call GM (hr.mono (by decide)) (by rfl) T.g__measure D.F__measure.kp (b__measure D) .nil pass0 (pa_cons (pv 0) (pa_cons (pv 2) pa_nil))) (pg_tup (by rfl) (pgs_cons (pg_name (i := 4) nd rfl (.inl rfl)) (pgs_cons (pg_name (i := 5) nd rfl (.inl rfl)) pgs_nil)))))
        (pss_cons (ps_if (PT.nox (pt_cmpR op_gt (pv 4) (pe_glob (v := .int 1000) rfl vMOST_WORDS ⟨_, rfl⟩) (nomark _)))
        (pss_one (L2N.ps_raise rfl (L2N.takes_of rfl rfl rfl rfl) (pmkN_oex T.ox_TooLarge ol1 ol2 GTl (hr.mono (by decide)) (b_TooLarge_init D) .nil pass0 (by rfl) T.g_TooLarge (pa_cons (pe_glob (v := .int 1000) rfl vMOST_WORDS ⟨_, rfl⟩) pa_nil)))) pss_nil)
        (pss_cons (ps_if (PT.nox (pt_cmpR op_gt (pv 5) (pe_glob (v := .int 12) rfl vMOST_DEPTH ⟨_, rfl⟩) (nomark _)))
        (pss_one (L2N.ps_raise rfl (L2N.takes_of rfl rfl rfl rfl) (pmkN_oex T.ox_TooDeep od1 od2 GTd (hr.mono (by decide)) (b_TooDeep_init D) .nil pass0 (by rfl) T.g_TooDeep (pa_cons (pe_glob (v := .int 12) rfl vMOST_DEPTH ⟨_, rfl⟩) pa_nil)))) pss_nil)
        (pss_one (PS_nox (ps_ret (pe_make T.k_Program GP (hr.mono (by decide)) (by rfl) T.g_Program (b_Program_init D) .nil pass0 (pa_cons (pe_join pe_str (pe_call GR (hr.mono (by decide)) (by rfl) T.g__replaced D.F__replaced.kp (b__replaced D) .nil pass0 (pa_cons (pv 0) (pa_cons (pv 1) pa_nil)))) pa_nil)))))))))), ?_⟩
    have kdm : Dct NL m kvs fun i => .ref (as_ i) := nm.dct
    refine fun d hd => ?_
    have sd := same_new (o := .dK []) hd
    have ndb : d ≠ b := Ne.symm (ne_of_none hb hd)
    refine ⟨b, .dK kvs, sd _ _ hb, trivial, fun od => ?_⟩
    refine ⟨_, rfl, b, od, rfl, .inl ⟨kvs, upd_same, ?_⟩⟩
    refine for_keys (fun i σ H' => ∃ (t : Nat → Addr) (kv2 : List (Key × V)) (z3 : Option V), (∀ x o, x ≠ b → H x = some o → H' x = some o) ∧ H' b = some (.frz od (.dK kvs)) ∧ Meas H' NL i d (fun j => (flat L j).words.length) (fun j => (flat L j).lev) kv2 t ∧ σ = [some (.ref a), some (.ref b), some (.ref d), z3, none, none])
      ⟨fun _ => 0, [], none, fun x o hx e => by rw [upd_ne hx]; exact sd _ _ e, upd_same, ⟨(upd_ne ndb).trans upd_same, Dct.nil NL _, fun i hi => absurd hi (Nat.not_lt_zero _)⟩, rfl⟩
      (fun i σ H' hi hp => by obtain ⟨_, _, _, _, h, _⟩ := hp; exact h) (fun i kx vx σ H1 hx hp => ?_) fun σ H' hp => ?_
    · obtain ⟨t, kv2, z3, sb, eb, me, rfl⟩ := hp
      obtain ⟨im, rfl⟩ := kdm.key hN (Nat.le_refl _) hx
      have eai : H1 (as_ i) = some (.lst (wsV NL (L i).words)) := sb _ _ (fun z => by
        have := nm.at_ i im
        rw [z, hb] at this
        cases this) (nm.at_ i im)
      refine ⟨_, rfl, _, rfl, b, .ref (as_ i), rfl, dgetR (.inr ⟨od, eb⟩) (kdm.val i im), _, rfl, as_ i, d, NL, m, i, kv2, t, _, _, (L i).words, rfl, lstL eai, hN, by omega, me, words_okN _ (hL.ok i (by omega)), fun r H2 s2 er => ?_⟩
      obtain ⟨l1, l2⟩ := meas_line hL (show i ≤ m by omega)
      rw [l1, l2] at er
      have mdl : kv2.length < sizeLine := by
        rw [me.dct.len hN (show i ≤ m by omega)]
        have := hN.most
        exact Nat.lt_of_lt_of_le (show i < 20 by omega) (by decide)
      have ed := s2 _ _ me.dict
      refine ⟨_, rfl, _, rfl, d, _, rfl, DPut.k (k := Sum.inr (nmS (nmAt NL i))) ed mdl, fun j => if j = i then r else t j, _, _, fun x o hx e => ?_, ?_, ⟨upd_same, me.dct.put hN im (by rw [if_pos rfl]) (fun j hj => by rw [if_neg (by omega)]), fun j hj => ?_⟩, rfl⟩
      · rw [upd_ne (ne_of_none e hd)]
        exact s2 _ _ (sb _ _ hx e)
      · rw [upd_ne (Ne.symm ndb)]
        exact s2 _ _ eb
      · have ne : ∀ {q : Addr} {us : List V}, H2 q = some (.tup us) → q ≠ d := fun e z => by
          rw [z, ed] at e
          cases e
        by_cases hji : j = i
        · subst hji
          rw [if_pos rfl, upd_ne (ne er)]
          exact er
        · rw [if_neg hji]
          have e := s2 _ _ (me.at_ j (by omega))
          rw [upd_ne (ne e)]
          exact e
    · obtain ⟨t, kv2, z3, sb, eb, me, rfl⟩ := hp
      rw [kdm.len hN (Nat.le_refl _)] at me
      refine ⟨eb, ?_⟩
      have sH : Same H (upd H' b (.dK kvs)) := fun x o e => by
        by_cases hx : x = b
        · subst hx
          rw [upd_same, ← hb, e]
        · rw [upd_ne hx]
          exact sb _ _ hx e
      have me2 : Meas (upd H' b (.dK kvs)) NL m d (fun j => (flat L j).words.length) (fun j => (flat L j).lev) kv2 t := by
        refine ⟨(upd_ne ndb).trans me.dict, me.dct, fun j hj => ?_⟩
        have e := me.at_ j hj
        rw [upd_ne (fun z => by
          rw [z, eb] at e
          cases e)]
        exact e
      refine ⟨_, rfl, _, rfl, a, d, NL, m, m, kv2, t, _, _, (L k).words, rfl, Same.sql sH ha, hN, Nat.le_refl _, me2, words_okN _ (Ns.ok_mono hkm _ (hL.ok k hkm)), fun r H2 s2 er => ?_⟩
      obtain ⟨l1, l2⟩ := meas_line hL hkm
      rw [l1, l2] at er
      refine ⟨r, _, rfl, tupT er, rfl, _, _, rfl, _, _, rfl, rfl, ?_⟩
      have s3 := sH.trans s2
      by_cases hlen : 1000 < (flat L k).words.length
      · refine ⟨_, rfl, _, _, rfl, rfl, true, congrArg V.bl (decide_eq_true (by omega)), iteT ?_⟩
        exact ⟨by show 1 ≤ 1000; decide, boom1 (n := 1000) s3 (by decide) (out.large hlen)⟩
      have len : (flat L k).words.length ≤ 1000 := by omega
      refine ⟨_, rfl, _, _, rfl, rfl, false, congrArg V.bl (decide_eq_false (by omega)), iteF ?_⟩
      by_cases hlev : 12 < (flat L k).lev
      · refine ⟨_, rfl, _, _, rfl, rfl, true, congrArg V.bl (decide_eq_true (by omega)), iteT ?_⟩
        exact ⟨by show 1 ≤ 1000; decide, boom1 (n := 12) s3 (by decide) (out.deep len hlev)⟩
      have lev : (flat L k).lev ≤ 12 := by omega
      refine ⟨_, rfl, _, _, rfl, rfl, false, congrArg V.bl (decide_eq_false (by omega)), iteF ?_⟩
      have efl : ((L k).words.flatMap (Nw.flat (flat L))) = (flat L k).words := by
        rw [← Ns.sub_words, ← flat_eq hL.ok hkm]
      have m19 := hN.most
      refine ⟨⟨_, rfl⟩, _, rfl, _, rfl, a, b, NL, L, m, k, kvs, as_, (L k).words, rfl, by omega, hkm, Same.sql s3 ha, s3 _ _ hb, hN, hL, nm.same s3, words_okN _ (hL.ok k hkm), by rw [efl]; exact len, fun f H3 s4 hf ef => ?_⟩
      rw [efl] at ef
      have okp := hL.flat_ok k hkm
      refine ⟨_, f, (flat L k).words.map Wd.str, rfl, rfl, .inl (lstL (by rw [← wstrs_map]; exact ef)), ?_, ?_⟩
      · have h1 := lens_le (words_ok _ okp)
        have h2 : (" " : Str).length = 1 := rfl
        rw [List.length_map, h2]
        omega
      · exact fun x dx nx nd _ => make_p nx nd (join_eq _ _) okp lev len fun H4 s5 hp2 => ⟨rfl, out.fine len lev x H4 (s3.trans (s4.trans s5)) hp2⟩
def spRSX (K : PySem.W.Frag) : Sp := fun vs H Q E => ∃ (NL : List (List Nat)) (L : Nat → Ns) (m : Nat), vs = [.str (srcT NL L m)] ∧ Names NL m ∧ Lines L m ∧ Outs K H Q E (flat L m)
theorem ok_rsX (D : Ds K) (T : Tx K mg) : FnOk P w K mg base (L2N.CX P w) 23 (dread_source.adr K) D.fd_read_source ["source"] (spRSX K) := by
  have GL : FnOk P w K mg base CX0 6 _ _ _ spRL := ok_rl D T
  have GPx : FnOk P w K mg base (L2N.CX P w) 22 _ _ _ (spProgX K) := ok_progX D T
  refine D.F_read_source.ok scread_source (fun vs H Q E h => ?_) (fun cdv A outer s H vs Q E hr h => ?_)
  · obtain ⟨NL, L, m, rfl, _⟩ := h
    rfl
  · obtain ⟨NL, L, m, rfl, hN, hL, out⟩ := h
    have nd := scread_source.nd
    refine ⟨_, (pss_cons (PS_nox (ps_asg (pe_call GL (hr.mono (by decide)) (by rfl) T.g__read_lines D.F__read_lines.kp (b__read_lines D) .nil pass0 (pa_cons (pv 0) pa_nil)) (pg_tup (by rfl) (pgs_cons (pg_name (i := 1) nd rfl (.inl rfl)) (pgs_cons (pg_name (i := 2) nd rfl (.inl rfl)) pgs_nil)))))
        (pss_one (ps_ret (pe_callS GPx (hr.mono (by decide)) (by rfl) T.g__program_of D.F__program_of.kp (b__program_of D) (fun σ => L2N.passAt (L2N.takes_of rfl rfl rfl rfl) σ) (pa_cons (pv 2) (pa_cons (pv 1) pa_nil)))))), ?_⟩
    refine ⟨_, rfl, NL, L, m, rfl, hN, hL, fun r d lw kvs as_ H1 s1 er ed nm el => ?_⟩
    refine ⟨r, _, rfl, tupT er, rfl, _, _, rfl, _, _, rfl, rfl, ?_⟩
    exact ⟨_, rfl, _, rfl, lw, d, NL, L, m, m, kvs, as_, rfl, Nat.le_refl _, lstL el, ed, hN, hL, nm, out.same s1⟩
def spRoX (K : PySem.W.Frag) : Sp := fun vs H Q E => ∃ (NL : List (List Nat)) (L : Nat → Ns) (m : Nat) (v : V), vs = [.str (srcT NL L m), v] ∧ Names NL m ∧ Lines L m ∧
  ((∃ k, k < m ∧ v = .str (nmS (nmAt NL k)) ∧ Outs K H Q E (flat L k)) ∨ (((∃ s : Str, v = .str s ∧ ∀ k, k < m → s ≠ nmS (nmAt NL k)) ∨ NoStr K H v) ∧ ∀ H', Same H H' → E (.ref (He.ga K "InvalidName")) none H'))
theorem ok_roX (D : Ds K) (T : Tx K mg) : FnOk P w K mg base (L2N.CX P w) 23 (droutine.adr K) D.fd_routine ["source", "name"] (spRoX K) := by
  have GL : FnOk P w K mg base CX0 6 _ _ _ spRL := ok_rl D T
  have GPx : FnOk P w K mg base (L2N.CX P w) 22 _ _ _ (spProgX K) := ok_progX D T
  obtain ⟨x1, x2, x3, x4⟩ := T.x_InvalidName
  refine D.F_routine.ok scroutine (fun vs H Q E h => ?_) (fun cdv A outer s H vs Q E hr h => ?_)
  · obtain ⟨NL, L, m, v, rfl, _⟩ := h
    rfl
  · obtain ⟨NL, L, m, v, rfl, hN, hL, h⟩ := h
    have nd := scroutine.nd
    refine ⟨_, (pss_cons (PS_nox (ps_asg (pe_call GL (hr.mono (by decide)) (by rfl) T.g__read_lines D.F__read_lines.kp (b__read_lines D) .nil pass0 (pa_cons (pv 0) pa_nil)) (pg_tup (by rfl) (pgs_cons (pg_name (i := 2) nd rfl (.inl rfl)) (pgs_cons (pg_name (i := 3) nd rfl (.inl rfl)) pgs_nil)))))
        (pss_cons (ps_if (PT.nox (PW.pt (pw_or (pt_not (pt_val (pe_callB call_isiY (by rfl) T.z_isinstance (by decide +kernel) (pa_cons (pv 1) (pa_cons (pe_bltn (v := .ty "str") (by rfl) T.z_str (by decide +kernel) rfl) pa_nil))))) (pw_or1 (pt_cmp (pc_dnotin (hu_of hr) (pv 1) (pv 2)))))))
        (pss_one (L2N.ps_raise rfl (L2N.takes_of rfl rfl rfl rfl) (L2N.pmk_own PySem.F.excBase_ValueError x1 T.g_InvalidName x2 (raises_own x3 x4) rfl))) pss_nil)
        (pss_one (ps_ret (pe_callS GPx (hr.mono (by decide)) (by rfl) T.g__program_of D.F__program_of.kp (b__program_of D) (fun σ => L2N.passAt (L2N.takes_of rfl rfl rfl rfl) σ) (pa_cons (PE.nox (pe_dget (hu_of hr) (pv 2) (pv 1) (fun _ _ => rfl))) (pa_cons (pv 2) pa_nil))))))), ?_⟩
    refine ⟨_, rfl, NL, L, m, rfl, hN, hL, fun r d lw kvs as_ H1 s1 er ed nm el => ?_⟩
    refine ⟨r, _, rfl, tupT er, rfl, _, _, rfl, _, _, rfl, rfl, ?_⟩
    rcases h with ⟨k, hk, rfl, out⟩ | ⟨⟨s0, rfl, no⟩ | ⟨t, ty, kt⟩, q⟩
    · refine ⟨_, rfl, _, .ty "str", _, _, true, rfl, .ty "str", .base (.base (.str _)), kit_ss, true, rfl, iteF ?_⟩
      refine ⟨_, rfl, _, rfl, d, _, rfl, dgetW ed (nm.dct.val k hk), false, rfl, iteF ?_⟩
      exact ⟨_, rfl, _, rfl, d, _, rfl, dgetW ed (nm.dct.val k hk), _, rfl, as_ k, d, NL, L, m, k, kvs, as_, rfl, by omega, lstL (nm.at_ k hk), ed, hN, hL, nm, out.same s1⟩
    · refine ⟨_, rfl, _, .ty "str", _, _, true, rfl, .ty "str", .base (.base (.str _)), kit_ss, true, rfl, iteF ?_⟩
      exact ⟨_, rfl, _, rfl, d, none, rfl, dgetW ed (nm.dct.non s0 no), true, rfl, iteT (q H1 s1)⟩
    · exact ⟨_, rfl, _, .ty "str", _, _, false, rfl, .ty "str", ty H1 s1, kt, false, rfl, iteT (iteT (q H1 s1))⟩
end
end K09P

set_option Elab.async false
set_option linter.all false
set_option maxRecDepth 100000
set_option maxHeartbeats 4000000
/-! own operators that may raise into a suite -/
namespace RT
open PySem PySem.Spec PyProof.Rows L2
section
variable {X : Cx} {CX : CXT} {k : Nat} {C f : Addr} {fd : FuncData} {ps : List Str} {sp : Sp} {E : L2.St → XK} {a b : Expr} {pos : Pos} {ta tb : TE}
theorem pe_binOS {op : Operator} (K0 : PySem.W.Frag) (hc : PySem.W.selfFirst X.K C = true) (hm : Meth X.K C (PySem.dunder op.info.2) f) (F : FnOk X.prog X.w X.K X.mg X.base CX k f fd ps sp) (hr : Room k X.A) (hb : Binds X.K fd ps []) (hx : ∀ σ, PassesAt CX X σ (E σ))
    (ha : PE X a ta) (hb2 : PE X b tb) (hK : X.K = K0 := by rfl) : PE X (.BinOp a op b pos) (fun σ H Q => tOp (rBinO K0 C op sp (E σ)) ta tb σ H Q) := by
  subst hK
  refine ⟨fun pins s σ H Q I h => ?_⟩
  refine wpAny_BinOp (binT ha hb2 I h fun v u s2 x y H2 I2 rx ry q => ?_)
  obtain ⟨a, dx, fs, rfl, ea, ty, q⟩ := q
  cases (show v = Value.ref a from rx)
  obtain ⟨mA, O, _⟩ := ins_get I2.hok ea
  obtain ⟨od, J, _⟩ := O.look
  obtain ⟨m, hF⟩ := I2.fr
  have go : wpAny (model X.prog X.w) X.A (call (.ref f) [.ref a, u]) (PySem.W.CmpBack (EP X pins σ Q)) X.xe s2 := by
    refine wpAny_mono (run_fnS F hr hb (hx σ) I2 (vs := [.ref a, y]) (.cons rfl (.cons ry .nil)) q) (fun w s' z => ?_) fun _ _ x => x
    obtain ⟨z', H', I', rz, qz⟩ := z
    exact SlX.cmpback rz ⟨z', H', I', rz, qz⟩
  rcases ty with ⟨b, dy, gs, rfl, eb⟩ | ⟨T, ty, R⟩
  · cases (show u = Value.ref b from ry)
    obtain ⟨mB, O', _⟩ := ins_get I2.hok eb
    obtain ⟨od', J', _⟩ := O'.look
    exact PySem.W.binop_K hF I2.ok.mod.kin J J'.type hc hm.at_ hm.fn go
  · obtain ⟨P, Z, p, _⟩ := kit_ofY I2 ry ty
    obtain ⟨fo, t1⟩ := R.t1
    obtain ⟨ro, t2⟩ := R.t2
    exact PySem.W.rt_binT hF I2.ok.mod.kin J (Z.ty _ _ I2.kIn p) hc hm.at_ hm.fn R.r0 (.inl rfl) t1 t2 R.sb go
theorem pe_invOS (hm : Meth X.K C "__invert__" f) (F : FnOk X.prog X.w X.K X.mg X.base CX k f fd ps sp) (hr : Room k X.A) (hb : Binds X.K fd ps []) (hx : ∀ σ, PassesAt CX X σ (E σ))
    (ha : PE X a ta) : PE X (.UnaryOp .Invert a pos) (fun σ H Q => tUn (rUnO C sp (E σ)) ta σ H Q) := by
  refine ⟨fun pins s σ H Q I h => ?_⟩
  refine UnaryOp_ (thn (ha.run pins s σ H _ I h) fun v s1 ⟨x, H1, I1, r1, q1⟩ => ?_)
  obtain ⟨a, dx, fs, rfl, ea, q⟩ := q1
  cases (show v = Value.ref a from r1)
  obtain ⟨mA, O, _⟩ := ins_get I1.hok ea
  obtain ⟨od, J, _⟩ := O.look
  obtain ⟨m, hF⟩ := I1.fr
  exact PySem.W.ksp_inv hF I1.ok.mod.kin J hm.at_ hm.fn (run_fnS F hr hb (hx σ) I1 (vs := [.ref a]) (.cons rfl .nil) q)
end
end RT

set_option Elab.async false
set_option linter.all false
set_option maxRecDepth 100000
set_option maxHeartbeats 4000000
set_option exponentiation.threshold 3000
namespace K09P
open PySem PySem.Spec PyProof.Rows L2 RT WM K09 TL
theorem takesN0 {X : Cx} : L2N.Takes X (fun _ _ _ _ => False) := fun u s' x => by
  obtain ⟨_, _, _, _, _, _, _, _, _, _, _, _, _, _, _, _, w⟩ := x
  exact w.elim
theorem seq_via2 {A B C : TS} {D : Ends} {σ : L2.St} {H : Hp} (G0 Good : L2.St → Hp → Prop) (h0 : ∀ D' : Ends, (∀ σ' H', G0 σ' H' → D'.nx σ' H') → A D' σ H) (h1 : ∀ σ' H', G0 σ' H' → ∀ D' : Ends, (∀ σ'' H'', Good σ'' H'' → D'.nx σ'' H'') → B D' σ' H')
    (h2 : ∀ σ' H', Good σ' H' → C D σ' H') : tSeq A (tSeq B C) D σ H := h0 _ fun σ' H' g => h1 σ' H' g _ h2
theorem reprO_len (n : Nat) (h : n ≤ 5000) : (reprO (some n)).length ≤ 400 := by
  have h30 : n ≤ T30 := Nat.le_trans h (by decide)
  have := dg_len h30
  rw [← dgS_eq] at this
  exact Nat.le_trans this (by decide)
/-- what is told of a program that is asked for -/
def due (p : Ps) : Str := if 1000 < p.words.length then "TooLarge 1000" else if 12 < p.lev then "TooDeep 12" else textOf p.words
inductive AskR (K : PySem.W.Frag) (H : Hp) (NL : List (List Nat)) (L : Nat → Ns) (m : Nat) : V → Str → Prop
  | last : AskR K H NL L m .non (due (flat L m))
  | name {k : Nat} : k < m → AskR K H NL L m (.str (nmS (nmAt NL k))) (due (flat L k))
  | text {s : Str} : (∀ k, k < m → s ≠ nmS (nmAt NL k)) → AskR K H NL L m (.str s) "InvalidName"
  | other {v : V} : v ≠ .non → NoStr K H v → AskR K H NL L m v "InvalidName"
section
variable {P : Program} {w : World} {K : PySem.W.Frag} {mg : Str → Option Value} {base : Heap}
theorem cls_Nm (T : Tx K mg) : ClsAt K (He.ga K "InvalidName") 6 := ⟨by decide, T.e_InvalidName, T.q_InvalidName_InvalidText, T.q_InvalidName_InvalidSource, T.q_InvalidName_InvalidProgram, T.q_InvalidName_InvalidTimes, T.q_InvalidName_InvalidIndex, T.q_InvalidName_InvalidLetter, T.q_InvalidName_InvalidName, T.q_InvalidName_HasPen, T.q_InvalidName_TooDeep, T.q_InvalidName_TooLarge, T.q_InvalidName_VE, T.qa0_InvalidName, T.qa1_InvalidName, T.qa2_InvalidName⟩
theorem cls_Td (T : Tx K mg) : ClsAt K (He.ga K "TooDeep") 8 := ⟨by decide, T.e_TooDeep, T.q_TooDeep_InvalidText, T.q_TooDeep_InvalidSource, T.q_TooDeep_InvalidProgram, T.q_TooDeep_InvalidTimes, T.q_TooDeep_InvalidIndex, T.q_TooDeep_InvalidLetter, T.q_TooDeep_InvalidName, T.q_TooDeep_HasPen, T.q_TooDeep_TooDeep, T.q_TooDeep_TooLarge, T.q_TooDeep_VE, T.qa0_TooDeep, T.qa1_TooDeep, T.qa2_TooDeep⟩
theorem cls_Tl (T : Tx K mg) : ClsAt K (He.ga K "TooLarge") 9 := ⟨by decide, T.e_TooLarge, T.q_TooLarge_InvalidText, T.q_TooLarge_InvalidSource, T.q_TooLarge_InvalidProgram, T.q_TooLarge_InvalidTimes, T.q_TooLarge_InvalidIndex, T.q_TooLarge_InvalidLetter, T.q_TooLarge_InvalidName, T.q_TooLarge_HasPen, T.q_TooLarge_TooDeep, T.q_TooLarge_TooLarge, T.q_TooLarge_VE, T.qa0_TooLarge, T.qa1_TooLarge, T.qa2_TooLarge⟩
/-- what stands in caught and told behind the try -/
def Caught (K : PySem.W.Frag) (H : Hp) (c m : V) (out : Str) : Prop := (c = .non ∧ ∃ r p, m = .ref r ∧ IsP K H r p ∧ out = textOf p.words) ∨ ∃ a C j od, c = .ref a ∧ H a = some (ExT a (.ref C) od) ∧ ClsAt K C j ∧ Says K H C j od out
def spTold (K : PySem.W.Frag) : Sp := fun vs H Q _ => ∃ (NL : List (List Nat)) (L : Nat → Ns) (m : Nat) (v : V) (out : Str), vs = [.str (srcT NL L m), v] ∧ Names NL m ∧ Lines L m ∧ AskR K H NL L m v out ∧ ∀ H', Same H H' → Q (.str out) H'
theorem ok_told (D : Ds K) (T : Tx K mg) : FnOk P w K mg base CX0 24 (d_law_told.adr K) D.fd__law_told ["source", "name"] (spTold K) := by
  have GS : FnOk P w K mg base (L2N.CX P w) 23 _ _ _ (spRSX K) := ok_rsX D T
  have GO : FnOk P w K mg base (L2N.CX P w) 23 _ _ _ (spRoX K) := ok_roX D T
  have GC : FnOk P w K mg base CX0 1 _ _ _ (spClass K) := ok_class D T
  have GX : FnOk P w K mg base CX0 1 _ _ _ (spText K) := ok_text D T
  refine D.F__law_told.ok sc_law_told (fun vs H Q E h => ?_) (fun cdv A outer s H vs Q E hr h => ?_)
  · obtain ⟨NL, L, m, v, out, rfl, _⟩ := h
    rfl
  · obtain ⟨NL, L, m, v, out, rfl, hN, hL, ask, q⟩ := h
    have nd := sc_law_told.nd
    refine ⟨_, PSs.nox (pss_cons (ps_asg (pe_tup (pa_cons pe_non (pa_cons pe_non pa_nil))) (pg_tup (by rfl) (pgs_cons (pg_name (i := 2) nd rfl (.inl rfl)) (pgs_cons (pg_name (i := 3) nd rfl (.inl rfl)) pgs_nil))))
      (pss_cons (ps_try_asT (i := 4) rfl rfl rfl nd rfl rfl ⟨rfl, by decide, .inl T.g_PlotError⟩ takesN0
        (fun W pn xe tk _ => pss_one (ps_set (i := 3) nd rfl (.inl rfl) (pe_ifExp (pt_cmpR op_isN (pv 1) pe_non (nomark _)) (pe_callS GS hr (by rfl) T.g_read_source D.F_read_source.kp (b_read_source D) (fun σ => L2N.passAt tk σ) (pa_cons (pv 0) pa_nil))
          (pe_callS GO hr (by rfl) T.g_routine D.F_routine.kp (b_routine D) (fun σ => L2N.passAt tk σ) (pa_cons (pv 0) (pa_cons (pv 1) pa_nil))))))
        (fun a oe cls d pn hz hf => pss_one (ps_set (i := 2) nd rfl (.inl rfl) (pv 4))))
      (pss_one (ps_ret (pe_ifExp (pt_cmpR op_isN (pv 2) pe_non (nomark _)) (pe_prop (pv 3) T.c_Program T.p_Program_text GX (hr.mono (by decide)) (b_Program_text D) .nil pass0 rfl) (pe_call GC (hr.mono (by decide)) (by rfl) T.g__law_class D.F__law_class.kp (b__law_class D) .nil pass0 (pa_cons (pv 2) pa_nil))))))), ?_⟩
    obtain ⟨SX, eSX⟩ : ∃ SX, SX = srcT NL L m := ⟨_, rfl⟩
    rw [← eSX]
    refine seq_via2 (G0 := fun σ H' => σ = [some (.str SX), some v, some .non, some .non, none] ∧ Same H H') (Good := fun σ H' => ∃ c m, σ = [some (.str SX), some v, some c, some m, none] ∧ Same H H' ∧ Caught K H' c m out) (fun D' hD => ⟨by show 2 ≤ sizeLine; decide, fun t ht => ⟨t, _, rfl, tupT upd_same, rfl, _, _, rfl, _, _, rfl, rfl, hD _ _ ⟨rfl, same_new (o := .tup [.non, .non]) ht⟩⟩⟩) (fun σ H1 g0 D' hD => ?_) (fun σ H' g => ?_)
    · obtain ⟨rfl, s0⟩ := g0
      have none_ : ∀ {C : Addr} {j : Nat} {H' : Hp} {o2 : Str}, o2 = out → Same H1 H' → ClsAt K C j → 2 ≤ j → j ≤ 7 → clsNames.getD j "" = o2 → ∀ a, H' a = none → ∃ c m, [some (V.str SX), some v, some (V.ref a), some V.non, none] = [some (V.str SX), some v, some c, some m, none] ∧ Same H (upd H' a (ExT a (.ref C) none)) ∧ Caught K (upd H' a (ExT a (.ref C) none)) c m out := fun {C j H' o2} eo s' cj j2 j7 en a ha =>
        ⟨.ref a, .non, rfl, s0.trans (s'.trans (same_new ha)), .inr ⟨a, C, j, none, rfl, upd_same, cj, .inr (.inr (.inr ⟨j2, j7, rfl, by rw [← eo, en]⟩))⟩⟩
      have lim_ : ∀ {X : Str} {j n : Nat} {H' : Hp} {d : Addr} {o2 : Str}, o2 = out → Same H1 H' → H' d = some (.xd [("limit", optV (some n))]) → PySem.W.findIn K (.ref (He.ga K X)) "limit" = some none → n ≤ 5000 → ClsAt K (He.ga K X) j → (j = 8 ∨ j = 9) → clsNames.getD j "" ++ (" " ++ reprO (some n)) = o2 → ∀ a, H' a = none → ∃ c m, [some (V.str SX), some v, some (V.ref a), some V.non, none] = [some (V.str SX), some v, some c, some m, none] ∧ Same H (upd H' a (ExT a (.ref (He.ga K X)) (some d))) ∧ Caught K (upd H' a (ExT a (.ref (He.ga K X)) (some d))) c m out := fun {X j n H' d o2} eo s' ed hno hn cj hj en a ha =>
        ⟨.ref a, .non, rfl, s0.trans (s'.trans (same_new ha)), .inr ⟨a, _, j, some d, rfl, upd_same, cj, .inr (.inr (.inl ⟨hj, d, n, rfl, (same_new ha) _ _ ed, hno, Nat.lt_of_le_of_lt hn (by decide), reprO_len n hn, by rw [← eo, en]⟩))⟩⟩
      have fine_ : ∀ {H' : Hp} {r : Addr} {p : Ps}, out = textOf p.words → Same H1 H' → IsP K H' r p → ∃ c m, [some (V.str SX), some v, some V.non, some (V.ref r), none] = [some (V.str SX), some v, some c, some m, none] ∧ Same H H' ∧ Caught K H' c m out := fun {H' r p} eo s' hp =>
        ⟨.non, .ref r, rfl, s0.trans s', .inl ⟨rfl, r, p, rfl, hp, eo⟩⟩
      cases ask with
      | last =>
        refine ⟨_, rfl, rfl, true, rfl, iteT ⟨_, rfl, NL, L, m, congrArg (fun z => [V.str z]) eSX, hN, hL, ⟨fun h1 h2 r H' s' ip => hD _ _ (fine_ ?_ s' ip), fun h1 d H' s' nd ed => ⟨true, T.pe_TooLarge, fun _ a' ha => ⟨_, rfl, hD _ _ (lim_ rfl s' ed T.no_TooLarge_limit (by decide) (cls_Tl T) (.inr rfl) ?_ a' ha)⟩, fun z => nomatch z⟩, fun h1 h2 d H' s' nd ed => ⟨true, T.pe_TooDeep, fun _ a' ha => ⟨_, rfl, hD _ _ (lim_ rfl s' ed T.no_TooDeep_limit (by decide) (cls_Td T) (.inl rfl) ?_ a' ha)⟩, fun z => nomatch z⟩⟩⟩⟩
        · unfold due
          rw [if_neg (by omega), if_neg (by omega)]
        · unfold due
          rw [if_pos h1]
          decide +kernel
        · unfold due
          rw [if_neg (by omega), if_pos h2]
          decide +kernel
      | @name k hk =>
        refine ⟨_, rfl, rfl, false, rfl, iteF ⟨_, rfl, _, rfl, NL, L, m, _, congrArg (fun z => [V.str z, V.str (nmS (nmAt NL k))]) eSX, hN, hL, .inl ⟨k, hk, rfl, ⟨fun h1 h2 r H' s' ip => hD _ _ (fine_ ?_ s' ip), fun h1 d H' s' nd ed => ⟨true, T.pe_TooLarge, fun _ a' ha => ⟨_, rfl, hD _ _ (lim_ rfl s' ed T.no_TooLarge_limit (by decide) (cls_Tl T) (.inr rfl) ?_ a' ha)⟩, fun z => nomatch z⟩, fun h1 h2 d H' s' nd ed => ⟨true, T.pe_TooDeep, fun _ a' ha => ⟨_, rfl, hD _ _ (lim_ rfl s' ed T.no_TooDeep_limit (by decide) (cls_Td T) (.inl rfl) ?_ a' ha)⟩, fun z => nomatch z⟩⟩⟩⟩⟩
        · unfold due
          rw [if_neg (by omega), if_neg (by omega)]
        · unfold due
          rw [if_pos h1]
          decide +kernel
        · unfold due
          rw [if_neg (by omega), if_pos h2]
          decide +kernel
      | @text s1 no =>
        exact ⟨_, rfl, rfl, false, rfl, iteF ⟨_, rfl, _, rfl, NL, L, m, _, congrArg (fun z => [V.str z, V.str s1]) eSX, hN, hL, .inr ⟨.inl ⟨s1, rfl, no⟩, fun H' s' => ⟨true, T.pe_InvalidName, fun _ a' ha => ⟨_, rfl, hD _ _ (none_ rfl s' (cls_Nm T) (by decide) (by decide) rfl a' ha)⟩, fun z => nomatch z⟩⟩⟩⟩
      | other nn no =>
        exact ⟨_, rfl, rfl, false, congrArg V.bl (decide_eq_false nn), iteF ⟨_, rfl, _, rfl, NL, L, m, _, congrArg (fun z => [V.str z, v]) eSX, hN, hL, .inr ⟨.inr (by
          obtain ⟨t, ty, kt⟩ := no
          exact ⟨t, fun H' s' => ty H' (s0.trans s'), kt⟩), fun H' s' => ⟨true, T.pe_InvalidName, fun _ a' ha => ⟨_, rfl, hD _ _ (none_ rfl s' (cls_Nm T) (by decide) (by decide) rfl a' ha)⟩, fun z => nomatch z⟩⟩⟩⟩
    · obtain ⟨c, m2, rfl, s1, hc⟩ := g
      rcases hc with ⟨rfl, r, p, rfl, hp, er⟩ | ⟨a, C, j, od, rfl, ea, cj, sy⟩
      · obtain ⟨_, _, _, d, wd, t, us, ep, _⟩ := id hp
        rw [er] at q
        exact ⟨_, rfl, rfl, true, rfl, iteT ⟨_, rfl, r, d, _, rfl, ep, r, p, rfl, hp, q _ s1⟩⟩
      · exact ⟨_, rfl, rfl, false, rfl, iteF ⟨_, rfl, a, C, j, od, out, rfl, ea, cj, sy, fun H2 s2 => q H2 (s1.trans s2)⟩⟩
end
end K09P

set_option Elab.async false
set_option linter.all false
set_option maxRecDepth 100000
set_option maxHeartbeats 4000000
set_option exponentiation.threshold 3000
namespace K09P
open PySem PySem.Spec PyProof.Rows L2 RT WM K09 TL
abbrev NG_ : List Str := N_law_growing ++ [("turn" : Str)]
theorem scNG_ : FnScope NG_ ["bag"] (defScope s_law_growing) := ⟨rfl, rfl, rfl, by decide +kernel, rfl, by decide +kernel, by decide +kernel⟩
/-- lines that double and nest the line in front -/
def nms (k : Nat) : Nat → Ns → Ns
  | 0, r => r
  | c + 1, r => .nm k (nms k c r)
def tailT : Nat → Ns
  | 0 => .nil
  | 1 => .lf 102 1 .nil
  | 2 => .lf 102 1 (.lf 117 1 .nil)
  | _ => .lf 102 1 (.lf 117 1 (.lf 108 3 .nil))
def growT (k c : Nat) (ns : List Nat) (j : Nat) : Ns := match ns with
  | [] => nms k c (tailT j)
  | [a] => .rp (nms k c .nil) a (tailT j)
  | a :: b :: _ => .rp (.rp (nms k c .nil) a .nil) b (tailT j)
theorem nms_words (k : Nat) : ∀ (c : Nat) (r : Ns), (nms k c r).words = List.replicate c (Nw.nm k) ++ r.words
  | 0, r => rfl
  | c + 1, r => by
    show Nw.nm k :: (nms k c r).words = _
    rw [nms_words k c r]
    rfl
theorem nms_lev (k : Nat) : ∀ (c : Nat) (r : Ns), (nms k c r).lev = r.lev
  | 0, r => rfl
  | c + 1, r => nms_lev k c r
theorem nms_ok {k q : Nat} (h : k < q) : ∀ (c : Nat) (r : Ns), r.ok q → (nms k c r).ok q
  | 0, r, o => o
  | c + 1, r, o => ⟨h, nms_ok h c r o⟩
theorem nms_nil {k c : Nat} (h : 1 ≤ c) (r : Ns) : nms k c r ≠ .nil := by
  cases c with
  | zero => omega
  | succ c => exact fun z => nomatch z
theorem tail_ok (q : Nat) : ∀ j, (tailT j).ok q
  | 0 => trivial
  | 1 => ⟨⟨by decide, by decide, by decide⟩, trivial⟩
  | 2 => ⟨⟨by decide, by decide, by decide⟩, ⟨by decide, by decide, by decide⟩, trivial⟩
  | _ + 3 => ⟨⟨by decide, by decide, by decide⟩, ⟨by decide, by decide, by decide⟩, ⟨by decide, by decide, by decide⟩, trivial⟩
theorem tail_lev : ∀ j, (tailT j).lev = 0
  | 0 => rfl
  | 1 => rfl
  | 2 => rfl
  | _ + 3 => rfl
theorem tail_len : ∀ j, (tailT j).words.length ≤ 3
  | 0 => by decide
  | 1 => by decide
  | 2 => by decide
  | _ + 3 => by show 3 ≤ 3; decide
structure Fits (t : Ns) (k : Nat) : Prop where
  ok : t.ok k
  full : t ≠ .nil
  few : t.words.length ≤ 12
  low : t.lev ≤ 2
theorem grow_fits {k c : Nat} {ns : List Nat} {j : Nat} (c1 : 1 ≤ c) (c3 : c ≤ 3) (n2 : ns.length ≤ 2) (okn : ∀ n ∈ ns, 2 ≤ n ∧ n ≤ T30) : Fits (growT k c ns j) (k + 1) := by
  have tl := tail_len j
  have ti := nms_words k c .nil
  have lens : (nms k c .nil).words.length = c := by rw [ti, List.length_append, List.length_replicate]; rfl
  match ns, n2, okn with
  | [], _, _ =>
    refine ⟨nms_ok (by omega) c _ (tail_ok _ j), nms_nil c1 _, ?_, ?_⟩
    · show (nms k c (tailT j)).words.length ≤ 12
      rw [nms_words, List.length_append, List.length_replicate]
      omega
    · show (nms k c (tailT j)).lev ≤ 2
      rw [nms_lev, tail_lev]
      decide
  | [a], _, h =>
    refine ⟨⟨nms_nil c1 _, nms_ok (by omega) c _ trivial, h a (List.mem_cons_self ..), tail_ok _ j⟩, (fun z => nomatch z), ?_, ?_⟩
    · show (Nw.wd .op :: ((nms k c .nil).words ++ Nw.wd (.cl a) :: (tailT j).words)).length ≤ 12
      rw [List.length_cons, List.length_append, List.length_cons, lens]
      omega
    · show max (1 + (nms k c .nil).lev) (tailT j).lev ≤ 2
      rw [nms_lev, tail_lev]
      decide
  | [a, b], _, h =>
    refine ⟨⟨(fun z => nomatch z), ⟨nms_nil c1 _, nms_ok (by omega) c _ trivial, h a (List.mem_cons_self ..), trivial⟩, h b (List.mem_cons_of_mem _ (List.mem_cons_self ..)), tail_ok _ j⟩, (fun z => nomatch z), ?_, ?_⟩
    · show (Nw.wd .op :: ((Nw.wd .op :: ((nms k c .nil).words ++ Nw.wd (.cl a) :: [])) ++ Nw.wd (.cl b) :: (tailT j).words)).length ≤ 12
      rw [List.length_cons, List.length_append, List.length_cons, List.length_append, List.length_cons, List.length_cons, lens]
      show c + 1 + 1 + ((tailT j).words.length + 1) + 1 ≤ 12
      omega
    · show max (1 + max (1 + (nms k c .nil).lev) 0) (tailT j).lev ≤ 2
      rw [nms_lev, tail_lev]
      decide
def clV (ns : List Nat) : List V := ns.map fun n => V.str ((")" : Str) ++ Str.ofString (toString ((n : Nat) : Int)))
def tailV : List V := [V.str "f", V.str "u", V.str "l3"]
theorem tail_wsV (NL : List (List Nat)) : ∀ j, j ≤ 3 → wsV NL (tailT j).words = tailV.take j := by
  intro j hj
  have e : j = 0 ∨ j = 1 ∨ j = 2 ∨ j = 3 := by omega
  have e1 : (Wd.lt 102 1).str = "f" := rfl
  have e2 : (Wd.lt 117 1).str = "u" := rfl
  have e3 : (Wd.lt 108 3).str = "l3" := by
    refine ext_tl ?_
    show 108 :: numL 3 = _
    decide +kernel
  rcases e with rfl | rfl | rfl | rfl
  · rfl
  · show [V.str (Wd.lt 102 1).str] = _
    rw [e1]
    rfl
  · show [V.str (Wd.lt 102 1).str, V.str (Wd.lt 117 1).str] = _
    rw [e1, e2]
    rfl
  · show [V.str (Wd.lt 102 1).str, V.str (Wd.lt 117 1).str, V.str (Wd.lt 108 3).str] = _
    rw [e1, e2, e3]
    rfl
theorem grow_wsV (NL : List (List Nat)) {k c : Nat} {ns : List Nat} {j : Nat} (n2 : ns.length ≤ 2) (hj : j ≤ 3) :
    wsV NL (growT k c ns j).words = ((List.replicate ns.length (V.str "(") ++ List.replicate c (V.str (nmS (nmAt NL k)))) ++ clV ns) ++ tailV.take j := by
  have app : ∀ a b : List Nw, wsV NL (a ++ b) = wsV NL a ++ wsV NL b := fun a b => List.map_append ..
  have rep : wsV NL (List.replicate c (Nw.nm k)) = List.replicate c (V.str (nmS (nmAt NL k))) := List.map_replicate ..
  have cl : ∀ n : Nat, V.str (Nw.str NL (.wd (.cl n))) = V.str ((")" : Str) ++ Str.ofString (toString ((n : Nat) : Int))) := fun n => congrArg V.str (word_cl n).symm
  have nw : (nms k c .nil).words = List.replicate c (Nw.nm k) := by rw [nms_words]; exact List.append_nil _
  rw [← tail_wsV NL j hj]
  match ns, n2 with
  | [], _ =>
    show wsV NL (nms k c (tailT j)).words = _
    rw [nms_words, app, rep]
    show _ = (([] ++ List.replicate c _) ++ []) ++ _
    rw [List.nil_append, List.append_nil]
  | [a], _ =>
    show wsV NL (Nw.wd .op :: ((nms k c .nil).words ++ Nw.wd (.cl a) :: (tailT j).words)) = _
    rw [nw]
    show V.str "(" :: wsV NL (List.replicate c (Nw.nm k) ++ Nw.wd (.cl a) :: (tailT j).words) = _
    rw [app, rep]
    show V.str "(" :: (List.replicate c _ ++ (V.str (Nw.str NL (.wd (.cl a))) :: wsV NL (tailT j).words)) = (([V.str "("] ++ List.replicate c _) ++ [V.str ((")" : Str) ++ Str.ofString (toString ((a : Nat) : Int)))]) ++ _
    rw [cl]
    simp only [List.cons_append, List.nil_append, List.append_assoc]
  | [a, b], _ =>
    show wsV NL (Nw.wd .op :: ((Nw.wd .op :: ((nms k c .nil).words ++ Nw.wd (.cl a) :: [])) ++ Nw.wd (.cl b) :: (tailT j).words)) = _
    rw [nw]
    show V.str "(" :: wsV NL ((Nw.wd .op :: (List.replicate c (Nw.nm k) ++ Nw.wd (.cl a) :: [])) ++ Nw.wd (.cl b) :: (tailT j).words) = _
    rw [app]
    show V.str "(" :: ((V.str "(" :: wsV NL (List.replicate c (Nw.nm k) ++ Nw.wd (.cl a) :: [])) ++ (V.str (Nw.str NL (.wd (.cl b))) :: wsV NL (tailT j).words)) = _
    rw [app, rep]
    show V.str "(" :: ((V.str "(" :: (List.replicate c _ ++ [V.str (Nw.str NL (.wd (.cl a)))])) ++ (V.str (Nw.str NL (.wd (.cl b))) :: wsV NL (tailT j).words)) = (([V.str "(", V.str "("] ++ List.replicate c _) ++ [V.str ((")" : Str) ++ Str.ofString (toString ((a : Nat) : Int))), V.str ((")" : Str) ++ Str.ofString (toString ((b : Nat) : Int)))]) ++ _
    rw [cl, cl]
    simp only [List.cons_append, List.nil_append, List.append_assoc]
theorem at_many {u : Int} (h0 : 0 ≤ u) (h : u < 4) : ∃ m : Nat, atI [V.int 1, V.int 2, V.int 1, V.int 3] u = some (.int (m : Int)) ∧ 1 ≤ m ∧ m ≤ 3 := by
  have e : u = 0 ∨ u = 1 ∨ u = 2 ∨ u = 3 := by omega
  rcases e with rfl | rfl | rfl | rfl
  · exact ⟨1, atI_nat (j := 0) rfl, by decide, by decide⟩
  · exact ⟨2, atI_nat (j := 1) rfl, by decide, by decide⟩
  · exact ⟨1, atI_nat (j := 2) rfl, by decide, by decide⟩
  · exact ⟨3, atI_nat (j := 3) rfl, by decide, by decide⟩
theorem at_deep {u : Int} (h0 : 0 ≤ u) (h : u < 4) : ∃ m : Nat, atI [V.int 0, V.int 1, V.int 1, V.int 2] u = some (.int (m : Int)) ∧ m ≤ 2 := by
  have e : u = 0 ∨ u = 1 ∨ u = 2 ∨ u = 3 := by omega
  rcases e with rfl | rfl | rfl | rfl
  · exact ⟨0, atI_nat (j := 0) rfl, by decide⟩
  · exact ⟨1, atI_nat (j := 1) rfl, by decide⟩
  · exact ⟨1, atI_nat (j := 2) rfl, by decide⟩
  · exact ⟨2, atI_nat (j := 3) rfl, by decide⟩
theorem flat_one (x : V) : ∀ n : Nat, (List.replicate n [x]).flatten = List.replicate n x
  | 0 => rfl
  | n + 1 => by
    rw [List.replicate_succ, List.flatten_cons, flat_one x n]
    rfl
theorem cut_take (xs : List V) {n : Nat} : cutV xs none (some (n : Int)) = xs.take n := by
  show (xs.drop 0).take (HT.sIx xs.length xs.length (some (n : Int)) - 0) = xs.take n
  rw [HT.sIx_nat, List.drop_zero, Nat.sub_zero]
  by_cases h : n ≤ xs.length
  · rw [Nat.min_eq_left h]
  · rw [Nat.min_eq_right (by omega), List.take_length, List.take_of_length_le (by omega)]
section
variable {P : Program} {w : World} {K : PySem.W.Frag} {mg : Str → Option Value} {base : Heap}
def spGrow : Sp := fun vs H Q _ => ∃ (b : Addr) (Lb : Nat) (A B : Int) (c : Nat), vs = [.ref b] ∧ BgX H b A B c ∧ LN.Dry Lb 0 A ∧ Lb ≤ 2000000 ∧ c ≤ 100 ∧
  ∀ (r nl ll : Addr) (NL : List (List Nat)) (L : Nat → Ns) (m c' : Nat) (as_ : Nat → Addr) H', Keep b H H' → Bg H' b c' → 2 ≤ m → Names NL m → Lines L m → SrcAt H' NL L m nl ll as_ → H' r = some (.tup [.ref nl, .ref ll]) → Q (.ref r) H'
theorem ok_grow (D : Ds K) (T : Tx K mg) : FnOk P w K mg base CX0 3 (d_law_growing.adr K) D.fd__law_growing ["bag"] spGrow := by
  have GP : FnOk P w K mg base CX0 1 _ _ _ spPick := ok_pick D T
  have GX : FnOk P w K mg base CX0 1 _ _ _ spPickX := ok_pickX D T
  have GN : FnOk P w K mg base CX0 2 _ _ _ spNames := ok_names D T
  have GU : FnOk P w K mg base CX0 2 _ _ _ spNumber := ok_number D T
  refine D.F__law_growing.ok scNG_ (fun vs H Q E h => ?_) (fun cdv A outer s H vs Q E hr h => ?_)
  · obtain ⟨b, Lb, A1, B, c, rfl, _⟩ := h
    rfl
  · obtain ⟨b, Lb, A1, B, c, rfl, hb, dry, hLb, hc, q⟩ := h
    have nd := scNG_.nd
    refine ⟨_, PSs.nox (pss_cons (ps_set (i := 1) nd rfl (.inl rfl) (pe_op op_add pe_int (pe_call GX (hr.mono (by decide)) (by rfl) T.g__law_pick D.F__law_pick.kp (b__law_pick D) .nil pass0 (pa_cons (pv 0) (pa_cons pe_int pa_nil)))))
        (pss_cons (ps_par (i := 2) (j := 3) (by rfl) nd rfl rfl (by decide) rfl rfl (pa_cons (pe_call GN (hr.mono (by decide)) (by rfl) T.g__law_names D.F__law_names.kp (b__law_names D) .nil pass0 (pa_cons (pv 0) (pa_cons (pv 1) pa_nil))) (pa_cons (pe_lst (pa_cons (pe_lst (pa_cons pe_str (pa_cons pe_str pa_nil))) pa_nil)) pa_nil)) (by rfl))
        (pss_cons (ps_for PassesOwn.never rfl (pi_range1 (by rfl) T.z_range (pa_cons (pv 1) pa_nil)) (pg_name (i := 4) nd rfl (.inl rfl))
        (pss_cons (ps_set (i := 5) nd rfl (.inl rfl) (pe_op op_rep (pe_lst (pa_cons (pe_ix ix_list (pv 2) (pv 4) (fun _ _ => rfl)) pa_nil)) (pe_ix ix_list (pe_lst (pa_cons pe_int (pa_cons pe_int (pa_cons pe_int (pa_cons pe_int pa_nil))))) (pe_call GP (hr.mono (by decide)) (by rfl) T.g__law_pick D.F__law_pick.kp (b__law_pick D) .nil pass0 (pa_cons (pv 0) (pa_cons pe_int pa_nil))) (fun _ _ => rfl))))
        (pss_cons (ps_set (i := 6) nd rfl (.inl rfl) (pe_call GP (hr.mono (by decide)) (by rfl) T.g__law_pick D.F__law_pick.kp (b__law_pick D) .nil pass0 (pa_cons (pv 0) (pa_cons pe_int pa_nil))))
        (pss_cons (ps_set (i := 7) nd rfl (.inl rfl) (pe_ix ix_list (pe_lst (pa_cons pe_int (pa_cons pe_int (pa_cons pe_int (pa_cons pe_int pa_nil))))) (pv 6) (fun _ _ => rfl)))
        (pss_cons (ps_set (i := 8) nd rfl (.inl rfl) (pe_op op_cat (pe_op op_cat (pe_op op_rep (pe_lst (pa_cons pe_str pa_nil)) (pv 7)) (pv 5)) (pe_lc (own := [(("turn" : Str), 9)]) (g := gName 9) (tt := tYes) (te := tOp rAddS (tC (.str ")")) (tCall spNumber [] E0 (tCons (tVar 0) (tCons (tC (.int 1)) tNil)))) rfl nd (pi_range1 (by rfl) T.z_range (pa_cons (pv 7) pa_nil)) (blkOk_by (own := [(("turn" : Str), 9)]) (N := NG_) (sc := defScope s_law_growing) (by decide +kernel)) (fun _ _ _ _ _ => (pg_name (i := 9) nd rfl (Or.inl rfl))) (fun _ _ _ _ _ => pts_nil) (fun _ _ _ _ _ => (pe_op op_add_str pe_str (pe_call GU (hr.mono (by decide)) (by rfl) T.g__law_number D.F__law_number.kp (b__law_number D) .nil pass0 (pa_cons (pv 0) (pa_cons pe_int pa_nil))))))))
        (pss_one (ps_expr (pe_bm PySem.F.plainAttrs_list PySem.F.slot_list_append PySem.F.type_list_append mt_append (pv 3) (pa_cons (pe_op op_cat (pv 8) (pe_slice sl_list (pe_lst (pa_cons pe_str (pa_cons pe_str (pa_cons pe_str pa_nil)))) po_none (po_some (pe_call GP (hr.mono (by decide)) (by rfl) T.g__law_pick D.F__law_pick.kp (b__law_pick D) .nil pass0 (pa_cons (pv 0) (pa_cons pe_int pa_nil)))))) pa_nil)))))))))
        (pss_one (ps_ret (pe_tup (pa_cons (pv 2) (pa_cons (pv 3) pa_nil)))))))), ?_⟩
    have small : ∀ {k : Int}, k.natAbs < 2 ^ 20 → k.natAbs < 2 ^ 1500 := fun h => Nat.lt_of_lt_of_le h (Nat.pow_le_pow_right (by decide) (by decide))
    have z1000 : 100000 ≤ sizeLine := by decide
    refine ⟨_, rfl, b, 18, A1, B, c, rfl, hb, by omega, by decide, small (by decide), fun H1 k1 b1 => ⟨_, _, rfl, rfl, ?_⟩⟩
    obtain ⟨u, hu⟩ : ∃ u, u = LN.drawn B A1 c 18 := ⟨_, rfl⟩
    have u1 := LN.drawn_lt (B := B) (A := A1) (c := c) (m := 18) (by decide)
    rw [← hu] at u1
    obtain ⟨m, em⟩ : ∃ m : Nat, 2 + u = (m : Int) := ⟨(2 + u).toNat, (Int.toNat_of_nonneg (by omega)).symm⟩
    show Ends.nx _ [some (.ref b), some (.int (2 + LN.drawn B A1 c 18)), none, none, none, none, none, none, none, none] _
    rw [← hu, em]
    have m2 : 2 ≤ m := by omega
    have m19 : m ≤ 19 := by omega
    clear em hu
    have b1' : BgX H1 b (LN.rest A1 18) B (c + 1) := b1
    have dry1 := Dry.weak (dry.step (m := 18) (by decide))
    generalize LN.rest A1 18 = A2 at b1' dry1
    refine ⟨_, rfl, _, rfl, b, m, Lb, A2, B, c + 1, rfl, m19, b1', dry1, hLb, by omega, fun nl NL c2 H2 k2 b2 c2u nlen nod low hnl enl => ?_⟩
    have hN : Names NL m := ⟨nlen, nod, low, m19⟩
    have kH2 := k1.trans k2
    obtain ⟨X2, Y2, eb2, _⟩ := id b2
    refine ⟨by show 2 ≤ sizeLine; decide, fun a0 ha0 => ⟨by show 1 ≤ sizeLine; decide, fun ll hll => ⟨_, _, rfl, ?_⟩⟩⟩
    have sa0 := same_new (o := .lst [.str "f2", .str "l"]) ha0
    have sll := same_new (o := .lst [.ref a0]) hll
    have na0b : a0 ≠ b := Ne.symm (ne_of_none eb2 ha0)
    have nll : ll ≠ b := Ne.symm (ne_of_none (sa0 _ _ eb2) hll)
    have na0l : a0 ≠ ll := ne_of_none upd_same hll
    have hllH2 : H2 ll = none := by
      cases e : H2 ll with
      | none => rfl
      | some o => rw [sa0 _ _ e] at hll; cases hll
    have hllH : H ll = none := Keep.freeB kH2 hllH2 nll
    have s3 := sa0.trans sll
    have nnl : nl ≠ ll := ne_of_none (sa0 _ _ enl) hll
    have nnb : nl ≠ b := fun z => by
      rw [z, eb2] at enl
      injection enl with e
      injection e with e
      cases NL with
      | nil => cases e
      | cons a l =>
        injection e with e _
        cases e
    have ewl : wsV NL (Ns.lf 102 2 (.lf 108 1 .nil)).words = [V.str "f2", V.str "l"] := by
      show [V.str (Wd.lt 102 2).str, V.str (Wd.lt 108 1).str] = _
      have e1 : (Wd.lt 102 2).str = "f2" := ext_tl (by show 102 :: numL 2 = _; decide +kernel)
      have e2 : (Wd.lt 108 1).str = "l" := rfl
      rw [e1, e2]
    refine ⟨_, rfl, (m : Int), rfl, by omega, by omega, ?_⟩
    refine for_range (lo := 0) (n := m) (fun k σ H' => ∃ (L : Nat → Ns) (as_ : Nat → Addr) (c : Nat) (z4 z5 z6 z7 z8 : Option V), Keep b H H' ∧ Bg H' b c ∧ c ≤ 100000000000000000000 + 100 * k ∧ (∀ j, j < k + 1 → Fits (L j) j) ∧ H' nl = some (.lst (nvs NL)) ∧ H' ll = some (.lst (refsV as_ (k + 1))) ∧ (∀ j, j < k + 1 → as_ j ≠ ll ∧ as_ j ≠ b ∧ H' (as_ j) = some (.lst (wsV NL (L j).words))) ∧
      σ = [some (.ref b), some (.int (m : Int)), some (.ref nl), some (.ref ll), z4, z5, z6, z7, z8, none])
      ⟨fun _ => .lf 102 2 (.lf 108 1 .nil), fun _ => a0, c2, none, none, none, none, none, kH2.trans (Same.keep s3), b2.same s3, by omega, fun j hj => ⟨⟨⟨by decide, by decide, by decide⟩, ⟨by decide, by decide, by decide⟩, trivial⟩, (fun z => nomatch z), by show 2 ≤ 12; decide, by show 0 ≤ 2; decide⟩, s3 _ _ enl, upd_same, fun j hj => ⟨na0l, na0b, by rw [ewl]; exact sll _ _ upd_same⟩, rfl⟩ (fun k σ H4 hk p => ?_) fun σ H4 p => ?_
    · obtain ⟨L, as_, c4, z4, z5, z6, z7, z8, k4, b4, c4u, fits, en4, el4, ea4, rfl⟩ := p
      rw [Int.zero_add]
      obtain ⟨X4, Y4, eb4, _⟩ := id b4
      -- part
      refine ⟨_, rfl, _, rfl, nl, _, (k : Int), _, rfl, rfl, lstL en4, nvs_at hN hk, by show 1 ≤ sizeLine; decide, fun q1 hq1 => ?_⟩
      have t1 := same_new (o := .lst [.str (nmS (nmAt NL k))]) hq1
      refine ⟨by show 4 ≤ sizeLine; decide, fun q2 hq2 => ?_⟩
      have t2 := same_new (o := .lst [.int 1, .int 2, .int 1, .int 3]) hq2
      have nq1 : q1 ≠ b := Ne.symm (ne_of_none eb4 hq1)
      have nq2 : q2 ≠ b := Ne.symm (ne_of_none (t1 _ _ eb4) hq2)
      refine ⟨_, rfl, b, 4, c4, rfl, (b4.same t1).same t2, by omega, by decide, small (by decide), fun u H5 k5 b5 u0 u1 => ?_⟩
      obtain ⟨cc, em, cc1, cc3⟩ := at_many u0 u1
      have e51 := k5 _ _ nq1 (t2 _ _ upd_same)
      refine ⟨q2, _, u, _, rfl, rfl, lstL (k5 _ _ nq2 upd_same), em, q1, (cc : Int), _, rfl, rfl, e51, by omega, by omega, ?_, fun p5 hp5 => ?_⟩
      · show 1 * cc ≤ _
        omega
      have erep : (List.replicate ((cc : Int)).toNat [V.str (nmS (nmAt NL k))]).flatten = List.replicate cc (V.str (nmS (nmAt NL k))) := by
        rw [Int.toNat_natCast]
        exact flat_one _ _
      rw [erep]
      have t5 := same_new (o := .lst (List.replicate cc (V.str (nmS (nmAt NL k))))) hp5
      have k45 : Keep b H4 (upd H5 p5 (.lst (List.replicate cc (V.str (nmS (nmAt NL k)))))) := (Same.keep (t1.trans t2)).trans (k5.trans (Same.keep t5))
      obtain ⟨X5, Y5, eb5, _⟩ := id b5
      have np5 : p5 ≠ b := Ne.symm (ne_of_none eb5 hp5)
      have ep5 : (upd H5 p5 (.lst (List.replicate cc (V.str (nmS (nmAt NL k)))))) p5 = some (.lst (List.replicate cc (V.str (nmS (nmAt NL k))))) := upd_same
      have b5' := b5.same t5
      generalize upd H5 p5 (.lst (List.replicate cc (V.str (nmS (nmAt NL k))))) = H6 at k45 ep5 b5' ⊢
      clear e51 t5 eb5 hp5 b5 k5 t1 t2 hq1 hq2
      -- way, deep
      refine ⟨_, rfl, b, 4, c4 + 1, rfl, b5', by omega, by decide, small (by decide), fun w0 H7 k7 b7 w00 w01 => ?_⟩
      obtain ⟨dd, ed, dd2⟩ := at_deep w00 w01
      refine ⟨by show 4 ≤ sizeLine; decide, fun q3 hq3 => ⟨_, rfl, q3, _, w0, _, rfl, rfl, lstL upd_same, ed, ?_⟩⟩
      have t3 := same_new (o := .lst [.int 0, .int 1, .int 1, .int 2]) hq3
      have k47 := k45.trans (k7.trans (Same.keep t3))
      have ep7 := t3 _ _ (k7 _ _ np5 ep5)
      have b7' := b7.same t3
      generalize upd H7 q3 (.lst [.int 0, .int 1, .int 1, .int 2]) = H8 at k47 ep7 b7' ⊢
      clear t3 hq3 b7 k7 ep5 b5' k45
      -- words
      refine ⟨by show 1 ≤ sizeLine; decide, fun q4 hq4 => ⟨_, rfl, q4, (dd : Int), _, rfl, rfl, upd_same, by omega, by omega, by show 1 * dd ≤ _; omega, fun q5 hq5 => ?_⟩⟩
      have erep2 : (List.replicate ((dd : Int)).toNat [V.str "("]).flatten = List.replicate dd (V.str "(") := by
        rw [Int.toNat_natCast]
        exact flat_one _ _
      rw [erep2]
      have t4 := same_new (o := .lst [.str "("]) hq4
      have t5 := same_new (o := .lst (List.replicate dd (V.str "("))) hq5
      refine ⟨_, rfl, q5, p5, _, _, rfl, rfl, upd_same, t5 _ _ (t4 _ _ ep7), by rw [List.length_replicate, List.length_replicate]; omega, fun q6 hq6 => ?_⟩
      have t6 := same_new (o := .lst (List.replicate dd (V.str "(") ++ List.replicate cc (V.str (nmS (nmAt NL k))))) hq6
      have k48 := k47.trans (Same.keep (t4.trans (t5.trans t6)))
      have b8 := ((b7'.same t4).same t5).same t6
      obtain ⟨X8, Y8, eb8, _⟩ := id (((b7'.same t4).same t5))
      have nq6 : q6 ≠ b := Ne.symm (ne_of_none eb8 hq6)
      obtain ⟨H9, eH9⟩ : ∃ H9, H9 = upd (upd (upd H8 q4 (.lst [.str "("])) q5 (.lst (List.replicate dd (V.str "(")))) q6 (.lst (List.replicate dd (V.str "(") ++ List.replicate cc (V.str (nmS (nmAt NL k))))) := ⟨_, rfl⟩
      have e6 : H9 q6 = some (.lst (List.replicate dd (V.str "(") ++ List.replicate cc (V.str (nmS (nmAt NL k))))) := by rw [eH9]; exact upd_same
      rw [← eH9] at k48 b8 ⊢
      clear eH9 eb8 hq6 t6 t5 t4 hq5 hq4 erep2
      obtain ⟨X9, Y9, eb9, _⟩ := id b8
      refine ⟨_, rfl, (dd : Int), rfl, by omega, by omega, fun D hD => lc_range (lo := 0) (n := dd) (fun i H' => ∃ (ns : List Nat) (c : Nat), ns.length = i ∧ (∀ n ∈ ns, 2 ≤ n ∧ n ≤ T30) ∧ Keep b H9 H' ∧ Bg H' b c ∧ c ≤ c4 + 2 + 2 * i ∧ H' D = some (.lst (clV ns)))
        ⟨[], c4 + 2, rfl, nofun, Same.keep (same_new hD), b8.same (same_new hD), by omega, upd_same⟩ (fun i H10 hi p => ?_) fun H10 p => ?_⟩
      · obtain ⟨ns, c10, nl10, ok10, k10, b10, c10u, eD⟩ := p
        have nD : D ≠ b := Ne.symm (ne_of_none eb9 hD)
        refine ⟨rfl, _, rfl, b, 1, c10, rfl, b10, by omega, by decide, by decide, fun n H11 k11 b11 n2 nT => ⟨_, _, rfl, rfl, ?_, _, k11 _ _ nD eD, ?_, ns ++ [n], c10 + 2, ?_, ?_, ?_, ?_, by omega, ?_⟩⟩
        · rw [dgS_eq]
          have := dg_len nT
          have e1 : (")" : Str).length = 1 := rfl
          omega
        · unfold clV
          rw [List.length_map]
          omega
        · rw [List.length_append, nl10]
          rfl
        · intro x hx
          rcases List.mem_append.mp hx with hx | hx
          · exact ok10 x hx
          · rw [List.mem_singleton.mp hx]
            exact ⟨n2, nT⟩
        · intro x o hx e
          rw [upd_ne (ne_of_none e hD)]
          exact (k10.trans k11) x o hx e
        · obtain ⟨X, Y, e, h0⟩ := b11
          exact ⟨X, Y, (upd_ne (Ne.symm nD)).trans e, h0⟩
        · rw [upd_same]
          unfold clV
          rw [List.map_append]
          rfl
      obtain ⟨ns, c10, nl10, ok10, k10, b10, c10u, eD⟩ := p
      have clen : (clV ns).length = dd := by
        unfold clV
        rw [List.length_map, nl10]
      refine ⟨q6, D, _, _, rfl, rfl, k10 _ _ nq6 e6, eD, by rw [List.length_append, List.length_replicate, List.length_replicate, clen]; omega, fun q7 hq7 => ?_⟩
      have t7 := same_new (o := .lst ((List.replicate dd (V.str "(") ++ List.replicate cc (V.str (nmS (nmAt NL k)))) ++ clV ns)) hq7
      have k11 := k48.trans (k10.trans (Same.keep t7))
      obtain ⟨X10, Y10, eb10, _⟩ := id b10
      have nq7 : q7 ≠ b := Ne.symm (ne_of_none eb10 hq7)
      have b11 := b10.same t7
      have e7 : (upd H10 q7 (.lst ((List.replicate dd (V.str "(") ++ List.replicate cc (V.str (nmS (nmAt NL k)))) ++ clV ns))) q7 = some (.lst ((List.replicate dd (V.str "(") ++ List.replicate cc (V.str (nmS (nmAt NL k)))) ++ clV ns)) := upd_same
      generalize upd H10 q7 (.lst ((List.replicate dd (V.str "(") ++ List.replicate cc (V.str (nmS (nmAt NL k)))) ++ clV ns)) = H11 at k11 b11 e7 ⊢
      clear t7 hq7 eb10 k10 b10 eD
      -- append
      have el11 := k11 _ _ nll el4
      refine ⟨_, rfl, .inl ⟨rfl, _, lstL el11⟩, _, rfl, by show 3 ≤ sizeLine; decide, fun q8 hq8 => ?_⟩
      have t8 := same_new (o := .lst [.str "f", .str "u", .str "l3"]) hq8
      obtain ⟨X11, Y11, eb11, _⟩ := id b11
      have nq8 : q8 ≠ b := Ne.symm (ne_of_none eb11 hq8)
      refine ⟨_, rfl, b, 4, c10, rfl, b11.same t8, by omega, by decide, small (by decide), fun j0 H12 k12 b12 j00 j01 => ?_⟩
      obtain ⟨j, rfl⟩ := Int.eq_ofNat_of_zero_le j00
      have j3 : j ≤ 3 := by omega
      refine ⟨(j : Int), rfl, q8, _, rfl, lstL (k12 _ _ nq8 upd_same), fun q9 hq9 => ?_⟩
      rw [cut_take]
      have t9 := same_new (o := .lst (tailV.take j)) hq9
      have tl3 : (tailV.take j).length ≤ 3 := by rw [List.length_take]; exact Nat.min_le_right _ _
      refine ⟨q7, q9, _, _, rfl, rfl, t9 _ _ (k12 _ _ nq7 (t8 _ _ e7)), upd_same, ?_, fun q10 hq10 => ?_⟩
      · rw [List.length_append, List.length_append, List.length_replicate, List.length_replicate, clen]
        show _ + (tailV.take j).length ≤ _
        omega
      have egrow := grow_wsV NL (k := k) (c := cc) (ns := ns) (j := j) (by omega) j3
      rw [nl10] at egrow
      have t10 := same_new (o := .lst (((List.replicate dd (V.str "(") ++ List.replicate cc (V.str (nmS (nmAt NL k)))) ++ clV ns) ++ tailV.take j)) hq10
      have k13 := k11.trans ((Same.keep t8).trans (k12.trans (Same.keep (t9.trans t10))))
      have b13 := (b12.same t9).same t10
      obtain ⟨X13, Y13, eb13, _⟩ := id (b12.same t9)
      have nq10 : q10 ≠ b := Ne.symm (ne_of_none eb13 hq10)
      have el13 := k13 _ _ nll el4
      have nq10l : q10 ≠ ll := fun z => ne_of_none ((Same.keep t9) _ _ nll (k12 _ _ nll (t8 _ _ el11))) hq10 z.symm
      refine ⟨ll, _, _, rfl, rfl, el13, by rw [refsV_len]; omega, upF L (k + 1) (growT k cc ns j), upF as_ (k + 1) q10, c10 + 1, _, _, _, _, _, fun x o hx e => ?_, ?_, by omega, fun i hi => ?_, ?_, ?_, fun i hi => ?_, rfl⟩
      · rw [upd_ne (ne_of_none e hllH)]
        exact k13 _ _ hx (k4 _ _ hx e)
      · obtain ⟨X, Y, e, h0⟩ := b13
        exact ⟨X, Y, (upd_ne (Ne.symm nll)).trans e, h0⟩
      · by_cases e : i = k + 1
        · rw [e, upF_same]
          exact grow_fits cc1 cc3 (by omega) ok10
        · rw [upF_ne e]
          exact fits i (by omega)
      · rw [upd_ne nnl]
        exact k13 _ _ nnb en4
      · rw [upd_same, refsV_up]
      · by_cases e : i = k + 1
        · rw [e, upF_same, upF_same]
          refine ⟨nq10l, nq10, ?_⟩
          rw [upd_ne nq10l, egrow]
          exact upd_same
        · obtain ⟨n1, n2, e2⟩ := ea4 i (by omega)
          rw [upF_ne e, upF_ne e]
          exact ⟨n1, n2, (upd_ne n1).trans (k13 _ _ n2 e2)⟩
    · obtain ⟨L, as_, c4, z4, z5, z6, z7, z8, k4, b4, c4u, fits, en4, el4, ea4, rfl⟩ := p
      refine ⟨_, rfl, _, rfl, by show 2 ≤ sizeLine; decide, fun r hr => ?_⟩
      have sr := same_new (o := .tup [.ref nl, .ref ll]) hr
      have hL : Lines L m := ⟨fun k hk => (fits k (by omega)).ok, fun k hk => (fits k (by omega)).full, fun k hk => (fits k (by omega)).few, fun k hk => (fits k (by omega)).low⟩
      exact q r nl ll NL L m c4 as_ _ (k4.trans (Same.keep sr)) (b4.same sr) m2 hN hL ⟨sr _ _ en4, sr _ _ el4, fun k hk => sr _ _ (ea4 k (by omega)).2.2⟩ upd_same
end
end K09P

set_option Elab.async false
set_option linter.all false
set_option maxRecDepth 100000
set_option maxHeartbeats 4000000
set_option exponentiation.threshold 3000
namespace K09P
open PySem PySem.Spec PyProof.Rows L2 RT WM K09 TL
section
variable {P : Program} {w : World} {K : PySem.W.Frag} {mg : Str → Option Value} {base : Heap}
def spSizes : Sp := fun vs H Q _ => ∃ (nl ll : Addr) (NL : List (List Nat)) (L : Nat → Ns) (m : Nat) (as_ : Nat → Addr), vs = [.ref nl, .ref ll] ∧ Names NL m ∧ Lines L m ∧ SrcAt H NL L m nl ll as_ ∧
  ∀ (r : Addr) (t : Nat → Addr) H', Same H H' → H' r = some (.lst (refsV t (m + 1))) → (∀ k, k ≤ m → H' (t k) = some (.tup [.int ((flat L k).words.length : Int), .int ((flat L k).lev : Int)])) → Q (.ref r) H'
theorem ok_sizes (D : Ds K) (T : Tx K mg) : FnOk P w K mg base CX0 1 (d_law_sizes.adr K) D.fd__law_sizes ["names", "lines"] spSizes := by
  refine D.F__law_sizes.ok sc_law_sizes (fun vs H Q E h => ?_) (fun cdv A outer s H vs Q E hr h => ?_)
  · obtain ⟨nl, ll, NL, L, m, as_, rfl, _⟩ := h
    rfl
  · obtain ⟨nl, ll, NL, L, m, as_, rfl, hN, hL, sa, q⟩ := h
    have nd := sc_law_sizes.nd
    refine ⟨_, PSs.nox (pss_cons (ps_set (i := 2) nd rfl (.inl rfl) (pe_lst pa_nil))
        (pss_cons (ps_for PassesOwn.never rfl (pi_list (pv 1)) (pg_name (i := 3) nd rfl (.inl rfl))
        (pss_cons (ps_asg (pe_tup (pa_cons pe_int (pa_cons pe_int (pa_cons pe_int pa_nil)))) (pg_tup (by rfl) (pgs_cons (pg_name (i := 4) nd rfl (.inl rfl)) (pgs_cons (pg_name (i := 5) nd rfl (.inl rfl)) (pgs_cons (pg_name (i := 6) nd rfl (.inl rfl)) pgs_nil)))))
        (pss_cons (ps_for PassesOwn.never rfl (pi_list (pv 3)) (pg_name (i := 7) nd rfl (.inl rfl))
        (pss_cons (ps_set (i := 5) nd rfl (.inl rfl) (pe_op op_sub (pe_op op_add (pv 5) (pe_callTy call_int1 (by rfl) T.z_int (by decide +kernel) (pa_cons (pe_cmpR op_eq (pv 7) pe_str (nomark _)) pa_nil))) (pe_callTy call_int1 (by rfl) T.z_int (by decide +kernel) (pa_cons (pe_cmpR op_eq (pe_ix ix_str (pv 7) pe_int (fun _ _ => rfl)) pe_str (nomark _)) pa_nil))))
        (pss_cons (ps_asg (pe_tup (pa_cons pe_int (pa_cons pe_int pa_nil))) (pg_tup (by rfl) (pgs_cons (pg_name (i := 8) nd rfl (.inl rfl)) (pgs_cons (pg_name (i := 9) nd rfl (.inl rfl)) pgs_nil))))
        (pss_cons (ps_if (pt_cmpR op_in_seq (pv 7) (pv 0) (by rfl))
        (pss_one (ps_asg (pe_ix ix_list (pv 2) (pe_bm PySem.F.plainAttrs_list PySem.F.slot_list_index PySem.F.type_list_index mt_index (pv 0) (pa_cons (pv 7) pa_nil)) (fun _ _ => rfl)) (pg_tup (by rfl) (pgs_cons (pg_name (i := 8) nd rfl (.inl rfl)) (pgs_cons (pg_name (i := 9) nd rfl (.inl rfl)) pgs_nil)))))
        pss_nil)
        (pss_one (ps_par (i := 4) (j := 6) (by rfl) nd rfl rfl (by decide) rfl rfl (pa_cons (pe_op op_add (pv 4) (pv 8)) (pa_cons (pe_callB (call_max2 rfl) (by rfl) T.z_max (by decide +kernel) (pa_cons (pv 6) (pa_cons (pe_op op_add (pv 5) (pv 9)) pa_nil))) pa_nil)) (by rfl)))))))
        (pss_one (ps_expr (pe_bm PySem.F.plainAttrs_list PySem.F.slot_list_append PySem.F.type_list_append mt_append (pv 2) (pa_cons (pe_tup (pa_cons (pv 4) (pa_cons (pv 6) pa_nil))) pa_nil)))))))
        (pss_one (ps_ret (pv 2))))), ?_⟩
    have m19 := hN.most
    have z1000 : 100000 ≤ sizeLine := by decide
    obtain ⟨mn, emn⟩ : ∃ mn : Nat → Nat, mn = fun j => (flat L j).words.length := ⟨_, rfl⟩
    obtain ⟨lv, elv⟩ : ∃ lv : Nat → Nat, lv = fun j => (flat L j).lev := ⟨_, rfl⟩
    refine ⟨by show 0 ≤ sizeLine; decide, fun f hf => ?_⟩
    have sf := same_new (o := .lst []) hf
    refine ⟨_, rfl, ll, rfl, ⟨_, lstL (sf _ _ sa.ll)⟩, ?_⟩
    refine for_list (xs := refsV as_ (m + 1)) (fun k σ H' => ∃ (t : Nat → Addr) (z3 z4 z5 z6 z7 z8 z9 : Option V), Same H H' ∧ H' f = some (.lst (refsV t k)) ∧ (∀ j, j < k → H' (t j) = some (.tup [.int (mn j : Int), .int (lv j : Int)])) ∧ σ = [some (.ref nl), some (.ref ll), some (.ref f), z3, z4, z5, z6, z7, z8, z9])
      ⟨fun _ => 0, none, none, none, none, none, none, none, sf, upd_same, fun j hj => absurd hj (Nat.not_lt_zero _), rfl⟩ (fun i σ H' hi hp => by obtain ⟨_, _, _, _, _, _, _, _, sm, _⟩ := hp; exact lstL (sm _ _ sa.ll)) (fun k x σ H1 hx hp => ?_) fun σ H' hp => ?_
    · obtain ⟨t, z3, z4, z5, z6, z7, z8, z9, sm, ef, et, rfl⟩ := hp
      obtain ⟨kl, rfl⟩ := refsV_at hx
      have km : k ≤ m := by omega
      have eak := sa.at_ k km
      refine ⟨by show 3 ≤ sizeLine; decide, fun t0 ht0 => ⟨t0, _, rfl, tupT upd_same, rfl, _, _, rfl, _, _, rfl, _, _, rfl, rfl, ?_⟩⟩
      have s0 := same_new (o := .tup [.int 0, .int 0, .int 0]) ht0
      refine ⟨_, rfl, as_ k, rfl, ⟨_, lstL (s0 _ _ (sm _ _ eak))⟩, ?_⟩
      refine for_list (xs := wsV NL (L k).words) (fun i σ H' => ∃ (z7 z8 z9 : Option V), Same (upd H1 t0 (.tup [.int 0, .int 0, .int 0])) H' ∧ σ = [some (.ref nl), some (.ref ll), some (.ref f), some (.ref (as_ k)), some (.int (manyF mn ((L k).words.take i) : Int)), some (.int (deepF lv (0, 0) ((L k).words.take i)).1), some (.int (deepF lv (0, 0) ((L k).words.take i)).2), z7, z8, z9])
        ⟨_, _, _, fun _ _ e => e, rfl⟩ (fun i σ H' hi hp => by obtain ⟨_, _, _, s2, _⟩ := hp; exact lstL (s2 _ _ (s0 _ _ (sm _ _ eak)))) (fun i x σ H2 hx2 hp => ?_) fun σ H' hp => ?_
      · obtain ⟨z7, z8, z9, s2, rfl⟩ := hp
        obtain ⟨y, hy, rfl⟩ := wsV_get hx2
        have yk := words_okN _ (hL.ok k km) y (List.mem_of_getElem? hy)
        have ym : y.okN m := by
          cases y with
          | wd _ => exact yk
          | nm _ => exact Nat.lt_of_lt_of_le yk km
        have s02 := sm.trans (s0.trans s2)
        have ef2 := s2 _ _ (s0 _ _ ef)
        obtain ⟨ch, rest, ech, dch⟩ := nw_head hN ym
        have zl : (y.str NL).length ≤ sizeLine := Nat.le_trans (nw_cps hN ym).2 (by decide)
        rw [deep_succ hy, many_succ hy]
        generalize deepF lv (0, 0) ((L k).words.take i) = dd
        generalize manyF mn ((L k).words.take i) = mm
        obtain ⟨l0, d0⟩ := dd
        refine ⟨_, rfl, _, rfl, rfl, .inr ⟨_, rfl, ?_⟩⟩
        rw [nw_op hN ym]
        refine ⟨_, _, rfl, rfl, _, rfl, _, _, ch, rfl, rfl, zl, by rw [ech]; exact atI_nat (j := 0) rfl, rfl, .inr ⟨_, rfl, ?_⟩⟩
        rw [dch]
        refine ⟨_, _, rfl, rfl, ?_⟩
        have est : l0 + (if isOp y.shw = true then 1 else 0) - (if isCl y.shw = true then 1 else 0) = l0 + WM.step y.shw := by
          unfold WM.step b2
          omega
        show Ends.nx _ [some (.ref nl), some (.ref ll), some (.ref f), some (.ref (as_ k)), some (.int (mm : Int)), some (.int (l0 + (if isOp y.shw = true then 1 else 0) - (if isCl y.shw = true then 1 else 0))), some (.int d0), some (.str (y.str NL)), z8, z9] _
        rw [est]
        have emax : ∀ p q : Int, (if q > p then q else p) = max p q := fun p q => by omega
        -- more, deep
        refine ⟨by show 2 ≤ sizeLine; decide, fun t1 ht1 => ⟨t1, _, rfl, tupT upd_same, rfl, _, _, rfl, _, _, rfl, rfl, ?_⟩⟩
        have s3 := same_new (o := .tup [.int 1, .int 0]) ht1
        have s23 := s2.trans s3
        have enl3 := (s02.trans s3) _ _ sa.nl
        refine ⟨_, rfl, _, rfl, nl, _, rfl, .inl (lstL enl3), rfl, nvs_flat NL, _, rfl, ?_⟩
        rw [in_names hN ym]
        cases y with
        | wd x1 =>
          refine iteF ?_
          refine ⟨_, rfl, _, rfl, _, _, rfl, rfl, _, rfl, _, rfl, _, rfl, _, _, rfl, rfl, _, _, rfl, _, _, rfl, some (.str (Nw.str NL (Nw.wd x1))), some (.int 1), some (.int 0), s23, ?_⟩
          show [some (V.ref nl), some (V.ref ll), some (V.ref f), some (V.ref (as_ k)), some (V.int ((mm : Int) + 1)), some (V.int (l0 + WM.step (Nw.wd x1).shw)), some (V.int (if l0 + WM.step (Nw.wd x1).shw + 0 > d0 then _ else _)), _, _, _] = _
          rw [emax]
          rfl
        | nm j =>
          have jk : j < k := yk
          have jm : j < m := ym
          have efj := s3 _ _ ef2
          have etj := (s0.trans s23) _ _ (et j jk)
          refine iteT ⟨_, rfl, _, rfl, .inl ⟨rfl, _, lstL enl3⟩, _, rfl, nl, _, _, j, .str (nmS (nmAt NL j)), rfl, rfl, lstL enl3, rfl, nvs_flat NL, nvs_index hN jm, beq_self_eq_true _, fun q z' hq hz => ?_, f, _, _, .ref (t j), rfl, rfl, lstL efj, atI_nat (refsV_get jk), t j, _, rfl, tupT etj, rfl, _, _, rfl, _, _, rfl, rfl, ?_⟩
          · rw [nvs_index hN (show q < m by omega)] at hz
            obtain rfl := Option.some.inj hz
            refine beq_false_of_ne fun z => ?_
            have := hN.inj (by omega) jm (nmS_inj z)
            omega
          refine ⟨_, rfl, _, rfl, _, _, rfl, rfl, _, rfl, _, rfl, _, rfl, _, _, rfl, rfl, _, _, rfl, _, _, rfl, some (.str (Nw.str NL (Nw.nm j))), some (.int (mn j : Int)), some (.int (lv j : Int)), s23, ?_⟩
          show [some (V.ref nl), some (V.ref ll), some (V.ref f), some (V.ref (as_ k)), some (V.int ((mm : Int) + (mn j : Int))), some (V.int (l0 + WM.step (Nw.nm j).shw)), some (V.int (if l0 + WM.step (Nw.nm j).shw + (lv j : Int) > d0 then _ else _)), _, _, _] = _
          rw [emax, ← Int.natCast_add]
          rfl
      · obtain ⟨z7, z8, z9, s2, rfl⟩ := hp
        have wl : (wsV NL (L k).words).length = (L k).words.length := List.length_map ..
        rw [wl, List.take_length]
        obtain ⟨l1, l2⟩ := meas_line hL km
        rw [← emn] at l1
        rw [← elv] at l2
        rw [l1, l2]
        have s02 := s0.trans s2
        have ef2 := s02 _ _ ef
        refine ⟨_, rfl, .inl ⟨rfl, _, lstL ef2⟩, _, rfl, _, rfl, by show 2 ≤ sizeLine; decide, fun p hp => ⟨f, _, _, rfl, rfl, (same_new hp) _ _ ef2, by rw [refsV_len]; omega, ?_⟩⟩
        have sp := same_new (o := .tup [.int ((flat L k).words.length : Int), .int ((flat L k).lev : Int)]) hp
        have npf : p ≠ f := Ne.symm (ne_of_none ef2 hp)
        refine ⟨upF t k p, _, _, _, _, _, _, _, fun x o e => ?_, ?_, fun j hj => ?_, rfl⟩
        · rw [upd_ne (ne_of_none e hf)]
          exact sp _ _ (s02 _ _ (sm _ _ e))
        · rw [upd_same, refsV_up]
        · by_cases e : j = k
          · rw [e, upF_same, upd_ne npf, upd_same, emn, elv]
          · have ej := (s02.trans sp) _ _ (et j (by omega))
            rw [upF_ne e, upd_ne (fun z => by
              rw [z] at ej
              rw [sp _ _ ef2] at ej
              cases ej)]
            exact ej
    · obtain ⟨t, z3, z4, z5, z6, z7, z8, z9, sm, ef, et, rfl⟩ := hp
      rw [refsV_len] at ef et
      exact ⟨_, rfl, q f t H' sm ef fun k hk => by rw [et k (by omega), emn, elv]⟩
end
end K09P

set_option Elab.async false
set_option linter.all false
set_option maxRecDepth 100000
set_option maxHeartbeats 4000000
namespace PySem.SeqAt
open AutoSeq1 (wpAny_loadPart')
open MeetsSeq
theorem str_eq_declines_dict (b : Str) (u : Tok) (l : Addr) (es : Array DictEntry) (n : Nat) (dd : Option Addr) (sl : Array (Option Value)) :
    Meets (Builtin.«str.__eq__» ⟨[.str b u, .ref l], []⟩) (fun _ R s => s.heap.get? l = some { cls := .type "dict", dict := dd, data := .dict es n, slots := sl } ∧ R (.ok (.ret .notImplemented)) s) :=
  .of_wp fun prog w A R s h => by obtain ⟨hp, g, d, tk, os⟩ := s; obtain ⟨hl, h⟩ := h; wp_walk using wpAny_loadPart' hl, wpAny_load hl; exact ⟨_, rfl, h⟩
theorem dict_eq_declines_str (l : Addr) (es : Array DictEntry) (n : Nat) (dd : Option Addr) (sl : Array (Option Value)) (b : Str) (u : Tok) :
    Meets (Builtin.«dict.__eq__» ⟨[.ref l, .str b u], []⟩) (fun _ R s => s.heap.get? l = some { cls := .type "dict", dict := dd, data := .dict es n, slots := sl } ∧ R (.ok (.ret .notImplemented)) s) :=
  .of_wp fun prog w A R s h => by obtain ⟨hp, g, d, tk, os⟩ := s; obtain ⟨hl, h⟩ := h; have f1 := F.sub_str_dict; wp_walk using wpAny_loadPart' hl; exact ⟨_, rfl, h⟩
theorem RcAt.str_dict {A : Around} {s : Shared} {l : Addr} {es : Array DictEntry} {n : Nat} {dd : Option Addr} {sl : Array (Option Value)} (b : Str) (u : Tok) (ho : s.heap.get? l = some { cls := .type "dict", dict := dd, data := .dict es n, slots := sl }) (hu : A.units < cLine) : RcAt A s (.str b u) (.ref l) false := fun prog w E Q h =>
  rc_eq_decline_or (k := false) (typeIs_str s b u) ⟨_, ho, rfl⟩ (by decide) F.sub_dict_str F.slot_str_eq F.slot_dict_eq_refl
    (fun _ hq => call_meets F.slot_str_eq (typeIs_str s b u) F.entry_str_eq (F.args_str_eq_2 _ _) (str_eq_declines_dict b u l es n dd sl) ⟨ho, hq⟩)
    (fun _ hq => call_meets F.slot_dict_eq_refl ⟨_, ho, rfl⟩ F.entry_dict_eq (F.args_dict_eq_2 _ _) (dict_eq_declines_str l es n dd sl b u) ⟨ho, hq⟩)
    (fun _ hq => wpAny_of_eq (rfl : isSame (.str b u) (.ref l) = pure false) hq) (.inr hu) h
theorem EqAt.str_dict {A : Around} {s : Shared} {l : Addr} {es : Array DictEntry} {n : Nat} {dd : Option Addr} {sl : Array (Option Value)} (b : Str) (u : Tok) (ho : s.heap.get? l = some { cls := .type "dict", dict := dd, data := .dict es n, slots := sl }) (hu : A.units < cLine) : EqAt A s (.str b u) (.ref l) false := fun prog w E Q h => by
  unfold eqBool
  refine wpAny_holding ?_
  refine wpAny_ite_split (fun hab => absurd (eq_of_beq hab) nofun) (fun _ => ?_)
  exact wpAny_bind (RcAt.str_dict b u ho hu prog w E _ (wpAny_truthy_bool h))
end PySem.SeqAt

set_option Elab.async false
set_option linter.all false
set_option maxRecDepth 100000
set_option maxHeartbeats 4000000
/-! x not in xs: x a flat value, or data with dicts; xs a list -/
namespace DQ
open PySem PySem.Spec PyProof.Rows L2
section
variable {X : Cx}
def rNotInQ (K : PySem.W.Frag) : R2 := fun x y H Q => ∃ d ds, Dq H x d ∧ Dp K H y (.list ds) ∧ SeqAt.shaped d = true ∧ SeqAt.shaped (.list ds) = true ∧ Q (.bl (!ds.any fun z => PyData.eqv z d)) H
theorem op_notInQ (sm : SysOk X.K) (hu : X.A.units + 65 < cLine) : OpR X (compareOp .NotIn) (rNotInQ X.K) := by
  intro pins s σ H x y v u Q I rx ry h
  obtain ⟨d, ds, hd, he, sd, se, q⟩ := h
  obtain ⟨as, r1, _⟩ := Dq.reads I sm hd rx
  obtain ⟨bs, r2⟩ := Dp.reads I (.list ds) y u he ry
  exact SeqAt.notIn_list_reads r2 r1 (SeqAt.canLay_of_shaped se) (SeqAt.canLay_of_shaped sd) (room_in_shaped sd hu) ⟨.bl _, H, I, rfl, q⟩
/-- an empty dict in a list of texts -/
def rNotInD0 (K : PySem.W.Frag) : R2 := fun x y H Q => ∃ a p, ∃ ss : List Str, x = .ref a ∧ H a = some (.dT []) ∧ y = .ref p ∧ SqL K H p (ss.map V.str) ∧ Q (.bl true) H
theorem strs_mem : ∀ {ss : List Str} {us : List Value}, Vals (ss.map V.str) us → ∀ w ∈ us, ∃ s t, w = .str s t
  | [], _, .nil, w, hw => nomatch hw
  | s :: ss, _, .cons r rs, w, hw => by
    rcases List.mem_cons.mp hw with rfl | hw
    · obtain ⟨t, rfl⟩ := r
      exact ⟨s, t, rfl⟩
    · exact strs_mem rs w hw
theorem op_notInD0 (hu : X.A.units + 65 < cLine) : OpR X (compareOp .NotIn) (rNotInD0 X.K) := by
  intro pins s σ H x y v u Q I rx ry h
  obtain ⟨a, p, ss, rfl, ha, rfl, hq, q⟩ := h
  cases rx
  cases ry
  obtain ⟨_, ne, xs, px, ⟨cls, dd, data, sl⟩, es, ep, ho, hx, hd, he, _⟩ := I.hok a _ ha
  have hc : cls = .type "dict" := hx.1
  have hd' : data = .dict es ep := hd
  subst hc hd'
  obtain ⟨its, r, pl, hz⟩ := I.list hq
  refine SeqAt.notIn_listAt (fun _ => false) pl.isList (fun w hw => ?_) ⟨.bl _, H, I, rfl, ?_⟩
  · obtain ⟨s0, t0, rfl⟩ := strs_mem r w (by simpa using hw)
    exact SeqAt.EqAt.str_dict s0 t0 ho (by show X.A.units + 1 < cLine; omega)
  · have : its.toArray.any (fun _ => false) = false := by simp
    rw [this]
    exact q
def rNotInE (K : PySem.W.Frag) : R2 := fun x y H Q => rIn K true x y H Q ∨ rNotInQ K x y H Q ∨ rNotInD0 K x y H Q
theorem op_notInE (sm : SysOk X.K) (hu : X.A.units + 65 < cLine) : OpR X (compareOp .NotIn) (rNotInE X.K) := by
  intro pins s σ H x y v u Q I rx ry h
  rcases h with h | h | h
  · exact op_notIn_seq pins s σ H x y v u Q I rx ry h
  · exact op_notInQ sm hu pins s σ H x y v u Q I rx ry h
  · exact op_notInD0 hu pins s σ H x y v u Q I rx ry h
end
end DQ

set_option Elab.async false
set_option linter.all false
set_option maxRecDepth 100000
set_option maxHeartbeats 8000000
set_option exponentiation.threshold 3000
namespace K09P
open PySem PySem.Spec PyProof.Rows L2 RT WM K09 TL DQ
theorem seq_via {A B : TS} {D : Ends} {σ : L2.St} {H : Hp} (Good : L2.St → Hp → Prop) (h1 : ∀ D' : Ends, (∀ σ' H', Good σ' H' → D'.nx σ' H') → A D' σ H) (h2 : ∀ σ' H', Good σ' H' → B D σ' H') : tSeq A B D σ H := h1 _ h2
theorem eqvA_S : ∀ ss : List Str, PyData.eqvAll (ss.map PyData.str) (ss.map PyData.str) = true
  | [] => by simp [PyData.eqvAll]
  | s :: ss => by simp [PyData.eqvAll, PyData.eqv, eqvA_S ss]
theorem dpS {K : PySem.W.Frag} {H : Hp} : ∀ ss : List Str, DpAll K H (ss.map V.str) (ss.map PyData.str)
  | [] => .nil
  | s :: ss => .cons (.str s) (dpS ss)
theorem depth_S : ∀ ss : List Str, PyData.depthAll (ss.map PyData.str) = 0
  | [] => rfl
  | _ :: r => by simp [PyData.depthAll, PyData.depth, depth_S r]
theorem shaped_S (L : List (List Nat)) (h : ∀ l ∈ L, LN.LowN l) : SeqAt.shaped (.list ((L.map nmS).map PyData.str)) = true := by
  have c : PyData.canLayAll0 ((L.map nmS).map PyData.str) = true := by
    induction L with
    | nil => rfl
    | cons l L ih =>
      have i := ih fun x hx => h x (List.mem_cons_of_mem _ hx)
      have lo := (h l (List.mem_cons_self ..)).2.2
      rw [List.map_cons, List.map_cons]
      simp only [PyData.canLayAll0, PyData.canLay0, i, Bool.and_true]
      show (nmS l).cps.all _ = true
      rw [← Array.all_toList]
      refine List.all_eq_true.mpr fun c hc => ?_
      have := lo c hc
      simp
      omega
  simp only [SeqAt.shaped, PyData.canLay0, PyData.depth, c, depth_S]
  decide
theorem neN {K : PySem.W.Frag} {H : Hp} {p q : Addr} (L : List (List Nat)) {Q : VK} (low : ∀ l ∈ L, LN.LowN l) (hp : H p = some (.lst (nvs L))) (hq : H q = some (.lst (nvs L))) (h : Q (.bl false) H) : rNeD K (.ref p) (.ref q) H Q := by
  rw [nvs_map] at hp hq
  refine ⟨.list ((L.map nmS).map .str), .list ((L.map nmS).map .str), .lst (lstL hp) (dpS _), .lst (lstL hq) (dpS _), shaped_S L low, shaped_S L low, ?_⟩
  rw [show PyData.eqv (.list ((L.map nmS).map .str)) (.list ((L.map nmS).map .str)) = true from by rw [PyData.eqv]; exact eqvA_S _]
  exact h
theorem cut8 (ns : List Int) {z : V} (hz : z ∈ cutV (ns.map V.int) none (some 8) ++ [V.int 0]) : ∃ n : Int, z = .int n ∧ (n = 0 ∨ n ∈ ns) := by
  rcases List.mem_append.mp hz with hx | hx
  · unfold cutV at hx
    obtain ⟨n, hn, rfl⟩ := List.mem_map.mp (List.mem_of_mem_drop (List.mem_of_mem_take hx))
    exact ⟨n, rfl, .inr hn⟩
  · exact ⟨0, List.mem_singleton.mp hx, .inl rfl⟩
theorem cut8_len (ns : List Int) : (cutV (ns.map V.int) none (some 8)).length ≤ 8 := by
  unfold cutV
  rw [List.length_take]
  refine Nat.le_trans (Nat.min_le_left _ _) (Nat.le_trans (Nat.sub_le _ _) ?_)
  have := HT.sIx_nat (ns.map V.int).length (ns.map V.int).length 8
  show HT.sIx (ns.map V.int).length (ns.map V.int).length (some ((8 : Nat) : Int)) ≤ 8
  rw [this]
  exact Nat.min_le_left _ _
theorem cut_one (x : V) (xs : List V) : cutV (x :: xs) none (some 1) = [x] := by
  have e2 : HT.sIx (x :: xs).length (x :: xs).length (some 1) = 1 := by
    have := HT.sIx_nat (x :: xs).length (x :: xs).length 1
    rw [show ((1 : Nat) : Int) = 1 from rfl] at this
    rw [this, List.length_cons]
    omega
  show ((x :: xs).drop 0).take (HT.sIx (x :: xs).length (x :: xs).length (some 1) - 0) = [x]
  rw [e2]
  rfl
theorem bits_pow {z : Int} {n : Nat} (h : Builtin.Int.intBits z ≤ n) : z.natAbs < 2 ^ n := by
  unfold Builtin.Int.intBits at h
  by_cases z0 : z = 0
  · subst z0
    exact Nat.pow_pos (by decide)
  · rw [if_neg (by simp [z0])] at h
    exact Nat.lt_of_lt_of_le Nat.lt_log2_self (Nat.pow_le_pow_right (by decide) h)
theorem hu65 {A : Around} {k : Nat} (hr : Room k A) : A.units + 65 < cLine := by
  have := hr.un
  omega
theorem inV_int (i : Int) : ∀ L : List (List Nat), inV (.int i) (nvs L) = false
  | [] => rfl
  | l :: L => by
    show (eqV (.str (nmS l)) (.int i) || inV (.int i) (nvs L)) = false
    rw [inV_int i L]
    rfl
theorem inV_bl (c : Bool) : ∀ L : List (List Nat), inV (.bl c) (nvs L) = false
  | [] => rfl
  | l :: L => by
    show (eqV (.str (nmS l)) (.bl c) || inV (.bl c) (nvs L)) = false
    rw [inV_bl c L]
    rfl
theorem no_list (ds : List PyData) : ∀ ss : List Str, ((ss.map PyData.str).any fun z => PyData.eqv z (.list ds)) = false
  | [] => rfl
  | s :: ss => by
    rw [List.map_cons, List.any_cons, no_list ds ss]
    simp [PyData.eqv]
/-- a value that is asked for and may be no name -/
inductive Bad (H : Hp) (x0 : Str) : V → Prop
  | str (s : Str) : Bad H x0 (.str s)
  | int (i : Int) : Bad H x0 (.int i)
  | bl (c : Bool) : Bad H x0 (.bl c)
  | dict {a : Addr} : H a = some (.dT []) → Bad H x0 (.ref a)
  | lst {a : Addr} : H a = some (.lst [.str x0]) → Bad H x0 (.ref a)
theorem Bad.same {H H' : Hp} {x0 : Str} {v : V} (h : Bad H x0 v) (s : Same H H') : Bad H' x0 v := by
  cases h with
  | str s => exact .str s
  | int i => exact .int i
  | bl c => exact .bl c
  | dict e => exact .dict (s _ _ e)
  | lst e => exact .lst (s _ _ e)
section
variable {P : Program} {w : World} {K : PySem.W.Frag} {mg : Str → Option Value} {base : Heap}
def spBagX : Sp := fun vs H Q _ => ∃ z : Int, vs = [.int z] ∧ ∀ t A H', Same H H' → H t = none → BgX H' t A z 0 → A ≤ (z.natAbs : Int) → Q (.ref t) H'
theorem ok_bagX (D : Ds K) (T : Tx K mg) : FnOk P w K mg base CX0 1 (d_law_bag.adr K) D.fd__law_bag ["cell"] spBagX := by
  refine D.F__law_bag.ok sc_law_bag (fun vs H Q E h => ?_) (fun cdv A outer s H vs Q E hr h => ?_)
  · obtain ⟨z, rfl, _⟩ := h
    rfl
  · obtain ⟨z, rfl, q⟩ := h
    refine ⟨_, PSs.nox (pss_one (ps_ret (pe_lst (pa_cons (pe_callB (call_max2 rfl) (by rfl) T.z_max (by decide +kernel) (pa_cons pe_int (pa_cons (pe_op op_sub (pv 0) (pe_op op_pow pe_int pe_int)) pa_nil))) (pa_cons (pv 0) (pa_cons pe_int pa_nil)))))), ?_⟩
    refine ⟨_, rfl, _, _, rfl, rfl, pw_ok (by decide) (by decide), _, _, rfl, rfl, _, _, rfl, _, rfl, by show 3 ≤ sizeLine; decide, fun t ht => ?_⟩
    refine q t _ _ (same_new ht) ht ⟨upd_same, ?_⟩ ?_
    · split <;> omega
    · have := p18
      split <;> omega
def spLaw (K : PySem.W.Frag) : Sp := fun vs H Q _ => ∃ (a : Addr) (ns : List Int) (Lb : Nat), vs = [.ref a] ∧ SqL K H a (ns.map V.int) ∧ Lb ≤ 2000000 ∧ (∀ z ∈ ns, z.natAbs < 2 ^ Lb) ∧ ∀ H', Q (.bl true) H'
theorem ok_law (D : Ds K) (T : Tx K mg) : FnOk P w K mg base CX0 25 (dlaw.adr K) D.fd_law ["script"] (spLaw K) := by
  have GB : FnOk P w K mg base CX0 1 _ _ _ spBagX := ok_bagX D T
  have GG : FnOk P w K mg base CX0 3 _ _ _ spGrow := ok_grow D T
  have GT : FnOk P w K mg base CX0 1 _ _ _ spTextL := ok_textL D T
  have GS : FnOk P w K mg base CX0 1 _ _ _ spSizes := ok_sizes D T
  have GW : FnOk P w K mg base CX0 1 _ _ _ spWritten := ok_written D T
  have GN : FnOk P w K mg base CX0 7 _ _ _ spNo := ok_no D T
  have GTo : FnOk P w K mg base CX0 24 _ _ _ (spTold K) := ok_told D T
  refine D.F_law.ok sclaw (fun vs H Q E h => ?_) (fun cdv A outer s H vs Q E hr h => ?_)
  · obtain ⟨a, ns, Lb, rfl, _⟩ := h
    rfl
  · obtain ⟨a, ns, Lb, rfl, hS, hLb, bits, q⟩ := h
    have nd := sclaw.nd
    refine ⟨_, PSs.nox (pss_cons (ps_for PassesOwn.never rfl (pi_list (pe_op op_cat (pe_slice sl_list (pv 0) po_none (po_some pe_int)) (pe_lst (pa_cons pe_int pa_nil)))) (pg_name (i := 1) nd rfl (.inl rfl))
        (pss_cons (ps_set (i := 2) nd rfl (.inl rfl) (pe_call GB (hr.mono (by decide)) (by rfl) T.g__law_bag D.F__law_bag.kp (b__law_bag D) .nil pass0 (pa_cons (pv 1) pa_nil)))
        (pss_cons (ps_asg (pe_call GG (hr.mono (by decide)) (by rfl) T.g__law_growing D.F__law_growing.kp (b__law_growing D) .nil pass0 (pa_cons (pv 2) pa_nil)) (pg_tup (by rfl) (pgs_cons (pg_name (i := 3) nd rfl (.inl rfl)) (pgs_cons (pg_name (i := 4) nd rfl (.inl rfl)) pgs_nil))))
        (pss_cons (ps_par (i := 5) (j := 6) (by rfl) nd rfl rfl (by decide) rfl rfl (pa_cons (pe_call GT (hr.mono (by decide)) (by rfl) T.g__law_text D.F__law_text.kp (b__law_text D) .nil pass0 (pa_cons (pv 3) (pa_cons (pv 4) pa_nil))) (pa_cons (pe_call GS (hr.mono (by decide)) (by rfl) T.g__law_sizes D.F__law_sizes.kp (b__law_sizes D) .nil pass0 (pa_cons (pv 3) (pa_cons (pv 4) pa_nil))) pa_nil)) (by rfl))
        (pss_cons (ps_set (i := 7) nd rfl (.inl rfl) (pe_call GW (hr.mono (by decide)) (by rfl) T.g__law_written D.F__law_written.kp (b__law_written D) .nil pass0 (pa_cons (pv 3) (pa_cons (pv 4) (pa_cons pe_int pa_nil)))))
        (pss_cons (ps_if (pt_cmpR (op_neD hr.units) (pe_call GN (hr.mono (by decide)) (by rfl) T.g_names_of D.F_names_of.kp (b_names_of D) .nil pass0 (pa_cons (pv 5) pa_nil)) (pv 3) (nomark _))
        (pss_one (ps_ret pe_bl))
        pss_nil)
        (pss_cons (ps_for PassesOwn.never rfl (pi_range1 (by rfl) T.z_range (pa_cons (pe_callB call_len_seq (by rfl) T.z_len PySem.boot_len (pa_cons (pv 4) pa_nil)) pa_nil)) (pg_name (i := 8) nd rfl (.inl rfl))
        (pss_cons (ps_set (i := 9) nd rfl (.inl rfl) (pe_join pe_str (pe_orT (pe_ix ix_list (pv 7) (pv 8) (fun _ _ => rfl)) (pe_one (pe_lst pa_nil)))))
        (pss_cons (ps_if (pt_cmpR op_gt (pe_ix ix_tup (pe_ix ix_list (pv 6) (pv 8) (fun _ _ => rfl)) pe_int (fun _ _ => rfl)) pe_int (nomark _))
        (pss_one (ps_set (i := 9) nd rfl (.inl rfl) pe_str))
        pss_nil)
        (pss_cons (ps_if (pt_cmpR op_gt (pe_ix ix_tup (pe_ix ix_list (pv 6) (pv 8) (fun _ _ => rfl)) pe_int (fun _ _ => rfl)) pe_int (nomark _))
        (pss_one (ps_set (i := 9) nd rfl (.inl rfl) pe_str))
        pss_nil)
        (pss_one (ps_if (pt_cmpR op_ne (pe_call GTo (hr.mono (by decide)) (by rfl) T.g__law_told D.F__law_told.kp (b__law_told D) .nil pass0 (pa_cons (pv 5) (pa_cons (pe_ifExp (pt_cmpR op_lt (pv 8) (pe_callB call_len_seq (by rfl) T.z_len PySem.boot_len (pa_cons (pv 3) pa_nil)) (nomark _)) (pe_ix ix_list (pv 3) (pv 8) (fun _ _ => rfl)) pe_non) pa_nil))) (pv 9) (nomark _))
        (pss_one (ps_ret pe_bl))
        pss_nil))))))
        (pss_cons (ps_set (i := 10) nd rfl (.inl rfl) (pe_lst (pa_cons pe_str (pa_cons (pe_op op_mulS pe_str pe_int) (pa_cons pe_str (pa_cons (pe_op op_add_str (pe_ix ix_list (pv 3) pe_int (fun _ _ => rfl)) pe_str) (pa_cons (pe_upper (pe_ix ix_list (pv 3) pe_int (fun _ _ => rfl))) (pa_cons (pe_slice sl_str (pe_ix ix_list (pv 3) pe_int (fun _ _ => rfl)) po_none (po_some pe_int)) (pa_cons (pe_op op_add_str pe_str (pe_ix ix_list (pv 3) pe_int (fun _ _ => rfl))) (pa_cons pe_int (pa_cons pe_bl (pa_cons pe_dnewT pa_nil))))))))))))
        (pss_one (ps_for PassesOwn.never rfl (pi_list (pe_op op_cat (pv 10) (pe_lst (pa_cons (pe_lst (pa_cons (pe_ix ix_list (pv 3) pe_int (fun _ _ => rfl)) pa_nil)) pa_nil)))) (pg_name (i := 11) nd rfl (.inl rfl))
        (pss_one (ps_if (PW.pt (pw_and (pt_cmpR (op_notInE T.sm (hu65 hr)) (pv 11) (pv 3) (by rfl)) (pw_and1 (pt_cmpR op_ne (pe_call GTo (hr.mono (by decide)) (by rfl) T.g__law_told D.F__law_told.kp (b__law_told D) .nil pass0 (pa_cons (pv 5) (pa_cons (pv 11) pa_nil))) pe_str (nomark _)))))
        (pss_one (ps_ret pe_bl))
        pss_nil))))))))))))
        (pss_one (ps_ret pe_bl))), ?_⟩
    have small : ∀ {k : Int}, k.natAbs < 2 ^ 20 → k.natAbs < 2 ^ 1500 := fun h => Nat.lt_of_lt_of_le h (Nat.pow_le_pow_right (by decide) (by decide))
    have z1000 : 100000 ≤ sizeLine := by decide
    refine seq_via (Good := fun σ H' => ∃ z1 z2 z3 z4 z5 z6 z7 z8 z9 z10 z11, σ = [some (.ref a), z1, z2, z3, z4, z5, z6, z7, z8, z9, z10, z11]) (fun D' hD => ?_) (fun σ H1 g => ?_)
    · refine ⟨_, rfl, 8, rfl, a, _, rfl, hS, fun p1 hp1 => ⟨by show 1 ≤ sizeLine; decide, fun p2 hp2 => ?_⟩⟩
      have s2 := same_new (o := .lst [.int 0]) hp2
      refine ⟨_, _, _, _, rfl, rfl, s2 _ _ upd_same, upd_same, by have := cut8_len ns; show _ + 1 ≤ _; omega, fun p3 hp3 => ?_⟩
      refine ⟨p3, rfl, ⟨_, lstL upd_same⟩, ?_⟩
      obtain ⟨H0, eH0⟩ : ∃ H0, H0 = upd (upd (upd H p1 (.lst (cutV (ns.map V.int) none (some 8)))) p2 (.lst [.int 0])) p3 (.lst (cutV (ns.map V.int) none (some 8) ++ [.int 0])) := ⟨_, rfl⟩
      have e3 : H0 p3 = some (.lst (cutV (ns.map V.int) none (some 8) ++ [.int 0])) := by rw [eH0]; exact upd_same
      rw [← eH0]
      clear eH0
      refine for_list (xs := cutV (ns.map V.int) none (some 8) ++ [.int 0]) (fun i σ H' => ∃ z1 z2 z3 z4 z5 z6 z7 z8 z9 z10 z11, Same H0 H' ∧ σ = [some (.ref a), z1, z2, z3, z4, z5, z6, z7, z8, z9, z10, z11])
        ⟨none, none, none, none, none, none, none, none, none, none, none, fun _ _ e => e, rfl⟩ (fun i σ H' hi hp => by obtain ⟨_, _, _, _, _, _, _, _, _, _, _, s, _⟩ := hp; exact lstL (s _ _ e3)) (fun i x σ H1 hx hp => ?_) fun σ H' hp => ?_
      · obtain ⟨z1, z2, z3, z4, z5, z6, z7, z8, z9, z10, z11, s1, rfl⟩ := hp
        obtain ⟨z, rfl, hz⟩ := cut8 ns (List.mem_of_getElem? hx)
        have zb : z.natAbs < 2 ^ Lb := by
          rcases hz with rfl | hz
          · exact Nat.pow_pos (by decide)
          · exact bits z hz
        refine ⟨_, rfl, z, rfl, fun b A H2 sb hb0 bx Ale => ?_⟩
        have dry : LN.Dry Lb 0 A := by
          refine ⟨bx.2, ?_⟩
          rw [Int.pow_zero, Int.mul_one]
          have : ((2 ^ Lb : Nat) : Int) = 2 ^ Lb := by rw [Int.natCast_pow]; rfl
          rw [← this]
          omega
        show Ends.nx _ [some (.ref a), some (.int z), some (.ref b), z3, z4, z5, z6, z7, z8, z9, z10, z11] _
        refine ⟨_, rfl, b, Lb, A, z, 0, rfl, bx, dry, hLb, by decide, fun r nl ll NL L m c' as_ H4 k4 b4 m2 hN hL sa er => ?_⟩
        have S4 : Same H1 H4 := fun x o e1 => k4 _ _ (ne_of_none e1 hb0) (sb _ _ e1)
        clear b4 k4 sb
        refine ⟨r, _, rfl, tupT er, rfl, _, _, rfl, _, _, rfl, rfl, ?_⟩
        refine ⟨_, rfl, _, rfl, nl, ll, NL, L, m, as_, rfl, hN, hL, sa, fun H5 s5 => ?_⟩
        refine ⟨_, rfl, _, rfl, nl, ll, NL, L, m, as_, rfl, hN, hL, sa.same s5, fun sz t H6 s6 esz et => ⟨_, _, rfl, ?_⟩⟩
        refine ⟨_, rfl, _, rfl, nl, ll, NL, L, m, as_, rfl, hN, hL, sa.same (s5.trans s6), fun rl v H7 s7 erl rows => ?_⟩
        have S7 := S4.trans (s5.trans (s6.trans s7))
        have sa7 := sa.same (s5.trans (s6.trans s7))
        have esz7 := s7 _ _ esz
        have et7 : ∀ k, k ≤ m → H7 (t k) = some (.tup [.int ((flat L k).words.length : Int), .int ((flat L k).lev : Int)]) := fun k hk => s7 _ _ (et k hk)
        clear sa S4 s5 s6 s7 er esz et
        have m19 := hN.most
        have nlen : (nvs NL).length = m := by
          unfold nvs
          rw [List.length_map, hN.len]
        obtain ⟨x0, ex0⟩ : ∃ x0, x0 = nmS (nmAt NL 0) := ⟨_, rfl⟩
        have at0 : ∀ {H' : Hp}, H' nl = some (.lst (nvs NL)) → atI (nvs NL) 0 = some (.str x0) := fun _ => by
          rw [ex0]
          exact nvs_at hN (show 0 < m by omega)
        have lx0 : x0.length ≤ 8 := by
          rw [ex0]
          exact nm_len (hN.atLow (show 0 < m by omega))
        -- names_of
        refine ⟨_, rfl, NL, L, m, rfl, hN, hL, fun fr H8 s8 hfr efr => ?_⟩
        have enl8 := s8 _ _ sa7.nl
        refine ⟨_, rfl, neN NL hN.low efr enl8 ⟨false, rfl, iteF ?_⟩⟩
        have S8 := S7.trans s8
        have ell8 := s8 _ _ sa7.ll
        have esz8 := s8 _ _ esz7
        have erl8 := s8 _ _ erl
        have et8 : ∀ k, k ≤ m → H8 (t k) = some (.tup [.int ((flat L k).words.length : Int), .int ((flat L k).lev : Int)]) := fun k hk => s8 _ _ (et7 k hk)
        have rows8 : ∀ k, k ≤ m → RowAt H8 (v k) (flat L k).words := fun k hk => (rows k hk).same s8
        clear S7 sa7 esz7 erl et7 rows efr hfr s8
        obtain ⟨SX, eSX⟩ : ∃ SX, SX = srcT NL L m := ⟨_, rfl⟩
        show Ends.nx _ [some (.ref a), some (.int z), some (.ref b), some (.ref nl), some (.ref ll), some (.str (srcT NL L m)), some (.ref sz), some (.ref rl), z8, z9, z10, z11] _
        rw [← eSX]
        dsimp only
        refine seq_via (Good := fun σ H' => ∃ y8 y9, Same H8 H' ∧ σ = [some (.ref a), some (.int z), some (.ref b), some (.ref nl), some (.ref ll), some (.str SX), some (.ref sz), some (.ref rl), y8, y9, z10, z11]) (fun D' hD' => ?_) (fun σ H9 g => ?_)
        · refine ⟨_, rfl, ll, _, rfl, .inl (lstL ell8), _, rfl, by rw [refsV_len]; omega, by rw [refsV_len]; omega, ?_⟩
          rw [refsV_len]
          refine for_range (lo := 0) (n := m + 1) (fun i σ H' => ∃ y8 y9, Same H8 H' ∧ σ = [some (.ref a), some (.int z), some (.ref b), some (.ref nl), some (.ref ll), some (.str SX), some (.ref sz), some (.ref rl), y8, y9, z10, z11])
            ⟨_, _, fun _ _ e => e, rfl⟩ (fun k σ H9 hk p => ?_) fun σ H9 p => ?_
          · obtain ⟨y8, y9, s9, rfl⟩ := p
            have km : k ≤ m := by omega
            rw [Int.zero_add]
            have enl9 := s9 _ _ enl8
            have erl9 := s9 _ _ erl8
            have esz9 := s9 _ _ esz8
            have et9 := s9 _ _ (et8 k km)
            have vat : atI (valsV v (m + 1)) (k : Int) = some (v k) := atI_nat (valsV_get (by omega))
            have okp := hL.flat_ok k km
            obtain ⟨p0, ep0⟩ : ∃ p0, p0 = flat L k := ⟨_, rfl⟩
            have row9 := (rows8 k km).same s9
            rw [← ep0] at et9 okp row9
            show tSeq _ _ _ [some (.ref a), some (.int z), some (.ref b), some (.ref nl), some (.ref ll), some (.str SX), some (.ref sz), some (.ref rl), some (.int (k : Int)), y9, z10, z11] _
            refine seq_via (Good := fun σ H' => ∃ X0, Same H9 H' ∧ (p0.words.length ≤ 1000 → X0 = textOf p0.words) ∧ σ = [some (.ref a), some (.int z), some (.ref b), some (.ref nl), some (.ref ll), some (.str SX), some (.ref sz), some (.ref rl), some (.int (k : Int)), some (.str X0), z10, z11]) (fun D2 hD2 => ?_) (fun σ H10 g => ?_)
            · rcases row9 with ⟨ev, lg⟩ | ⟨ra, ev, era, few⟩
              · rw [ev] at vat
                refine ⟨⟨_, rfl⟩, _, rfl, _, rfl, rl, _, _, _, rfl, rfl, lstL erl9, vat, false, rfl, iteF ⟨by show 0 ≤ sizeLine; decide, fun q0 hq0 => ⟨_, q0, [], rfl, rfl, .inl (lstL upd_same), by decide, ?_⟩⟩⟩
                exact hD2 _ _ ⟨_, same_new hq0, fun z => by omega, rfl⟩
              · rw [ev] at vat
                refine ⟨⟨_, rfl⟩, _, rfl, _, rfl, rl, _, _, _, rfl, rfl, lstL erl9, vat, _, .inl ⟨_, lstL era, rfl⟩, ?_⟩
                have sums : ((p0.words.map Wd.str).map (·.length)).sum + (p0.words.map Wd.str).length * (" " : Str).length ≤ 16777216 := by
                  have h1 := lens_le (words_ok _ okp)
                  have h2 : (" " : Str).length = 1 := rfl
                  rw [List.length_map, h2]
                  omega
                by_cases hw : p0.words = []
                · rw [hw]
                  refine iteF ⟨by show 0 ≤ sizeLine; decide, fun q0 hq0 => ⟨_, q0, [], rfl, rfl, .inl (lstL upd_same), by decide, ?_⟩⟩
                  exact hD2 _ _ ⟨_, same_new hq0, fun _ => by rw [hw]; exact join_eq _ _, rfl⟩
                · have hb : (!(wstrs p0.words).isEmpty) = true := by
                    cases e : p0.words with
                    | nil => exact absurd e hw
                    | cons x l => rfl
                  rw [hb]
                  refine iteT ⟨_, ra, p0.words.map Wd.str, rfl, rfl, .inl (lstL (by rw [← wstrs_map]; exact era)), sums, ?_⟩
                  exact hD2 _ _ ⟨_, fun _ _ e => e, fun _ => join_eq _ _, rfl⟩
            obtain ⟨X0, s10, x0e, rfl⟩ := g
            have esz10 := s10 _ _ esz9
            have et10 := s10 _ _ et9
            have szat : atI (refsV t (m + 1)) (k : Int) = some (.ref (t k)) := atI_nat (refsV_get (by omega))
            refine seq_via (Good := fun σ H' => ∃ X0, Same H10 H' ∧ (p0.words.length ≤ 1000 → X0 = if 12 < p0.lev then ("TooDeep 12" : Str) else textOf p0.words) ∧ σ = [some (.ref a), some (.int z), some (.ref b), some (.ref nl), some (.ref ll), some (.str SX), some (.ref sz), some (.ref rl), some (.int (k : Int)), some (.str X0), z10, z11]) (fun D2 hD2 => ?_) (fun σ H11 g => ?_)
            · refine ⟨_, rfl, _, rfl, sz, _, _, _, rfl, rfl, lstL esz10, szat, t k, _, 1, _, rfl, rfl, tupT et10, atI_nat (j := 1) rfl, _, _, rfl, rfl, _, rfl, ite2 (fun e => ?_) (fun e => ?_)⟩
              · have e := of_decide_eq_true e
                exact hD2 _ _ ⟨_, fun _ _ e => e, fun _ => (if_pos (by omega)).symm, rfl⟩
              · have e : ¬ ((p0.lev : Int) > 12) := fun z => e (decide_eq_true z)
                exact hD2 _ _ ⟨_, fun _ _ e => e, fun h => by rw [if_neg (by omega)]; exact x0e h, rfl⟩
            obtain ⟨X1, s11, x1e, rfl⟩ := g
            have esz11 := s11 _ _ esz10
            have et11 := s11 _ _ et10
            refine seq_via (Good := fun σ H' => Same H11 H' ∧ σ = [some (.ref a), some (.int z), some (.ref b), some (.ref nl), some (.ref ll), some (.str SX), some (.ref sz), some (.ref rl), some (.int (k : Int)), some (.str (due p0)), z10, z11]) (fun D2 hD2 => ?_) (fun σ H12 g => ?_)
            · refine ⟨_, rfl, _, rfl, sz, _, _, _, rfl, rfl, lstL esz11, szat, t k, _, 0, _, rfl, rfl, tupT et11, atI_nat (j := 0) rfl, _, _, rfl, rfl, _, rfl, ite2 (fun e => ?_) (fun e => ?_)⟩
              · have e := of_decide_eq_true e
                have ed : due p0 = "TooLarge 1000" := if_pos (by omega)
                exact hD2 _ _ ⟨fun _ _ e => e, by rw [ed]; rfl⟩
              · have e : ¬ ((p0.words.length : Int) > 1000) := fun z => e (decide_eq_true z)
                have ed : due p0 = X1 := by
                  unfold due
                  rw [if_neg (by omega)]
                  exact (x1e (by omega)).symm
                exact hD2 _ _ ⟨fun _ _ e => e, by rw [ed]⟩
            obtain ⟨s12, rfl⟩ := g
            have S12 := s9.trans (s10.trans (s11.trans s12))
            have enl12 := S12 _ _ enl8
            have fin : ∀ {H13 : Hp}, Same H12 H13 → ∃ y8 y9, Same H8 H13 ∧ [some (V.ref a), some (.int z), some (.ref b), some (.ref nl), some (.ref ll), some (.str SX), some (.ref sz), some (.ref rl), some (.int (k : Int)), some (.str (due p0)), z10, z11] = [some (.ref a), some (.int z), some (.ref b), some (.ref nl), some (.ref ll), some (.str SX), some (.ref sz), some (.ref rl), y8, y9, z10, z11] := fun s => ⟨_, _, S12.trans s, rfl⟩
            have dd : ∀ X : Str, V.bl (!decide (V.str X = V.str X)) = V.bl false := fun X => congrArg (fun c => V.bl (!c)) (decide_eq_true rfl)
            refine ⟨_, rfl, _, rfl, _, rfl, nl, _, rfl, .inl (lstL enl12), _, _, rfl, rfl, _, rfl, ite2 (fun e => ?_) (fun e => ?_)⟩
            · have e := of_decide_eq_true e
              rw [nlen] at e
              have hk' : k < m := by omega
              refine ⟨_, rfl, _, rfl, nl, _, _, _, rfl, rfl, lstL enl12, nvs_at hN hk', NL, L, m, _, due p0, congrArg (fun z => [V.str z, V.str (nmS (nmAt NL k))]) eSX, hN, hL, ep0 ▸ AskR.name hk', fun H13 s13 => ⟨_, rfl, rfl, false, dd _, iteF (fin s13)⟩⟩
            · have e : ¬ ((k : Int) < ((nvs NL).length : Int)) := fun z => e (decide_eq_true z)
              rw [nlen] at e
              have hkm : k = m := by omega
              subst hkm
              refine ⟨NL, L, k, _, due p0, congrArg (fun z => [V.str z, V.non]) eSX, hN, hL, ep0 ▸ AskR.last, fun H13 s13 => ⟨_, rfl, rfl, false, dd _, iteF (fin s13)⟩⟩
          · obtain ⟨y8, y9, s9, rfl⟩ := p
            exact hD' _ _ ⟨y8, y9, s9, rfl⟩
        obtain ⟨y8, y9, s9, rfl⟩ := g
        have enl9 := s9 _ _ enl8
        refine ⟨_, _, rfl, rfl, mul_ok (by decide) (by decide) (by decide), _, rfl, nl, _, 0, _, rfl, rfl, lstL enl9, at0 enl9, _, _, rfl, rfl, by have : (":" : Str).length = 1 := rfl; omega, _, rfl, nl, _, 0, _, rfl, rfl, lstL enl9, at0 enl9, ⟨_, rfl⟩, _, rfl, rfl, by omega, _, rfl, nl, _, 0, _, rfl, rfl, lstL enl9, at0 enl9, 1, rfl, _, rfl, by omega, _, rfl, nl, _, 0, _, rfl, rfl, lstL enl9, at0 enl9, _, _, rfl, rfl, by have : (" " : Str).length = 1 := rfl; omega, fun dd hdd => ⟨by show 10 ≤ sizeLine; decide, fun sm hsm => ?_⟩⟩
        have sdd := same_new (o := .dT []) hdd
        obtain ⟨BL, eBL⟩ : ∃ BL : List V, BL = [.str "", .str (PySem.Txt.mul "zz" 2), .str "f", .str (x0 ++ (":" : Str)), .str (Txt.upper x0), .str (cutS x0 none (some 1)), .str ((" " : Str) ++ x0), .int 0, .bl true, .ref dd] := ⟨_, rfl⟩
        have blen : BL.length = 10 := by rw [eBL]; rfl
        have ssm := same_new (o := .lst BL) hsm
        have sd2 := sdd.trans ssm
        have edd := ssm _ _ (upd_same (H := H9) (a := dd) (o := .dT []))
        have esm : (upd (upd H9 dd (.dT [])) sm (.lst BL)) sm = some (.lst BL) := upd_same
        have bads : ∀ {H' : Hp}, Same (upd (upd H9 dd (.dT [])) sm (.lst BL)) H' → ∀ v ∈ BL, Bad H' x0 v := fun s v hv => by
          rw [eBL] at hv
          simp only [List.mem_cons, List.not_mem_nil, or_false] at hv
          rcases hv with rfl | rfl | rfl | rfl | rfl | rfl | rfl | rfl | rfl | rfl
          · exact .str _
          · exact .str _
          · exact .str _
          · exact .str _
          · exact .str _
          · exact .str _
          · exact .str _
          · exact .int _
          · exact .bl _
          · exact .dict (s _ _ edd)
        show Ends.nx _ [some (.ref a), some (.int z), some (.ref b), some (.ref nl), some (.ref ll), some (.str SX), some (.ref sz), some (.ref rl), y8, y9, some (.ref sm), z11] (upd (upd H9 dd (.dT [])) sm (.lst [.str "", .str (PySem.Txt.mul "zz" 2), .str "f", .str (x0 ++ (":" : Str)), .str (Txt.upper x0), .str (cutS x0 none (some 1)), .str ((" " : Str) ++ x0), .int 0, .bl true, .ref dd]))
        rw [← eBL]
        clear eBL
        generalize upd (upd H9 dd (.dT [])) sm (.lst BL) = H10 at sd2 esm bads ⊢
        have enl10 := sd2 _ _ enl9
        refine ⟨_, rfl, _, rfl, nl, _, 0, _, rfl, rfl, lstL enl10, at0 enl10, by show 1 ≤ sizeLine; decide, fun l1 hl1 => ⟨by show 1 ≤ sizeLine; decide, fun l2 hl2 => ?_⟩⟩
        have t1 := same_new (o := .lst [.str x0]) hl1
        have t2 := same_new (o := .lst [.ref l1]) hl2
        refine ⟨sm, l2, _, _, rfl, rfl, t2 _ _ (t1 _ _ esm), upd_same, by rw [blen]; show 11 ≤ _; omega, fun l3 hl3 => ?_⟩
        have t3 := same_new (o := .lst (BL ++ [.ref l1])) hl3
        have t13 := t1.trans (t2.trans t3)
        have el1 := (t2.trans t3) _ _ (upd_same (H := H10) (a := l1) (o := .lst [.str x0]))
        have el3 : (upd (upd (upd H10 l1 (.lst [.str x0])) l2 (.lst [.ref l1])) l3 (.lst (BL ++ [.ref l1]))) l3 = some (.lst (BL ++ [.ref l1])) := upd_same
        generalize upd (upd (upd H10 l1 (.lst [.str x0])) l2 (.lst [.ref l1])) l3 (.lst (BL ++ [.ref l1])) = H11 at t13 el1 el3 ⊢
        clear t1 t2 t3 hl1 hl2 hl3
        have enl11 := t13 _ _ enl10
        have bads11 : ∀ v ∈ BL ++ [V.ref l1], Bad H11 x0 v := fun v hv => by
          rcases List.mem_append.mp hv with hv | hv
          · exact bads t13 v hv
          · rw [List.mem_singleton.mp hv]
            exact .lst el1
        have S11 := S8.trans (s9.trans (sd2.trans t13))
        have dd : ∀ X : Str, V.bl (!decide (V.str X = V.str X)) = V.bl false := fun X => congrArg (fun c => V.bl (!c)) (decide_eq_true rfl)
        refine ⟨l3, rfl, ⟨_, lstL el3⟩, ?_⟩
        refine for_list (xs := BL ++ [V.ref l1]) (fun i σ H' => ∃ y11, Same H11 H' ∧ σ = [some (.ref a), some (.int z), some (.ref b), some (.ref nl), some (.ref ll), some (.str SX), some (.ref sz), some (.ref rl), y8, y9, some (.ref sm), y11])
          ⟨_, fun _ _ e => e, rfl⟩ (fun i σ H' hi hp => by obtain ⟨_, s, _⟩ := hp; exact lstL (s _ _ el3)) (fun i x σ H12 hx hp => ?_) fun σ H12 hp => ?_
        · obtain ⟨y11, s12, rfl⟩ := hp
          have enl12 := s12 _ _ enl11
          have bx := (bads11 x (List.mem_of_getElem? hx)).same s12
          have fin : ∀ {H13 : Hp}, Same H12 H13 → ∃ y11, Same H11 H13 ∧ ([some (V.ref a), some (.int z), some (.ref b), some (.ref nl), some (.ref ll), some (.str SX), some (.ref sz), some (.ref rl), y8, y9, some (.ref sm), some x] : L2.St) = [some (.ref a), some (.int z), some (.ref b), some (.ref nl), some (.ref ll), some (.str SX), some (.ref sz), some (.ref rl), y8, y9, some (.ref sm), y11] := fun s => ⟨_, s12.trans s, rfl⟩
          have told : ∀ {v : V}, AskR K H12 NL L m v "InvalidName" → AskR K H12 NL L m v "InvalidName" := fun h => h
          cases bx with
          | str s0 =>
            refine ⟨_, rfl, _, rfl, .inl ⟨nl, _, rfl, .inl (lstL enl12), rfl, nvs_flat NL, _, rfl, ?_⟩⟩
            rw [nvs_map, inV_strs]
            by_cases hin : s0 ∈ NL.map nmS
            · rw [decide_eq_true hin]
              exact iteF (fin fun _ _ e => e)
            · rw [decide_eq_false hin]
              refine iteT ⟨_, rfl, _, rfl, NL, L, m, _, "InvalidName", congrArg (fun z => [V.str z, V.str s0]) eSX, hN, hL, .text (fun k hk e => hin (by rw [e]; exact List.mem_map.mpr ⟨_, List.mem_of_getElem? (hN.at hk), rfl⟩)), fun H13 s13 => ⟨rfl, false, dd _, iteF (fin s13)⟩⟩
          | int i0 =>
            refine ⟨_, rfl, _, rfl, .inl ⟨nl, _, rfl, .inl (lstL enl12), rfl, nvs_flat NL, _, rfl, ?_⟩⟩
            rw [inV_int]
            exact iteT ⟨_, rfl, _, rfl, NL, L, m, _, "InvalidName", congrArg (fun z => [V.str z, V.int i0]) eSX, hN, hL, .other nofun ⟨_, fun _ _ => .base (.base (.int _)), kit_ty (by decide +kernel)⟩, fun H13 s13 => ⟨rfl, false, dd _, iteF (fin s13)⟩⟩
          | bl c0 =>
            refine ⟨_, rfl, _, rfl, .inl ⟨nl, _, rfl, .inl (lstL enl12), rfl, nvs_flat NL, _, rfl, ?_⟩⟩
            rw [inV_bl]
            exact iteT ⟨_, rfl, _, rfl, NL, L, m, _, "InvalidName", congrArg (fun z => [V.str z, V.bl c0]) eSX, hN, hL, .other nofun ⟨_, fun _ _ => .base (.base (.bl _)), kit_ty (by decide +kernel)⟩, fun H13 s13 => ⟨rfl, false, dd _, iteF (fin s13)⟩⟩
          | @dict a0 e0 =>
            refine ⟨_, rfl, _, rfl, .inr (.inr ⟨a0, nl, NL.map nmS, rfl, e0, rfl, lstL (by rw [← nvs_map]; exact enl12), true, rfl, ?_⟩)⟩
            exact iteT ⟨_, rfl, _, rfl, NL, L, m, _, "InvalidName", congrArg (fun z => [V.str z, V.ref a0]) eSX, hN, hL, .other nofun ⟨_, fun H' s' => (Dq.d0 (s' _ _ e0)).ty, kit_ty (by decide +kernel)⟩, fun H13 s13 => ⟨rfl, false, dd _, iteF (fin s13)⟩⟩
          | @lst a0 e0 =>
            have sh : SeqAt.shaped (.list [.str x0]) = true := by
              rw [ex0]
              exact shaped_S [nmAt NL 0] (fun l hl => by rw [List.mem_singleton.mp hl]; exact hN.atLow (by omega))
            refine ⟨_, rfl, _, rfl, .inr (.inl ⟨.list [.str x0], (NL.map nmS).map PyData.str, .lst e0 (.cons (.str _) .nil), .lst (lstL (by rw [← nvs_map]; exact enl12)) (dpS _), sh, shaped_S NL hN.low, _, rfl, ?_⟩)⟩
            rw [no_list]
            exact iteT ⟨_, rfl, _, rfl, NL, L, m, _, "InvalidName", congrArg (fun z => [V.str z, V.ref a0]) eSX, hN, hL, .other nofun ⟨_, fun H' s' => .base (.base (.lst (s' _ _ e0))), kit_ty (by decide +kernel)⟩, fun H13 s13 => ⟨rfl, false, dd _, iteF (fin s13)⟩⟩
        · obtain ⟨y11, s12, rfl⟩ := hp
          exact ⟨_, _, _, _, _, _, _, _, _, _, _, s1.trans (S11.trans s12), rfl⟩
      · obtain ⟨z1, z2, z3, z4, z5, z6, z7, z8, z9, z10, z11, s, rfl⟩ := hp
        exact hD _ _ ⟨z1, z2, z3, z4, z5, z6, z7, z8, z9, z10, z11, rfl⟩
    · obtain ⟨z1, z2, z3, z4, z5, z6, z7, z8, z9, z10, z11, rfl⟩ := g
      exact q _
end
end K09P

set_option Elab.async false
set_option linter.all false
set_option maxRecDepth 100000
set_option maxHeartbeats 0
open PySem PySem.W PySem.Calls PyProof.Rows
theorem PySem.Challenge.cw_plotpens_k09_routines_too_large_holds : PySem.Challenge.rw_plotpens_k09_routines_too_large.Holds := by
  w_on; o_law
  refine HandSHeadRun.head_any (r := OpenLaw.row PySem.Challenge.rw_plotpens_k09_routines_too_large) (q := view (OpenLaw.row PySem.Challenge.rw_plotpens_k09_routines_too_large).prog [94]) (H := K09.hk) (ob := K09.ob) (M := 12000) (loose := K09.names) (d := HandSHeadRun.topDef (OpenLaw.row PySem.Challenge.rw_plotpens_k09_routines_too_large).prog 94) (kwd := []) K09.ob_eq
    (by kernel_rfl) (fun s => by kernel_rfl) K09.run (by kernel_rfl) (by kernel_rfl) (by kernel_rfl) (by rfl) (by first | assumption | decide +kernel) (by decide +kernel) ⟨rfl, rfl, rfl, rfl, rfl, by decide +kernel⟩ ?hw ?hc
  case hw => w_witness2
  case hc =>
    refine RT.walk_ofG (l := PySem.Challenge.rw_plotpens_k09_routines_too_large) (n := 63) (k := 25) (x := "script") (CX := fun _ => L2.CX0) rfl (by decide) (by kernel_rfl) ⟨rfl, by decide, by decide⟩ ?F (fun _ _ _ _ _ z => z)
    intro w mg fa h Y G hmg0
    obtain ⟨K, KX, c⟩ := Y
    have hmg : mg ("law" : PySem.Str) = some (.ref fa) := by
      have e : (HandSHeadRun.topDef (OpenLaw.row PySem.Challenge.rw_plotpens_k09_routines_too_large).prog 94).name = ("law" : PySem.Str) := by kernel_rfl
      rw [← e]
      exact hmg0
    have T := K09.tx_of KX G c
    obtain ⟨D⟩ := K09.ds_of c
    have e := hmg.symm.trans T.g_law
    cases e
    have b := L2.FunD.bindsA (ps := ["script"]) D.F_law fun _ _ _ _ _ _ us hl => match us, hl with | [_], _ => rfl
    exact ⟨K, D.fd_law, K09P.spLaw K, KX, fun s v => b s [v] rfl, fun H a ns hl hb hS => ⟨a, ns, 1048576, rfl, hS, by decide, fun z hz => K09P.bits_pow (hb z hz), fun _ => rfl⟩, fun base _ _ => .of (K09P.ok_law D T)⟩
