import PyProof.Rows.All
import Wide.All
import OpenK.AllK
import Wide.FinOn
import HandS.ForMost
import HandS.Exc
import HandS.ExcCtx
import HandS.TryOnly
import HandS.ExcInit
import HandS.IsInst
import HandS.ExcIs
import HandS.ExcField
import HandS.SortKw
import HandS.FStr
import HandS.Wide
import KE.DataMinMax
import PyProof.StrBlock2
import PyProof.Rows.RuleB_pow
import HandS.SlotsOwn
import HandS.Property
import HandS.OwnEq
import KE.KOpsOwn
import OpenK.KOps
import HandS.WordsExc
import HandS.Defaults
import HandS.EndBits
import KE.KStateDown
import Lean
import HandS.Head0
import HandS.Head1
import HandS.Head2
import HandS.HeadEnd
import HandS.HeadHook1
import HandS.HeadHook2
import HandS.SetFor
import KE.KCallOwn
import PyProof.InstEq
import HandS.More
import HandS.HeadHook3
import HandS.StrMore
import HandS.Style
import HandS.Iter
import HandS.Comp
import HandS.TupAny
import HandS.Deep
import HandS.List
import HandS.ExcValue
import HandS.ExcOwn
import HandS.Rev
import HandS.Text
import PySem.Challenge.RW_plotpens_k04_operator_errors
set_option Elab.async false
set_option linter.all false
set_option maxRecDepth 100000
set_option maxHeartbeats 4000000
/-! a try whose clause keeps the exception: behind it the exception stands tracked -/
namespace RT
open PySem PySem.Spec PyProof.Rows L2 L2N
/-- an exception that was caught, at a: its class, its own dict -/
def ExT (a : Addr) (cls : Value) (d : Option Addr) : HO := .ext fun h => ∃ (oe : Obj) (vs : Array Value), h.get? a = some oe ∧ oe.cls = cls ∧ oe.dict = d ∧ oe.data = .fields vs
theorem exT_ok {P : Program} {w : World} {H : Hp} {h : Heap} {a : Addr} {cls : Value} {d : Option Addr} {oe : Obj} {vs : Array Value} (e : h.get? a = some oe) (z : oe.cls = cls) (z2 : oe.dict = d) (dd : oe.data = .fields vs) : ObjOk P w H h a (ExT a cls d) :=
  ⟨⟨oe, vs, e, z, z2, dd⟩, ⟨oe, e⟩, fun _ _ ⟨o, v, q, r⟩ k => ⟨o, v, k o q, r⟩⟩
section
variable {X : Cx} {pins : List (Addr × Obj)} {σ : L2.St} {H : Hp} {s : Shared}
theorem Inv.trackX {a : Addr} {o : HO} {oe : Obj} (I : Inv X pins σ H s) (he : s.heap.get? a = some oe) (hn : H a = none) (n0 : X.s_0.heap.get? a = none) (nL : a ≠ X.env.locals)
    (nC : ∀ x c, X.env.cells.lookup x = some c → c ≠ a) (nP : ∀ p ∈ X.pn ++ pins, p.1 ≠ a) (new : ObjOk X.prog X.w (upd H a o) s.heap a o) : Inv X pins σ (upd H a o) s := by
  have ne0 : ∀ b u, X.s_0.heap.get? b = some u → b ≠ a := fun b u e z => by
    rw [z, n0] at e
    cases e
  have neH : ∀ b u, H b = some u → b ≠ a := fun b u e z => by
    rw [z, hn] at e
    cases e
  refine ⟨I.ok, I.os, I.bare, ⟨I.base.keep, I.base.slot, fun b u e n hx => ?_, I.base.there, fun b xs e => ?_, fun b u xs e => ?_, fun b ps e => ?_⟩, I.loc, I.cell, ?_, fun x c e => ?_, fun p hp => ?_, fun b u e => ?_, I.len⟩
  · rw [upd_ne (ne0 b u e)]
    exact I.base.free b u e n hx
  · have q := I.base.tups b xs e
    rw [upd_ne (neH b _ q)]
    exact q
  · have q := I.base.frzs b u xs e
    rw [upd_ne (neH b _ q)]
    exact q
  · obtain ⟨m, q⟩ := I.base.tbls b ps e
    refine ⟨m, ?_⟩
    rw [upd_ne (neH b _ q)]
    exact q
  · rw [upd_ne (Ne.symm nL)]
    exact I.free
  · rw [upd_ne (nC x c e)]
    exact I.freeC x c e
  · obtain ⟨q1, q2, q3, q4, q5⟩ := I.pin p hp
    refine ⟨q1, ?_, q3, q4, q5⟩
    rw [upd_ne (nP p hp)]
    exact q2
  · by_cases hb : b = a
    · subst hb
      rw [upd_same] at e
      cases e
      exact new
    · rw [upd_ne hb] at e
      refine (I.hok b u e).stay (fun c v _ q => q) (fun c q => ?_) fun c xs q => ?_
      · rw [upd_ne (neH c _ q)]
        exact q
      · rw [upd_ne (neH c _ q)]
        exact q
end
/-- as wAs, but behind the suite the exception is tracked -/
def wAsT (K : PySem.W.Frag) (c : Value) (i : Nat) (ts : Addr → Value → Option Addr → TS) (Wout : WX) (D : Ends) : WX := fun cls d σ H =>
  ∃ b, PySem.W.exmOne K cls c = some b ∧ (b = true → ∀ a, H a = none → ts a cls d { nx := fun σ' H' => D.nx (σ'.set i none) (upd H' a (ExT a cls d)), rt := D.rt, bk := fun σ' H' => D.bk (σ'.set i none) H', ct := fun σ' H' => D.ct (σ'.set i none) H' } (σ.set i (some (.ref a))) H) ∧
    (b = false → Wout cls d σ H)
section
variable {X : Cx} {body : List Stmt} {pos pos' np : Pos} {tb : WX → TS} {Wout : WX} {i : Nat} {n x : Str} {c : Value} {b₀ : Stmt} {suite : List Stmt} {ts : Addr → Value → Option Addr → TS}
theorem ps_try_asT (hs : X.stack = X.env :: X.outer) (hf : X.env.frame = some X.env.locals) (hex : X.ex = []) (hN : X.N.Nodup) (hi : X.N[i]? = some n) (hln : X.env.kindOf n = some .local) (hc : Names X x c) (tk : L2N.Takes X Wout)
    (hb : ∀ (W : WX) (pn : List (Addr × Obj)) (xe : Value → Shared → Prop), L2N.Takes (X.tr pn xe) W → PassesOwn (model X.prog X.w) X.A X.env xe → PSs (X.tr pn xe) body (tb W))
    (hsu : ∀ (a : Addr) (oe : Obj) (cls : Value) (d : Option Addr) (pn : List (Addr × Obj)), Zn cls d oe → (∃ vs, oe.data = .fields vs) → PSs (X.suite a ((a, oe) :: pn)) (b₀ :: suite) (ts a cls d)) :
    PS X (.Try body [.ExceptHandler (some (.Name x np)) (some n) (b₀ :: suite) pos'] [] [] pos) (fun D σ H => tb (wAsT X.K c i ts Wout D) D σ H) := by
  refine ⟨fun pins s σ H D I h => ?_⟩
  have okX := I.ok
  have frEq : X.A.frames = some (X.env :: X.outer) := by rw [okX.frames, hs]
  have locN : Loc X.env.scope n := .inl hln
  refine wpAny_Try_except ?_
  refine wpAny_mono ((hb (wAsT X.K c i ts Wout D) (X.pn ++ pins) (fun e s₁ => wpAny (model X.prog X.w) X.A (noteFrame e X.env) (fun _ s₂ => wpAny (model X.prog X.w) X.A (setFlight e none) (fun _ s₃ =>
    wpAny (model X.prog X.w) X.A (handleBy e X.env [.ExceptHandler (some (.Name x np)) (some n) (b₀ :: suite) pos']) (SP X pins D) X.xe s₃) X.xe s₂) X.xe s₁) (fun u s' wish => ?_) PassesOwn.looking).run [] s σ H D (I.toTry _) h) (fun f s1 spq => ?_) (fun e s1 he => he)
  · -- the catch
    obtain ⟨a, B, sI, pins', σ', H', cls, d, rfl, J0, botB, up, airA, frA, osE, agE, b, exB, yesB, noB⟩ := wish
    have J : Inv X pins σ' H' sI := J0.ofTry okX
    have airB : Sky B (X.env :: X.outer) a (Zn cls d) X.env.locals s'.heap := by rw [← hs]; exact airA
    show wpAny (model X.prog X.w) X.A (noteFrame (.ref a) X.env) _ _ _
    refine Sky.land Zn.steady frEq hf airB fun hpA flyA growA => ?_
    have JA : Inv X pins σ' H' { s' with heap := hpA } := J.landed botB flyA.1 (up.trans growA) osE agE
    obtain ⟨oA, fvA, atA, znA, flA⟩ := flyA.there
    have noFrame : ∀ {h : Heap} {o : Obj} {vs : Array Value}, h.FunFrames B (X.env :: X.outer) → h.get? a = some o → o.data = .fields vs → a ∉ frs (X.env :: X.outer) := fun {h o vs} ff e dd hmm => by
      obtain ⟨_, o', e', hnf⟩ := ff.mem hmm
      rw [e] at e'; cases e'
      exact hnf _ dd
    have offFr := noFrame flyA.2.2.1 atA flA
    have nL : a ≠ X.env.locals := fun z => offFr (List.mem_filterMap.mpr ⟨X.env, List.mem_cons_self, by rw [hf, z]⟩)
    have nF : a ∉ X.fs := fun hmm => by
      obtain ⟨e, he, q⟩ := List.mem_filterMap.mp hmm
      exact offFr (List.mem_filterMap.mpr ⟨e, List.mem_cons_of_mem _ he, q⟩)
    have nI : ∀ o, sI.heap.get? a = some o → False := fun o e => by
      have q := botB a o e (by rw [hs]; exact offFr)
      rw [flyA.2.1] at q
      cases q
    have n0 : X.s_0.heap.get? a = none := by
      cases e : X.s_0.heap.get? a with
      | none => rfl
      | some o =>
        obtain ⟨o', e'⟩ := J.base.there a o e (by rw [hex]; exact fun z => nomatch z)
        exact (nI o' e').elim
    have nC : ∀ x c, X.env.cells.lookup x = some c → c ≠ a := fun x c e z => by
      obtain ⟨v, o, ho, _⟩ := J.cell x c e
      rw [z] at ho
      exact nI o ho
    have nP : ∀ p ∈ X.pn ++ pins, p.1 ≠ a := fun p hp z => by
      have q := (J.pin p hp).1
      rw [z] at q
      exact nI _ q
    have SA := JA.suite atA flA frA nL nF
    refine wpAny_handleBy_cons (codeAny_handlers_test ?_) (by intro q; cases q)
    have lookT : PySem.W.Looks (model X.prog X.w) hpA (typeOf (.ref a)) cls := fun A Q E s k q => wpAny_typeOf_ref (k _ _ atA) (by rw [znA.1]; exact q)
    have lookM := PySem.W.exm_one (M := model X.prog X.w) (JA.kIn) lookT exB
    have asks : ∀ {Q : Value → Shared → Prop} {E : Value → Shared → Prop}, Q c { s' with heap := hpA } → wpAny (model X.prog X.w) (X.A.mark (some (.ref a))) (eval (.Name x np) X.env) Q E { s' with heap := hpA } := fun {Q E} q => by
      obtain ⟨hg, hdbg, hmm | ⟨hmm, hv, hnn⟩⟩ := hc
      · exact ld_glob (X := X.suite a ((a, oA) :: (X.pn ++ pins))) SA hg hmm q hdbg
      · exact ld_blt (X := X.suite a ((a, oA) :: (X.pn ++ pins))) SA hg hmm hv q hnn hdbg
    refine asks (lookM.here ?_)
    cases b with
    | true =>
      refine codeAny_handlers_suite_as ?_
      refine HandSPX.lands_againZ flyA fun hpB flyB growB => ?_
      have JB : Inv X pins σ' H' { s' with heap := hpB } := J.landed botB flyB.1 ((up.trans growA).trans growB) osE agE
      obtain ⟨oB, fvB, atB, znB, flB⟩ := flyB.there
      have SB4 := JB.suite atB flB frA nL nF
      refine store_ok (X := X.suite a ((a, oB) :: (X.pn ++ pins))) (v := .ref a) SB4 hN hi locN rfl (fun sS SS => ?_) (.inr hln)
      refine wpAny_mono ((hsu a oB cls d (X.pn ++ pins) znB ⟨_, flB⟩).run [] sS _ H' _ SS (yesB rfl a frA)) (fun f sT spq => ?_) (fun _ _ z => False.elim z)
      have endO : ∀ {σT : L2.St} {HT : Hp} {Q : Shared → Prop}, Inv (X.suite a ((a, oB) :: (X.pn ++ pins))) [] σT HT sT → (∀ sU, Inv X pins (σT.set i none) HT sU → Q sU) →
          wpAny (model X.prog X.w) X.A (do bindName X.env n .none; unbindBehindTheSuite X.env n pos') (fun _ sU => Q sU) X.xe sT := fun {σT HT Q} ST hq => gone_ok (ST.unsuite okX) hN hi hln hq
      have endT : ∀ {σT : L2.St} {HT : Hp} {Q : Shared → Prop}, Inv (X.suite a ((a, oB) :: (X.pn ++ pins))) [] σT HT sT → (∀ sU, Inv X pins (σT.set i none) (upd HT a (ExT a cls d)) sU → Q sU) →
          wpAny (model X.prog X.w) X.A (do bindName X.env n .none; unbindBehindTheSuite X.env n pos') (fun _ sU => Q sU) X.xe sT := fun {σT HT Q} ST hq => by
        obtain ⟨p1, p2, _⟩ := ST.pin (a, oB) (List.mem_append_left _ List.mem_cons_self)
        refine gone_ok (Inv.trackX (ST.unsuite okX) p1 p2 n0 nL nC nP (exT_ok p1 znB.1 znB.2.1 flB)) hN hi hln hq
      cases f with
      | next =>
        obtain ⟨σT, HT, ST, qT⟩ := spq
        exact endT ST fun sU JU => ⟨_, _, JU, qT⟩
      | brk =>
        obtain ⟨σT, HT, ST, qT⟩ := spq
        exact endO ST fun sU JU => ⟨_, _, JU, qT⟩
      | cont =>
        obtain ⟨σT, HT, ST, qT⟩ := spq
        exact endO ST fun sU JU => ⟨_, _, JU, qT⟩
      | ret u =>
        obtain ⟨vT, σT, HT, ST, rT, qT⟩ := spq
        exact endO ST fun sU JU => ⟨_, _, _, JU, rT, qT⟩
    | false =>
      show wpAny _ X.A (handleBy (.ref a) X.env []) _ _ _
      refine wpAny_handleBy_nil ?_
      obtain ⟨k1, k2, k3, oe, vs, T, oT, ts', he, hz, hd, h1, hr⟩ := id flyA
      unfold PySem.passOn
      refine wpAny_bind (wpAny_field he hd h1 ?_)
      rw [if_neg (show ¬ ((Value.ref T == Value.none) = true) from by simp)]
      have outW : wpAny (model X.prog X.w) X.A (setFlight (.ref a) X.env.frame) (fun _ s4 => wpAny (model X.prog X.w) X.A (throw (.ref a) : Sem Flow) (SP X pins D) X.xe s4) X.xe { s' with heap := hpA } := by
        rw [hf]
        refine HandSPX.setFlight_upZ flyA fun hpB heldB growB => wpAny_throw (tk _ _ ?_)
        exact ⟨a, B, sI, pins, σ', H', cls, d, rfl, J, botB, (up.trans growA).trans growB, .inr (.inr (by rw [hs]; exact heldB)), frA, osE, agE, noB rfl⟩
      first
        | exact wpAny_bind (wpAny_pure (wpAny_bind outW))
        | exact wpAny_bind outW
  · cases f with
    | next =>
      obtain ⟨σ', H', J0, q⟩ := spq
      exact wpAny_execs_nil ⟨σ', H', J0.ofTry okX, q⟩
    | brk =>
      obtain ⟨σ', H', J0, q⟩ := spq
      exact ⟨σ', H', J0.ofTry okX, q⟩
    | cont =>
      obtain ⟨σ', H', J0, q⟩ := spq
      exact ⟨σ', H', J0.ofTry okX, q⟩
    | ret u =>
      obtain ⟨v, σ', H', J0, r, q⟩ := spq
      exact ⟨v, σ', H', J0.ofTry okX, r, q⟩
end
end RT

set_option Elab.async false
set_option linter.all false
set_option maxRecDepth 100000
set_option maxHeartbeats 4000000
/-! isinstance, fields of an exception that was caught and kept -/
namespace PySem.W
open PyProof.Rows
section
variable {prog : Program} {w : World} {A : Around} {E : Value → Shared → Prop} {s : Shared} {K : Frag} {x D : Addr} {ox : Obj} {od : Option Obj}
theorem kin_classX {Q : Option Value → Shared → Prop} (dGet : findIn K (.ref D) "__getattribute__" = some (some (.builtin "BaseException.__getattribute__"))) (dAlt : findIn K (.ref D) "__getattr__" = some none) (dSub : subIn K (.ref D) (.type "BaseException") = some true)
    (dDic : hasDictIn K D = true) (dCls : findIn K (.ref D) "__class__" = some (some (.builtin "object.__class__")))
    (dDes : specialIn K (.builtin "object.__class__") "__get__" = some (some (.builtin "getset_descriptor.__get__"))) (dTak : takesIn K (.builtin "object.__class__") = some true) (dMro : mroIn K D (.type "object") = some true)
    (X : K.In s.heap) (I : InstAt s.heap x ox D od) (h : Q (some (.ref D)) { s with toks := s.toks + 1 }) : wpAny (model prog w) A (getAttr? (.ref x) "__class__") Q E s := by
  have isC : (clsIn K D).isSome = true := by obtain ⟨cd, hc, _⟩ := any_some dDic; rw [hc]; rfl
  have found : findObj K D od "__class__" = some (.bind (.builtin "getset_descriptor.__get__") (.builtin "object.__class__")) := by
    cases od with
    | none => exact findObj_dataN isC dCls dDes dTak
    | some o => exact findObj_data isC dCls dDes dTak
  obtain ⟨hq0, g, d, t, os⟩ := s
  have k0 := I.type (M := model prog w)
  have k1 := looks_findIn (M := model prog w) X dGet
  have k2 := looks_findIn (M := model prog w) X dAlt
  have k3 := looks_find (M := model prog w) X I found
  have below : Looks (model prog w) hq0 (isInstance (.ref x) (.type "BaseException")) true := k0.andThen (looks_subIn X dSub)
  have z0 : (false && onTheHeap (Value.builtin "BaseException.__getattribute__")) = false := rfl
  have z2 : (Value.builtin "BaseException.__getattribute__" == Value.builtin "object.__getattribute__") = false := by decide +kernel
  have z1 : (onTheHeap (Value.ref D) && Value.builtin "BaseException.__getattribute__" == Value.builtin "object.__getattribute__") = false := by rw [z2]; rfl
  unfold getAttr? getAttrBy? getAttrBy
  refine wpAny_bind (wpAny_mkText (wpAny_bind (wpAny_attempt (wpAny_holding (wpAny_bind (k0.at (wpAny_bind (k1.at ?_))))))))
  show wpAny _ _ (if (onTheHeap (Value.ref D) && Value.builtin "BaseException.__getattribute__" == Value.builtin "object.__getattribute__") = true then _ else _) _ _ _
  rw [z1, if_neg Bool.false_ne_true]
  unfold getAttrByItsOwn hookBefore
  refine wpAny_bind ?_
  rw [if_pos (show onTheHeap (Value.ref D) = true from rfl)]
  refine k2.at ?_
  refine wpAny_bind (wpAny_attempt (wpAny_holding ?_))
  unfold callGetattribute
  rw [z0, if_neg Bool.false_ne_true]
  unfold boundAndCalled
  rw [PySem.F.excAttr_ValueError.ga.bind (.ref x)]
  refine wpAny_bind (wpAny_pure ?_)
  show wpAny _ _ (call (.builtin "BaseException.__getattribute__") [.ref x, .str "__class__" t]) _ _ _
  refine wpAny_call (codeAny_call_builtin PySem.F.excAttr_ValueError.ga.plain PySem.F.entry_bexc_ga ?_)
  refine @check_slot (model prog w) _ _ ⟨hq0, g, d, t + 1, os⟩ "BaseException.__getattribute__" "BaseException" "__getattribute__" (.ref x) [.str "__class__" t] [] _ (by decide +kernel) (by decide +kernel) below (PySem.F.args_bexc_ga (.ref x) (.str "__class__" t)) ?_
  unfold Builtin.«object.__getattribute__»
  refine wpAny_bind (wpAny_of_eq (a := ((Value.ref x : Value), [Value.str "__class__" t])) (by first | rfl | (simp only [slotArgs]; rfl)) ?_)
  refine wpAny_bind (wpAny_pure (wpAny_bind (k0.at (wpAny_bind (k3.at ?_)))))
  show wpAny _ _ (holding [Value.builtin "object.__class__"] (call (.builtin "getset_descriptor.__get__") [.builtin "object.__class__", .ref x, .ref D]) >>= ret) _ _ _
  refine wpAny_bind (wpAny_holding (wpAny_call (class_get (s := ⟨hq0, g, d, t + 1, os⟩) (ox := ox) (od := od) X I dMro ?_)))
  refine wpAny_pure ?_
  show wpAny _ _ (handedOut (.ref D)) _ _ _
  rw [handedOut_of (v := .ref D) rfl]
  first
    | exact wpAny_pure (wpAny_pure h)
    | exact wpAny_pure h
    | exact wpAny_pure (wpAny_bind (wpAny_pure (wpAny_pure h)))
theorem kitx_excX (dGet : findIn K (.ref D) "__getattribute__" = some (some (.builtin "BaseException.__getattribute__"))) (dAlt : findIn K (.ref D) "__getattr__" = some none) (dSub : subIn K (.ref D) (.type "BaseException") = some true) (dDic : hasDictIn K D = true) (dCls : findIn K (.ref D) "__class__" = some (some (.builtin "object.__class__")))
    (dDes : specialIn K (.builtin "object.__class__") "__get__" = some (some (.builtin "getset_descriptor.__get__"))) (dTak : takesIn K (.builtin "object.__class__") = some true) (dMro : mroIn K D (.type "object") = some true) :
    KitX K (.ref x) (.ref D) (fun h => InstAt h x ox D od) where
  ty := fun _ _ _ I => I.type
  it := fun _ _ X _ => by
    obtain ⟨cdx, hcx, _⟩ := any_some dDic
    unfold clsIn at hcx
    split at hcx
    · rename_i c1 d1 cd1 sl1 hob
      intro A1 Q1 E1 s1 k q
      unfold isType loadHead
      exact wpAny_bind (wpAny_loadPart (k _ _ (X _ _ hob)) (wpAny_pure q))
    · cases hcx
  ne := fun h tp dd its n sl X htup => by
    obtain ⟨cdx, hcx, _⟩ := any_some dDic
    refine Bool.eq_false_iff.mpr fun q => ?_
    have e : D = tp := Value.ref.inj (beq_iff_eq.mp q)
    subst e
    unfold clsIn at hcx
    split at hcx
    · rename_i c1 d1 cd1 sl1 hob
      have z := (X _ _ hob).symm.trans htup
      cases z
    · cases hcx
  ca := fun X I k => kin_classX dGet dAlt dSub dDic dCls dDes dTak dMro X I k
end
end PySem.W
namespace RT
open PySem PySem.Spec PyProof.Rows L2
/-- a value's type, exceptions that were kept too -/
inductive TyY (K : PySem.W.Frag) (H : Hp) : V → Value → Prop where
  | base {x : V} {t : Value} (h : TyX K H x t) : TyY K H x t
  | exc0 {a D : Addr} (e : H a = some (ExT a (.ref D) none)) (c : ExcC K D) : TyY K H (.ref a) (.ref D)
  | exc1 {a D dd : Addr} {fs : List (Str × V)} (e : H a = some (ExT a (.ref D) (some dd))) (e2 : H dd = some (.xd fs)) (c : ExcC K D) : TyY K H (.ref a) (.ref D)
theorem exT_get {P : Program} {w : World} {H : Hp} {h : Heap} {a : Addr} {cls : Value} {d : Option Addr} (I : HOk P w H h) (e : H a = some (ExT a cls d)) : ∃ (oe : Obj) (vs : Array Value), h.get? a = some oe ∧ oe.cls = cls ∧ oe.dict = d ∧ oe.data = .fields vs := (I a _ e).1
section
variable {X : Cx} {pins : List (Addr × Obj)} {σ : L2.St} {H : Hp} {s : Shared}
theorem inst_of {a D : Addr} {d : Option Addr} {od : Option Obj} (I : Inv X pins σ H s) (e : H a = some (ExT a (.ref D) d)) (h : match d, od with | none, none => True | some dd, some o => s.heap.get? dd = some o | _, _ => False) : ∃ oe vs, PySem.W.InstAt s.heap a oe D od ∧ oe.data = .fields vs := by
  obtain ⟨oe, vs, he, h1, h2, h3⟩ := exT_get I.hok e
  refine ⟨oe, vs, ⟨he, h1, by unfold PySem.W.notCls; rw [h3] <;> rfl, ?_⟩, h3⟩
  rw [h2]
  cases d with
  | none =>
    cases od with
    | none => trivial
    | some o => exact h
  | some dd =>
    cases od with
    | none => exact h
    | some o => exact h
theorem kit_ofY {x : V} {u t : Value} (I : Inv X pins σ H s) (rx : RelV x u) (ty : TyY X.K H x t) : ∃ P : Heap → Prop, PySem.W.KitX X.K u t P ∧ P s.heap ∧ u ≠ .builtin "__main__.__loader__#opaque" := by
  cases ty with
  | base h => exact kit_of I rx h
  | @exc0 a D e c =>
    cases (show u = Value.ref a from rx)
    obtain ⟨oe, vs, J, _⟩ := inst_of (od := none) I e trivial
    exact ⟨_, PySem.W.kitx_excX c.hg c.hk c.hs c.hd c.ha c.hn c.ht c.hm, J, fun z => nomatch z⟩
  | @exc1 a D dd fs e e2 c =>
    cases (show u = Value.ref a from rx)
    obtain ⟨mA, hns, hr⟩ := (show ObjOk X.prog X.w H s.heap dd (.xd fs) from I.hok dd _ e2)
    obtain ⟨od, ho, _⟩ := lookIn_ns hns
    obtain ⟨oe, vs, J, _⟩ := inst_of (od := some od) I e ho
    exact ⟨_, PySem.W.kitx_excX c.hg c.hk c.hs c.hd c.ha c.hn c.ht c.hm, J, fun z => nomatch z⟩
/-- isinstance(x, c); isinstance(x, (c1, c2, ..)) -/
def rIsiY (K : PySem.W.Frag) : List V → Hp → VK → Prop := fun xs H Q => ∃ (x c : V) (t u : Value) (b : Bool), xs = [x, c] ∧ ClsV c u ∧ TyY K H x t ∧ PySem.W.kitOne K t u = some b ∧ Q (.bl b) H
def rIsiTY (K : PySem.W.Frag) : List V → Hp → VK → Prop := fun xs H Q => ∃ (x : V) (tp : Addr) (cs : List V) (t : Value) (us : List Value) (b : Bool), xs = [x, .ref tp] ∧ H tp = some (.tup cs) ∧ Paired ClsV cs us ∧ TyY K H x t ∧ PySem.W.kitAny K t us = some b ∧ Q (.bl b) H
theorem vals2' {x y : V} {us : List Value} (r : Vals [x, y] us) : ∃ u v, us = [u, v] ∧ RelV x u ∧ RelV y v := Vals.two r
theorem call_isiY : CallR X (.builtin "isinstance") (rIsiY X.K) := by
  intro pins s σ H xs us Q I r h
  obtain ⟨x, c, t, u, b, rfl, k, ty, e, q⟩ := h
  obtain ⟨u1, u2, rfl, r1, r2⟩ := vals2' r
  have e2 := k.eq r2
  subst e2
  obtain ⟨P, Z, p, hx⟩ := kit_ofY I r1 ty
  exact PySem.W.kia_one Z I.kIn p e hx fun tk => ⟨.bl b, H, I.tok tk, rfl, q⟩
theorem call_isiTY : CallR X (.builtin "isinstance") (rIsiTY X.K) := by
  intro pins s σ H xs us Q I r h
  obtain ⟨x, tp, cs, t, ws, b, rfl, hT, k, ty, e, q⟩ := h
  obtain ⟨u1, u2, rfl, r1, r2⟩ := vals2' r
  cases (show u2 = Value.ref tp from r2)
  obtain ⟨P, Z, p, hx⟩ := kit_ofY I r1 ty
  obtain ⟨_, its, rv, o, h1, h2, n, h3⟩ := (show ObjOk X.prog X.w H s.heap tp (.tup cs) from I.hok tp _ hT)
  have e3 := ClsV.all k rv
  subst e3
  obtain ⟨oc, od, dt, sl⟩ := o
  simp only at h2 h3
  subst h2 h3
  exact PySem.W.kia_tup Z I.kIn p h1 e hx fun tk => ⟨.bl b, H, I.tok tk, rfl, q⟩
/-- e.f of a kept exception -/
def tXfT (K : PySem.W.Frag) (f : Str) (te : TE) : TE := fun σ H Q => te σ H fun x H1 => ∃ (a C dd : Addr) (fs : List (Str × V)) (v : V), x = .ref a ∧ XfC K C ∧ PySem.W.findIn K (.ref C) f = some none ∧ H1 a = some (ExT a (.ref C) (some dd)) ∧ H1 dd = some (.xd fs) ∧ fs.lookup f = some v ∧ Q v H1
theorem pe_xfT {e : Expr} {te : TE} {pos : Pos} {n : Str} (he : PE X e te) (hb : attributeBase e n X.env (eval e X.env) = eval e X.env := by rfl) : PE X (.Attribute e n pos) (tXfT X.K n te) := by
  refine ⟨fun pins s σ H Q I h => ?_⟩
  refine attr_of hb (thn (he.run pins s σ H _ I h) fun u s1 hh => ?_)
  obtain ⟨x, H1, I1, rx, a, C, dd, fs, v, ex, T, hno, ea, ed, l, q⟩ := hh
  subst ex
  obtain rfl : u = Value.ref a := rx
  obtain ⟨mA, hns, hr⟩ := (show ObjOk X.prog X.w H1 s1.heap dd (.xd fs) from I1.hok dd _ ed)
  obtain ⟨od, ho, hl⟩ := lookIn_ns hns
  obtain ⟨u, hu, ru⟩ := RelO.some_of (v := v) (o := mA n) (by rw [← l]; exact hr n)
  obtain ⟨oe, vs, J, _⟩ := inst_of (od := some od) I1 ea ho
  exact HandSPX.exc_get I1.kIn J T.ga T.gg T.exC (PySem.W.findObj_own T.hdC hno rfl (by rw [hl, hu])) (handed_of ru) ⟨v, H1, I1.tok _, ru, q⟩
end
end RT

set_option Elab.async false
set_option linter.all false
set_option maxRecDepth 100000
set_option maxHeartbeats 4000000
namespace RT
open PySem PySem.Spec PyProof.Rows L2
section
variable {X : Cx} {e : Expr} {es : List Expr} {ta : TA} {p1 p2 pos : Pos}
/-- Base.__init__(self, ..), Base an own class over ValueError without an __init__ -/
theorem pe_ceinit {pl : Sem Bool} {x : Str} {C0 : Addr} {mc : Value} (hg : Gl X x) (hm : X.mg x = some (.ref C0)) (ga : PySem.W.specialIn X.K (.ref C0) "__getattribute__" = some (some (.builtin "type.__getattribute__")))
    (ty : PySem.W.typeIn X.K (.ref C0) = some mc) (hr : PySem.W.readsIn X.K C0 mc = true) (vV : PySem.W.findCls X.K (.ref C0) mc "__init__" = some (.val (.builtin "ValueError.__init__"))) (ha : PA X (e :: es) ta)
    (hc : eval (.Call (.Attribute (.Name x p1) "__init__" p2) (e :: es) [] pos) X.env = (do
      let ov ← eval (.Name x p1) X.env
      standAt p2.atName
      let (f, first) ← holding [ov] (getMethod ov "__init__" pl)
      callWith pos f first (backTo pos (starEach (e :: es) X.env)) (backToKw pos (keywordEach [] X.env))) := by rfl)
    (he : starEach (e :: es) X.env = (false, eval e X.env) :: starEach es X.env := by rfl) (hpl : (backTo pos (starEach es X.env)).any (·.1) = false := by rfl) (hdb : (x == ("__debug__" : Str)) = false := by decide) :
    PE X (.Call (.Attribute (.Name x p1) "__init__" p2) (e :: es) [] pos) (tVeI X.K ta) := by
  refine ⟨fun pins s σ H Q I h => ?_⟩
  refine PySem.W.methodCall_KW (ld_glob I hg hm ?_ hdb) hc
  obtain ⟨m, fr⟩ := I.fr
  refine PySem.W.method_of_cls fr I.ok.mod.kin ga (PySem.W.cls_val fr I.ok.mod.kin ty hr vV (by decide +kernel) ?_)
  show wpAny _ _ (callWith pos (Value.builtin "ValueError.__init__") [] (backTo pos (starEach (e :: es) X.env)) []) _ _ _
  refine PyProof.Rows.callWith_method1 (thn (ha.run pos pins _ σ H _ (I.tok _) h) fun us s1 ⟨vs, H1, I1, r1, a, C, ws, ev, hl, T, ea, q⟩ => ?_) he hpl
  subst ev
  cases r1 with
  | @cons _ u0 _ ur ra rw' =>
    obtain rfl : u0 = Value.ref a := ra
    have hlen : ur.length ≤ sizeLine := by
      rw [← Paired.length rw', sizeLine_eq]
      omega
    exact oinit_ok T I1 ea hlen fun s' J => ⟨.non, H1, J, rfl, q⟩
end
end RT

set_option Elab.async false
set_option linter.all false
set_option maxRecDepth 100000
set_option maxHeartbeats 4000000
/-! further rules: repr of an int or None, {x} of None, max(.., default=), powers of greater ints, s * n -/
namespace RT
open PySem PySem.Spec PyProof.Rows L2
section
variable {X : Cx}
theorem vals1' {x : V} {us : List Value} (r : Vals [x] us) : ∃ u, us = [u] ∧ RelV x u := Vals.one r
/-- repr(n), repr(None) -/
def rRepr0 : List V → Hp → VK → Prop := fun xs H Q => (∃ i, xs = [.int i] ∧ i.natAbs.log2 < 1920 ∧ Q (.str (toString i)) H) ∨ (xs = [.non] ∧ Q (.str "None") H)
theorem call_repr0 : CallR X (.builtin "repr") rRepr0 := by
  intro pins s σ H xs us Q I r h
  rcases h with ⟨i, rfl, hz, q⟩ | ⟨rfl, q⟩
  · obtain ⟨u, rfl, t, rfl⟩ := vals1' r
    exact PySem.P.repr_of_int hz ⟨.str _, H, I.tok _, ⟨_, rfl⟩, q⟩
  · obtain ⟨u, rfl, e⟩ := vals1' r
    obtain rfl : u = Value.none := e
    exact PySem.P.repr_of_none ⟨.str _, H, I.tok _, ⟨_, rfl⟩, q⟩
/-- {x}: a text, an int, None -/
def tFmt0 (te : TE) : TE := fun σ H Q => te σ H fun x H1 => (∃ y : Str, x = .str y ∧ y.length ≤ sizeLine ∧ Q (.str y) H1) ∨ (∃ i : Int, x = .int i ∧ i.natAbs.log2 < 1920 ∧ Q (.str (toString i)) H1) ∨ (x = .non ∧ Q (.str "None") H1)
theorem pe_fmt0 {e : Expr} {te : TE} {pos : Pos} (he : PE X e te) : PE X (.FormattedValue e (-1) none pos) (tFmt0 te) := by
  refine ⟨fun pins s σ H Q I h => ?_⟩
  refine wpAny_FormattedValue_plain (thn (he.run pins s σ H _ I h) fun v s1 hv => ?_)
  obtain ⟨x, H1, I1, r1, q⟩ := hv
  rcases q with ⟨y, rfl, hz, q⟩ | ⟨i, rfl, hz, q⟩ | ⟨rfl, q⟩
  · obtain ⟨t, rfl⟩ := r1
    exact wpAny_formatField_str ⟨.str y, H1, I1, ⟨t, rfl⟩, q⟩ ⟨.str y, H1, I1.tok _, ⟨_, rfl⟩, q⟩ hz
  · obtain ⟨t, rfl⟩ := r1
    exact wpAny_formatField_int hz ⟨.str (toString i), H1, I1.tok _, ⟨_, rfl⟩, q⟩
  · obtain rfl : v = Value.none := r1
    exact wpAny_formatField_none ⟨.str _, H1, I1.tok _, ⟨_, rfl⟩, q⟩
/-- max(xs, default=d) of ints -/
def maxI (d : Int) : List Int → Int
  | [] => d
  | n :: ns => ns.foldl max n
def rMaxD (K : PySem.W.Frag) : List V → List V → Hp → VK → Prop := fun xs zs H Q => ∃ (a : Addr) (ns : List Int) (d : Int), xs = [.ref a] ∧ zs = [.int d] ∧ SqL K H a (ns.map V.int) ∧ Q (.int (maxI d ns)) H
theorem alike_ints (ns : List Int) : PySem.W.AlikeAll (ns.map PyData.int) := by
  refine ⟨fun x hx y hy => ?_, fun x hx => ?_⟩
  · obtain ⟨i, _, rfl⟩ := List.mem_map.mp hx
    obtain ⟨j, _, rfl⟩ := List.mem_map.mp hy
    rfl
  · obtain ⟨i, _, rfl⟩ := List.mem_map.mp hx
    exact fun z => nomatch z
theorem depth_ints : ∀ ns : List Int, PyData.depthAll (ns.map PyData.int) ≤ 1
  | [] => by simp [PyData.depthAll]
  | n :: ns => by
    have h := depth_ints ns
    simp only [List.map_cons, PyData.depthAll, PyData.depth]
    omega
theorem crk_maxD (hc : X.calm = true) (hu : X.A.units + 64 < cLine) : CallRK X (.builtin "max") ["default"] (rMaxD X.K) := by
  intro pins s σ H xs zs us ws Q I rx rz h
  obtain ⟨a, ns, d, rfl, rfl, hs, q⟩ := h
  obtain ⟨u, rfl, e⟩ := vals1' rx
  obtain rfl : u = Value.ref a := e
  obtain ⟨z, rfl, t, rfl⟩ := vals1' rz
  obtain ⟨its, rv, hl0, _⟩ := I.list hs
  have hl := hl0.isList
  have hr := PySem.W.readsAll_of_ints (h := s.heap) rv.ints
  have hd := depth_ints ns
  refine PySem.W.max_list_default (I.ok.hd hc) hl (by simpa using hr) (alike_ints ns) (by omega) (fun e0 h' tk k => ?_) fun y ys i v h' tk bs e hv hR k => ?_
  · have en : ns = [] := List.map_eq_nil_iff.mp e0
    subst en
    exact ⟨.int d, H, I.kept k, ⟨_, rfl⟩, q⟩
  · cases ns with
    | nil => cases e
    | cons n ns =>
      obtain ⟨rfl, rfl⟩ := List.cons.inj e
      rw [PySem.W.maxD_ints] at hR
      cases hR
      exact ⟨.int _, H, I.kept k, ⟨_, rfl⟩, q⟩
/-- a ** b of greater ints -/
def CPowW (i j : Int) : Prop := 0 ≤ j ∧ (Builtin.Int.intBits i : Int) * j ≤ 2 ^ 27
theorem op_powW : OpR X (binaryOp .Pow) (rI CPowW fun i j => .int (i ^ j.toNat)) := opI fun _ _ _ _ _ _ _ hc q => PyProof.Rows.pow_int hc.1 hc.2 q
/-- s * n -/
def rMulS : R2 := fun x y H Q => ∃ z n, x = .str z ∧ y = .int n ∧ PySem.MulOk z n ∧ Q (.str (PySem.Txt.mul z n)) H
theorem op_mulS : OpR X (binaryOp .Mult) rMulS := by
  intro pins s σ H x y v u Q I rx ry h
  obtain ⟨z, n, rfl, rfl, ok, q⟩ := h
  obtain ⟨t, rfl⟩ := rx
  obtain ⟨t', rfl⟩ := ry
  exact SB.mul ok fun t2 k => ⟨.str _, H, I.tok k, ⟨_, rfl⟩, q⟩
end
end RT

set_option Elab.async false
set_option linter.all false
set_option maxRecDepth 100000
set_option maxHeartbeats 4000000
/-! operators, len, in, == by an own class's methods -/
namespace PySem.W
open Lean Elab Tactic Meta PySem PySem.Calls PyProof.Rows
section
variable {prog : Program} {w : World} {A : Around} {E : Value → Shared → Prop} {s : Shared} {K : Frag} {x C L f : Addr} {h₀ : Heap} {m : Str → Option Value} {ox : Obj} {od : Option Obj} {T : String}
theorem rt_binT {op : Operator} {b : Value} {fo ro rc : Option Value} {Q : Value → Shared → Prop} (F : Fr h₀ L s.heap m) (X₀ : K.In h₀) (I : InstAt s.heap x ox C od) (bT : Looks (model prog w) s.heap (typeOf b) (.type T)) (cF : selfFirst K C = true)
    (sF : findIn K (.ref C) (PySem.dunder op.info.2) = some (some (.ref f))) (fF : isFn K (.ref f) = true) (rF : findIn K (.ref C) (dunderR op.info.2) = some rc) (pF : rc = none ∨ ∃ g : Addr, rc = some (.ref g))
    (h1 : findIn K (.type T) (PySem.dunder op.info.2) = some fo) (h2 : findIn K (.type T) (dunderR op.info.2) = some ro) (uF : subIn K (.type T) (.ref C) = some false)
    (h : wpAny (model prog w) A (call (.ref f) [.ref x, b]) (CmpBack Q) E s) : wpAny (model prog w) A (binaryOp op (.ref x) b) Q E s := by
  have X := X₀.keeps F.keep
  obtain ⟨cdx, more, cdE, mroE⟩ := ksp_first cF
  rcases inf : op.info with ⟨sym, nm1⟩
  rw [inf] at sF rF h1 h2
  dsimp only at sF rF h1 h2
  have tried := ksp_try X I sF fF h
  obtain ⟨hp0, g, d, tk0, os⟩ := s
  have k1 : Looks (model prog w) hp0 (typeOf (.ref x)) (.ref C) := I.type
  have k2 : Looks (model prog w) hp0 (typeOf b) (.type T) := bT
  have k3 : Looks (model prog w) hp0 (fillsNumberSlot (.ref C) nm1) true := fills_K X cdE mroE sF
  have k4 : Looks (model prog w) hp0 (fillsNumberSlot (.type T) nm1) ((fo.isSome && !isSeqSlot fo) || (ro.isSome && !isSeqSlot ro)) := ksp_fillsT X h1 h2
  have k5 : Looks (model prog w) hp0 (isSubtype (.type T) (.ref C)) false := looks_subIn X uF
  have k6 : Looks (model prog w) hp0 (numberSlotInPython (.ref C) nm1) true := ksp_inPy X sF rF pF
  have k7 : Looks (model prog w) hp0 (numberSlotInPython (.type T) nm1) false := Looks.of_pure rfl
  have k8 : Looks (model prog w) hp0 (typeLookup (.type T) (dunderR nm1)) ro := looks_findIn X h2
  generalize ((fo.isSome && !isSeqSlot fo) || (ro.isSome && !isSeqSlot ro)) = side at k4
  have apart : (Value.ref C == Value.type T) = false := Bool.eq_false_iff.mpr fun q => by cases beq_iff_eq.mp q
  simp only [binaryOp, inf]
  refine wpAny_holding (wpAny_bind ?_)
  unfold binaryOp1
  refine wpAny_bind (k1.at (wpAny_bind (k2.at (wpAny_bind (k3.at ?_)))))
  simp only [apart, Bool.false_eq_true, if_false]
  cases side with
  | false =>
    ksp_lk
    refine wpAny_mono tried (fun r s' hrr => ?_) fun _ _ e => e
    obtain ⟨v, rfl, hqq⟩ := hrr
    ksp_lk
    exact hqq
  | true =>
    ksp_lk
    refine wpAny_mono tried (fun r s' hrr => ?_) fun _ _ e => e
    obtain ⟨v, rfl, hqq⟩ := hrr
    ksp_lk
    exact hqq
end
end PySem.W
namespace RT
open PySem PySem.Spec PyProof.Rows L2
section
variable {X : Cx} {CX : CXT} {k : Nat} {C f : Addr} {fd : FuncData} {ps : List Str} {sp : Sp} {E : XK}
/-- what is asked of an own operator's class beside its method, for a right operand of a built-in type -/
structure RightT (K : PySem.W.Frag) (C : Addr) (op : Operator) (T : String) : Prop where
  r0 : PySem.W.findIn K (.ref C) (dunderR op.info.2) = some none
  t1 : ∃ fo, PySem.W.findIn K (.type T) (PySem.dunder op.info.2) = some fo
  t2 : ∃ ro, PySem.W.findIn K (.type T) (dunderR op.info.2) = some ro
  sb : PySem.W.subIn K (.type T) (.ref C) = some false
/-- x op y, x an instance of the class at C, y one too, or of a built-in type -/
def rBinO (K : PySem.W.Frag) (C : Addr) (op : Operator) (sp : Sp) (E : XK) : R2 := fun x y H Q => ∃ a dx fs, x = .ref a ∧ H a = some (.ins C dx fs) ∧ ((∃ b dy gs, y = .ref b ∧ H b = some (.ins C dy gs)) ∨ ∃ T, TyY K H y (.type T) ∧ RightT K C op T) ∧ sp [x, y] H Q E
theorem op_binO {op : Operator} (hc : PySem.W.selfFirst X.K C = true) (hm : Meth X.K C (PySem.dunder op.info.2) f) (F : FnOk X.prog X.w X.K X.mg X.base CX k f fd ps sp) (hr : Room k X.A) (hb : Binds X.K fd ps []) (hx : Passes CX X E) : OpR X (binaryOp op) (rBinO X.K C op sp E) := by
  intro pins s σ H x y v u Q I rx ry h
  obtain ⟨a, dx, fs, rfl, ea, ty, q⟩ := h
  cases (show v = Value.ref a from rx)
  obtain ⟨mA, O, _⟩ := ins_get I.hok ea
  obtain ⟨od, J, _⟩ := O.look
  obtain ⟨m, hF⟩ := I.fr
  have go : wpAny (model X.prog X.w) X.A (call (.ref f) [.ref a, u]) (PySem.W.CmpBack (EP X pins σ Q)) X.xe s := by
    refine wpAny_mono (run_fn (ds := []) (dvs := []) F hr hb .nil hx I (vs := [.ref a, y]) (.cons rfl (.cons ry .nil)) q) (fun w s' z => ?_) fun _ _ x => x
    obtain ⟨z', H', I', rz, qz⟩ := z
    exact SlX.cmpback rz ⟨z', H', I', rz, qz⟩
  rcases ty with ⟨b, dy, gs, rfl, eb⟩ | ⟨T, ty, R⟩
  · cases (show u = Value.ref b from ry)
    obtain ⟨mB, O', _⟩ := ins_get I.hok eb
    obtain ⟨od', J', _⟩ := O'.look
    exact PySem.W.binop_K hF I.ok.mod.kin J J'.type hc hm.at_ hm.fn go
  · obtain ⟨P, Z, p, _⟩ := kit_ofY I ry ty
    obtain ⟨fo, t1⟩ := R.t1
    obtain ⟨ro, t2⟩ := R.t2
    exact PySem.W.rt_binT hF I.ok.mod.kin J (Z.ty _ _ I.kIn p) hc hm.at_ hm.fn R.r0 (.inl rfl) t1 t2 R.sb go
/-- -x, ~x -/
def rUnO (C : Addr) (sp : Sp) (E : XK) : V → Hp → VK → Prop := fun x H Q => ∃ a dx fs, x = .ref a ∧ H a = some (.ins C dx fs) ∧ sp [x] H Q E
theorem un_negO (hm : Meth X.K C "__neg__" f) (F : FnOk X.prog X.w X.K X.mg X.base CX k f fd ps sp) (hr : Room k X.A) (hb : Binds X.K fd ps []) (hx : Passes CX X E) : UnR X (unaryOp .USub) (rUnO C sp E) := by
  intro pins s σ H x v Q I rx h
  obtain ⟨a, dx, fs, rfl, ea, q⟩ := h
  cases (show v = Value.ref a from rx)
  obtain ⟨mA, O, _⟩ := ins_get I.hok ea
  obtain ⟨od, J, _⟩ := O.look
  obtain ⟨m, hF⟩ := I.fr
  exact PySem.W.ksp_neg hF I.ok.mod.kin J hm.at_ hm.fn (run_fn (ds := []) (dvs := []) F hr hb .nil hx I (vs := [.ref a]) (.cons rfl .nil) q)
theorem un_invO (hm : Meth X.K C "__invert__" f) (F : FnOk X.prog X.w X.K X.mg X.base CX k f fd ps sp) (hr : Room k X.A) (hb : Binds X.K fd ps []) (hx : Passes CX X E) : UnR X (unaryOp .Invert) (rUnO C sp E) := by
  intro pins s σ H x v Q I rx h
  obtain ⟨a, dx, fs, rfl, ea, q⟩ := h
  cases (show v = Value.ref a from rx)
  obtain ⟨mA, O, _⟩ := ins_get I.hok ea
  obtain ⟨od, J, _⟩ := O.look
  obtain ⟨m, hF⟩ := I.fr
  exact PySem.W.ksp_inv hF I.ok.mod.kin J hm.at_ hm.fn (run_fn (ds := []) (dvs := []) F hr hb .nil hx I (vs := [.ref a]) (.cons rfl .nil) q)
/-- x == y by x's own __eq__, y of any kind that does not go first -/
def rEqO (K : PySem.W.Frag) (C : Addr) (sp : Sp) (E : XK) : R2 := fun x y H Q => ∃ a dx fs t, x = .ref a ∧ H a = some (.ins C dx fs) ∧ ((∃ b dy gs, y = .ref b ∧ H b = some (.ins C dy gs) ∧ t = .ref C) ∨ TyY K H y t) ∧ PySem.W.notFirst K C t = true ∧ sp [x, y] H Q E
theorem op_eqO {op : CmpOp} (hop : ∀ a b, compareOp op a b = richCompare op a b) (hm : Meth X.K C (cmpInfo op).2.1 f) (F : FnOk X.prog X.w X.K X.mg X.base CX k f fd ps sp) (hr : Room k X.A) (hb : Binds X.K fd ps []) (hx : Passes CX X E) :
    OpR X (compareOp op) (rEqO X.K C sp E) := by
  intro pins s σ H x y v u Q I rx ry h
  obtain ⟨a, dx, fs, t, rfl, ea, ty, hn, q⟩ := h
  cases (show v = Value.ref a from rx)
  obtain ⟨mA, O, _⟩ := ins_get I.hok ea
  obtain ⟨od, J, _⟩ := O.look
  obtain ⟨m, hF⟩ := I.fr
  have L : PySem.W.Looks (model X.prog X.w) s.heap (typeOf u) t := by
    rcases ty with ⟨b, dy, gs, rfl, eb, rfl⟩ | ty
    · cases (show u = Value.ref b from ry)
      obtain ⟨mB, O', _⟩ := ins_get I.hok eb
      obtain ⟨od', J', _⟩ := O'.look
      exact J'.type
    · obtain ⟨P, Z, p, _⟩ := kit_ofY I ry ty
      exact Z.ty _ _ I.kIn p
  rw [hop]
  refine PySem.W.cmp_K (op := op) (tb := t) hr.units0 hF I.ok.mod.kin J L hn hm.at_ hm.fn ?_
  refine wpAny_mono (run_fn (ds := []) (dvs := []) F hr hb .nil hx I (vs := [.ref a, y]) (.cons rfl (.cons ry .nil)) q) (fun w s' z => ?_) fun _ _ x => x
  obtain ⟨z', H', I', rz, qz⟩ := z
  exact SlX.cmpback rz ⟨z', H', I', rz, qz⟩
/-- y in x by x's own __contains__, which hands back a bool -/
def rInO (C : Addr) (sp : Sp) (E : XK) (neg : Bool) : R2 := fun y x H Q => ∃ a dx fs, x = .ref a ∧ H a = some (.ins C dx fs) ∧ sp [x, y] H (fun v H' => ∃ b, v = .bl b ∧ Q (.bl (if neg then !b else b)) H') E
theorem op_inO (hm : Meth X.K C "__contains__" f) (F : FnOk X.prog X.w X.K X.mg X.base CX k f fd ps sp) (hr : Room k X.A) (hb : Binds X.K fd ps []) (hx : Passes CX X E) : OpR X (compareOp .In) (rInO C sp E false) := by
  intro pins s σ H y x u v Q I ry rx h
  obtain ⟨a, dx, fs, rfl, ea, q⟩ := h
  cases (show v = Value.ref a from rx)
  obtain ⟨mA, O, _⟩ := ins_get I.hok ea
  obtain ⟨od, J, _⟩ := O.look
  obtain ⟨m, hF⟩ := I.fr
  refine PySem.W.in_K hF I.ok.mod.kin J hm.at_ hm.fn (wpAny_mono (run_fn (ds := []) (dvs := []) F hr hb .nil hx I (vs := [.ref a, y]) (.cons rfl (.cons ry .nil)) q) (fun w s' z => ?_) fun _ _ x => x)
  obtain ⟨z', H', I', rz, b, rfl, qz⟩ := z
  cases (show w = Value.bool b from rz)
  exact wpAny_truthy_bool ⟨.bl b, H', I', rfl, qz⟩
theorem op_notInO (hm : Meth X.K C "__contains__" f) (F : FnOk X.prog X.w X.K X.mg X.base CX k f fd ps sp) (hr : Room k X.A) (hb : Binds X.K fd ps []) (hx : Passes CX X E) : OpR X (compareOp .NotIn) (rInO C sp E true) := by
  intro pins s σ H y x u v Q I ry rx h
  obtain ⟨a, dx, fs, rfl, ea, q⟩ := h
  cases (show v = Value.ref a from rx)
  obtain ⟨mA, O, _⟩ := ins_get I.hok ea
  obtain ⟨od, J, _⟩ := O.look
  obtain ⟨m, hF⟩ := I.fr
  refine PySem.W.notIn_K hF I.ok.mod.kin J hm.at_ hm.fn (wpAny_mono (run_fn (ds := []) (dvs := []) F hr hb .nil hx I (vs := [.ref a, y]) (.cons rfl (.cons ry .nil)) q) (fun w s' z => ?_) fun _ _ x => x)
  obtain ⟨z', H', I', rz, b, rfl, qz⟩ := z
  cases (show w = Value.bool b from rz)
  exact wpAny_truthy_bool ⟨.bl (!b), H', I', rfl, qz⟩
/-- len(x) by x's own __len__ -/
def rLenO (C : Addr) (sp : Sp) (E : XK) : List V → Hp → VK → Prop := fun xs H Q => ∃ a dx fs, xs = [.ref a] ∧ H a = some (.ins C dx fs) ∧ sp [.ref a] H (fun v H' => ∃ n, v = .int n ∧ 0 ≤ n ∧ n < 2 ^ 63 ∧ Q (.int n) H') E
theorem call_lenO (hm : Meth X.K C "__len__" f) (F : FnOk X.prog X.w X.K X.mg X.base CX k f fd ps sp) (hr : Room (k + 1) X.A) (hb : Binds X.K fd ps []) (hx : Passes CX X E) : CallR X (.builtin "len") (rLenO C sp E) := by
  intro pins s σ H xs us Q I r h
  obtain ⟨a, dx, fs, rfl, ea, q⟩ := h
  obtain ⟨u, rfl, ru⟩ := vals1' r
  cases (show u = Value.ref a from ru)
  obtain ⟨mA, O, _⟩ := ins_get I.hok ea
  obtain ⟨od, J, _⟩ := O.look
  obtain ⟨m, hF⟩ := I.fr
  have r2 : Vals [V.ref a] [Value.ref a] := .cons rfl .nil
  have hl : ([Value.ref a] : List Value).length = ps.length := by
    rw [← r2.length]
    exact F.len _ _ _ _ q
  refine PySem.W.len_K hF I.ok.mod.kin J hm.at_ hm.fn (wpAny_call (codeAny_mono (F.run X.A.in1 X.stack s H ⟨[.ref a], []⟩ [.ref a] [.ref a] _ E hr.in1 I.env0.in1 (by simpa using hb s [.ref a] I.kIn (by simpa using hl)) r2 q) fun r s' hq => ?_))
  cases r with
  | error er => exact hx pins σ H s er s' I hq
  | ok fl =>
    cases fl with
    | ret u =>
      obtain ⟨v, H', I', rv, n, rfl, n0, n1, qz⟩ := I.after hq
      obtain ⟨t, rfl⟩ := (show ∃ t, u = Value.int n t from rv)
      exact ⟨⟨n0, n1⟩, .int n, H', I'.tok _, ⟨_, rfl⟩, qz⟩
    | next => exact False.elim hq
    | brk => exact False.elim hq
    | cont => exact False.elim hq
end
end RT

set_option Elab.async false
set_option linter.all false
set_option maxRecDepth 100000
set_option maxHeartbeats 4000000
/-! defs that are called where nothing is being shown: repr of lists and tuples -/
namespace RT
open PySem PySem.Spec PyProof.Rows L2
/-- as FnOk, where no repr runs around -/
structure FnG (P : Program) (w : World) (K : PySem.W.Frag) (mg : Str → Option Value) (base : Heap) (CX : CXT) (k : Nat) (f : Addr) (fd : FuncData) (ps : List Str) (sp : Sp) : Prop where
  len : ∀ vs H Q E, sp vs H Q E → vs.length = ps.length
  go : ∀ (A : Around) (outer : List Env) (s : Shared) (H : Hp) (args : Args) (us : List Value) (vs : List V) (Q : VK) (E : XK), A.guards = some [] → Room k A → Env0 P w K mg base A outer s H → BindsTo s fd args (ps.zip us) → Vals vs us → sp vs H Q E →
    codeAny (model P w) A (.call (.ref f) args) (CR CX outer P w H s Q E) s
theorem FnG.of {P : Program} {w : World} {K : PySem.W.Frag} {mg : Str → Option Value} {base : Heap} {CX : CXT} {k : Nat} {f : Addr} {fd : FuncData} {ps : List Str} {sp : Sp} (F : FnOk P w K mg base CX k f fd ps sp) : FnG P w K mg base CX k f fd ps sp :=
  ⟨F.len, fun A outer s H args us vs Q E _ => F.run A outer s H args us vs Q E⟩
theorem fnG_of {CX : CXT} {P : Program} {w : World} {K : PySem.W.Frag} {mg : Str → Option Value} {base : Heap} {k : Nat} {f : Addr} {name qual : Str} {params : Arguments} {body : List Stmt} {scope : Scope} {dV kV doc pm cdv ct oc : Value} {an od : Option Addr}
    {osl : Array (Option Value)} {N ps : List Str} {sp : Sp} (at_ : K.lookup f = some ⟨oc, od, .func (PySem.W.fnOf name qual params body scope dV kV doc pm an cdv ct), osl⟩) (code : PySem.W.codeIn K cdv qual = true) (S : FnScope N ps scope)
    (len : ∀ vs H Q E, sp vs H Q E → vs.length = ps.length)
    (walk : ∀ (A : Around) (outer : List Env) (s : Shared) (H : Hp) (vs : List V) (Q : VK) (E : XK), A.guards = some [] → Room k (A.deeper (envOfC qual scope s.heap.objs.size f cdv)) → sp vs H Q E →
      ∃ t, PSs (cxOf CX P w K mg base N qual scope f cdv A outer s H E) body t ∧ t { nx := fun _ H' => Q .non H', rt := Q } (start N vs) H) :
    FnG P w K mg base CX (k + 1) f (PySem.W.fnOf name qual params body scope dV kV doc pm an cdv ct) ps sp where
  len := len
  go := fun A outer s H args us vs Q E hg room env binds vals said => by
    have size := len _ _ _ _ said
    have here : K.In s.heap := env.mod.kin.keeps fun b o e => (env.bs b o e).1
    have free : s.heap.NoLimit := env.mod.nolimit.keeps fun b o e => (env.bs b o e).1
    have kinds : ∀ y ∈ ps.zip us, scope.names.lookup y.1 = some .local ∨ (scope.names.lookup y.1 = some .cell ∧ ((cellsFrom (s.heap.objs.size + 1) scope.names []).lookup y.1).isSome = true) := by
      rintro ⟨n, v⟩ hy
      exact (S.par n (List.of_mem_zip hy).1).imp id fun q => ⟨q, PySem.W.cellsFrom_some _ _ _ (.inl q)⟩
    refine codeAny_call_function room.depth (here _ _ at_) rfl S.co S.gen rfl (PySem.W.codeRec_of here code) (binds _ _ _ _ ?_)
    refine wpAny_newFunctionEnv_cells S.kind kinds fun e1 he s1 x => ?_
    subst he
    obtain ⟨t, ht, hq⟩ := walk A outer s H vs Q E hg (room.deeper _) said
    refine ⟨free.keeps x.toInCall.keep, codeAny_func ?_⟩
    refine wpAny_mono (ht.run [] s1 (start N vs) H _ (inv_start S room.hd env size vals x) hq) (fun fl s' done => ?_) fun _ _ z => z
    match fl, done with
    | .ret u, ⟨v, _, H', J, rv, q⟩ => exact ⟨v, H', J.os, J.bare, J.base, J.hok, rv, q⟩
    | .next, ⟨_, H', J, q⟩ => exact ⟨V.non, H', J.os, J.bare, J.base, J.hok, rfl, q⟩
    | .brk, ⟨_, _, _, q⟩ => exact q.elim
    | .cont, ⟨_, _, _, q⟩ => exact q.elim
section
variable {P : Program} {w : World} {K : PySem.W.Frag} {mg : Str → Option Value} {base : Heap} {CX : CXT}
/-- a def of the text keeps its promise where nothing is being shown -/
theorem okG {x qual : Str} {pa : Arguments} {bd : List Stmt} {sc : Scope} {dvs : List V} {kws : List (Str × V)} {f : Addr} {fd : FuncData} {N ps : List Str} {k : Nat} {sp : Sp} (F : FunD K x qual pa bd sc dvs kws f fd) (S : FnScope N ps sc) (len : ∀ vs H Q E, sp vs H Q E → vs.length = ps.length)
    (walk : ∀ (cdv : Value) (A : Around) (outer : List Env) (s : Shared) (H : Hp) (vs : List V) (Q : VK) (E : XK), A.guards = some [] → Room k (A.deeper (envOfC qual sc s.heap.objs.size f cdv)) → sp vs H Q E →
      ∃ t, PSs (cxOf CX P w K mg base N qual sc f cdv A outer s H E) bd t ∧ t { nx := fun _ H' => Q .non H', rt := Q } (start N vs) H) : FnG P w K mg base CX (k + 1) f fd ps sp := by
  obtain ⟨oc, od, dV, kV, doc, pm, an, cdv, ct, osl, rfl, lk, hcd, _, _⟩ := F.ex
  exact fnG_of lk hcd S len fun A outer s H vs Q E hg hr h => walk cdv A outer s H vs Q E hg hr h
end
section
variable {X : Cx} {CX : CXT} {k : Nat} {f : Addr} {fd : FuncData} {ps : List Str} {sp : Sp} {dvs : List V} {ds : List Value} {E : XK} {e : Expr} {es : List Expr} {t : TA} {x : Str} {p pos : Pos}
theorem pe_callG (F : FnG X.prog X.w X.K X.mg X.base CX k f fd ps sp) (hG : X.A.guards = some []) (hr : Room k X.A) (hg : Gl X x) (hm : X.mg x = some (.ref f)) (hk : PySem.W.keepIn X.K (.ref f) = true) (hb : Binds X.K fd ps ds) (hd : Vals dvs ds) (hx : Passes CX X E)
    (ha : PA X (e :: es) t) (hdb : (x == ("__debug__" : Str)) = false := by decide) (he : starEach (e :: es) X.env = (false, eval e X.env) :: starEach es X.env := by rfl) (hpl : (backTo pos (starEach es X.env)).any (·.1) = false := by rfl) :
    PE X (.Call (.Name x p) (e :: es) [] pos) (tCall sp dvs E t) := by
  refine ⟨fun pins s σ H Q I h => wpAny_Call_Name_kw (ld_glob I hg hm ?_ hdb)⟩
  refine PySem.W.callWith_K (h₀ := X.base) I.ok.mod.kin hk (thn (ha.run pos pins s σ H _ I h) fun us s1 ⟨vs, H1, I1, r, q⟩ => ⟨I1.kIn, ?_⟩) he hpl
  have r2 := r.append hd
  have hl : (us ++ ds).length = ps.length := r2.length.symm.trans (F.len _ _ _ _ q)
  refine wpAny_call (codeAny_mono (F.go X.A X.stack s1 H1 ⟨us, []⟩ (us ++ ds) (vs ++ dvs) Q E hG hr I1.env0 (hb s1 us I1.kIn hl) r2 q) fun r s' hq => ?_)
  match r, hq with
  | .error e, hq => exact hx pins σ H1 s1 e s' I1 hq
  | .ok (.ret u), hq => exact I1.after hq
/-- repr of data at any depth -/
def rReprD (K : PySem.W.Frag) : List V → Hp → VK → Prop := fun xs H Q => ∃ (a : Addr) (d : PyData), xs = [.ref a] ∧ Dp K H (.ref a) d ∧ d.showable = true ∧ d.hasDict = false ∧ d.depth ≤ 40 ∧ d.shown.length ≤ sizeLine ∧ Q (.str d.shown) H
theorem call_reprD (hG : X.A.guards = some []) (hu : X.A.units + 64 < cLine) : CallR X (.builtin "repr") (rReprD X.K) := by
  intro pins s σ H xs us Q I r h
  obtain ⟨a, d, rfl, D, hs, hd, hz, hl, q⟩ := h
  obtain ⟨u, rfl, ru⟩ := vals1' r
  obtain ⟨as, rd⟩ := Dp.reads I d _ _ D ru
  cases (show u = Value.ref a from ru)
  exact repr_of_reads' rd hs (PyData.noDict_hsm hd) hG (by omega) (fun _ _ e => e) (fun h' u tk k => ⟨.str d.shown, H, I.kept k, ⟨u, rfl⟩, q⟩) hl
end
/-! ### the law's own call -/
/-- the abstract heap at the law's entry: the script's list, locked -/
def scriptH (a : Addr) (vs : List Value) (ns : List Int) : Hp := fun b => if b = a then some (.frz { cls := .type "list", data := .seq vs.toArray } (.lst (ns.map V.int))) else none
section
variable {P : Program} {w : World} {K : PySem.W.Frag} {mg mb : Str → Option Value} {CX : CXT} {k : Nat} {fa a : Addr} {fd : FuncData} {x : Str} {sp : Sp} {s : Shared} {vs : List Value} {ns : List Int}
theorem enterG (H : Hp) (alone : ∀ b u, H b = some u → b = a ∧ ∃ o xs, u = .frz o (.lst xs)) (free : ∀ b, H b ≠ none → K.lookup b = none) (hok : HOk P w H s.heap)
    (KX : K.In s.heap) (gl : s.heap.Ns mainGlobals mg) (bl : s.heap.Ns builtinsNs mb) (bb : ∀ x : Str, x ≠ "__name__" → mb x = bootBuiltins x) (lim : s.heap.NoLimit) (gn : s.gens = #[]) (room : Room k callerA)
    (F : ∀ base : Heap, K.In base → base.Ns mainGlobals mg → FnG P w K mg base CX k fa fd [x] sp) (binds : ∀ (s : Shared) (u : Value), BindsTo s fd ⟨[u], []⟩ [(x, u)]) (said : sp [.ref a] H (fun v _ => v = .bl true) fun _ _ _ => False)
    (noX : ∀ e s', CX [] H s (fun _ _ _ => False) e s' → False) :
    codeAny (model P w) callerA (.call (.ref fa) ⟨[.ref a], []⟩) (fun r s' => r = .ok (.ret (.bool true)) ∧ OldK s.heap s'.heap ∧ s'.os = s.os ∧ AllBare s'.gens) s := by
  have noDict : ∀ {b : Addr} {o : Obj} {es : Array DictEntry} {n : Nat}, s.heap.get? b = some o → o.data = .dict es n → H b = none := fun {b o es n} e d => by
    cases q : H b with
    | none => rfl
    | some u =>
      obtain ⟨_, ob, xs, rfl⟩ := alone b u q
      obtain ⟨e1, _, its, m, _, e2⟩ := (show ObjOk P w H s.heap b (.frz ob (.lst xs)) from hok b _ q)
      rw [e] at e2
      cases e2
      cases d
  have ns_ : ∀ {b : Addr} {m : Str → Option Value}, s.heap.Ns b m → (hidT s.heap H).Ns b m := fun {b m} ⟨o, es, n, e, d, r⟩ => ⟨o, es, n, hidT_get e (noDict e d), d, r⟩
  have kb : K.In (hidT s.heap H) := fun b o e => hidT_get (KX b o e) (by
    cases q : H b with
    | none => rfl
    | some u =>
      have z := free b (by rw [q]; exact fun z => nomatch z)
      rw [e] at z
      cases z)
  have md : Mod K mg (hidT s.heap H) := ⟨kb, ns_ gl, ⟨mb, ns_ bl, bb⟩, by
    obtain ⟨mc, h1, h2⟩ := lim
    exact ⟨mc, ns_ h1, h2⟩⟩
  have env : Env0 P w K mg (hidT s.heap H) callerA [] s H := ⟨rfl, md, fun b o e => of_hidT e, Nat.le_of_eq (hidT_size _ _), trivial, (fun b hb => absurd (show b ∈ ([] : List Addr) from hb) (by simp)), hok, .of_eq gn⟩
  refine codeAny_mono ((F _ kb (ns_ gl)).go callerA [] s H ⟨[.ref a], []⟩ [.ref a] [.ref a] _ _ rfl room env (binds s (.ref a)) (.cons rfl .nil) said) fun r s' h => ?_
  match r, h with
  | .error e, h => exact (noX e s' h).elim
  | .ok (.ret u), ⟨v, H', os, bare, un, hok', rv, q⟩ =>
    have ev : v = .bl true := q
    subst ev
    obtain rfl : u = Value.bool true := rv
    refine ⟨rfl, OldK.of_keep fun b o e => ?_, os, bare⟩
    cases q : H b with
    | none => exact un.keep b o e q (fun z => nomatch z) (fun z => nomatch z)
    | some u =>
      obtain ⟨_, ob, xs, rfl⟩ := alone b u q
      obtain ⟨e1, _⟩ := hok b _ q
      obtain ⟨e2, _⟩ := hok' b _ (un.frzs b ob _ q)
      rw [e] at e1
      cases e1
      exact e2
theorem law_callG (KX : K.In s.heap) (gl : s.heap.Ns mainGlobals mg) (bl : s.heap.Ns builtinsNs mb) (bb : ∀ x : Str, x ≠ "__name__" → mb x = bootBuiltins x) (lim : s.heap.NoLimit) (gn : s.gens = #[])
    (obj : s.heap.get? a = some { cls := .type "list", data := .seq vs.toArray }) (hi : IntsAre vs ns) (hl : ns.length ≤ sizeLine) (room : Room k callerA)
    (F : ∀ base : Heap, K.In base → base.Ns mainGlobals mg → FnG P w K mg base CX k fa fd [x] sp) (binds : ∀ (s : Shared) (u : Value), BindsTo s fd ⟨[u], []⟩ [(x, u)])
    (said : ∀ H : Hp, SqL K H a (ns.map V.int) → sp [.ref a] H (fun v _ => v = .bl true) fun _ _ _ => False) (noX : ∀ H e s', CX [] H s (fun _ _ _ => False) e s' → False) :
    codeAny (model P w) callerA (.call (.ref fa) ⟨[.ref a], []⟩) (fun r s' => r = .ok (.ret (.bool true)) ∧ OldK s.heap s'.heap ∧ s'.os = s.os ∧ AllBare s'.gens) s := by
  have rv := vals_ints hi
  cases hk : K.lookup a with
  | some o =>
    have e := KX a o hk
    rw [obj] at e
    cases e
    exact enterG (fun _ => none) (fun b u z => nomatch z) (fun b z => (z rfl).elim) (fun b u z => nomatch z) KX gl bl bb lim gn room F binds
      (said _ (.inr ⟨_, vs.toArray, _, hk, rfl, rfl, rfl, by rw [List.size_toArray, hi.length]; exact hl, by simpa using rv⟩)) (noX _)
  | none =>
    have at_ : ∀ b u, scriptH a vs ns b = some u → b = a ∧ u = .frz { cls := .type "list", data := .seq vs.toArray } (.lst (ns.map V.int)) := fun b u z => by
      unfold scriptH at z
      by_cases hb : b = a
      · rw [if_pos hb] at z
        exact ⟨hb, (Option.some.inj z).symm⟩
      · rw [if_neg hb] at z
        cases z
    refine enterG (scriptH a vs ns) (fun b u z => ?_) (fun b z => ?_) (fun b u z => ?_) KX gl bl bb lim gn room F binds (said _ (.inl (.inr ⟨{ cls := .type "list", data := .seq vs.toArray }, by unfold scriptH; rw [if_pos rfl]⟩))) (noX _)
    · obtain ⟨e, rfl⟩ := at_ b u z
      exact ⟨e, _, _, rfl⟩
    · cases q : scriptH a vs ns b with
      | none => exact (z q).elim
      | some u =>
        rw [(at_ b u q).1]
        exact hk
    · obtain ⟨rfl, rfl⟩ := at_ b u z
      exact ⟨obj, by rw [List.length_map]; exact hl, vs, _, rv, obj⟩
end
/-- the end of a law's proof: the head's facts give the law's def, the def keeps its promise -/
theorem walk_ofG {l : PySem.W.OpenLaw} {n k : Nat} {q : Program} {loose : List Str} {XP : (Str → Option Value) → Heap → Prop} {YP : World → Heap → Prop} {d : DefRec} {CX : World → CXT} {x : Str}
    (hn : l.most = some n) (hn2 : n ≤ sizeLine) (hdf : d.params.defaults = []) (room : Room k callerA)
    (F : ∀ (w : World) (mg : Str → Option Value) (fa : Addr) (h : Heap), YP w h → h.Ns mainGlobals mg → mg d.name = some (.ref fa) →
      ∃ (K : PySem.W.Frag) (fd : FuncData) (sp : Sp), K.In h ∧ (∀ (s : Shared) (u : Value), BindsTo s fd ⟨[u], []⟩ [(x, u)]) ∧
        (∀ (H : Hp) (a : Addr) (ns : List Int), ns.length ≤ n → (∀ z ∈ ns, Builtin.Int.intBits z ≤ 1048576) → SqL K H a (ns.map V.int) → sp [.ref a] H (fun v _ => v = .bl true) fun _ _ _ => False) ∧
        ∀ base : Heap, K.In base → base.Ns mainGlobals mg → FnG l.prog w K mg base (CX w) k fa fd [x] sp)
    (noX : ∀ (w : World) (H : Hp) (s : Shared) (e : Value) (s' : Shared), CX w [] H s (fun _ _ _ => False) e s' → False) :
    PySem.W.WalkO q loose XP YP l.row.toRowW d [] (fun f vs => PySem.call f vs) := by
  refine Att.attach_callB hn hdf fun w s₀ s₁ mg mb fa o pm cd doc a vs ns G Y ho hd hcd hmg hobj hints hlen hbits hg => ?_
  obtain ⟨K, fd, sp, KX, hb, said, hF⟩ := F w mg fa _ Y G.T.g hmg
  exact law_callG KX G.T.g G.T.b G.T.builtins G.T.nolimit hg hobj hints (Nat.le_trans hlen hn2) room hF hb (fun H hS => said H a ns hlen hbits hS) fun H e s' => noX w H s₁ e s'
end RT

set_option Elab.async false
set_option linter.all false
set_option maxRecDepth 100000
set_option maxHeartbeats 4000000
/-! a head whose facts are any Bools of the written part, and defs by any address (a property's getter too) -/
namespace HP
open PySem PySem.Spec PyProof.Rows L2 He
/-- a def of the text, where it stands -/
structure DefA where
  adr : PySem.W.Frag → Addr
  name : Str
  qual : Str
  params : Arguments
  body : List Stmt
  scope : Scope
  dfl : List Dv := []
  kwd : List (Str × Dv) := []
def DefA.told (K : PySem.W.Frag) (d : DefA) : FnW := match K.lookup (d.adr K) with
  | some ⟨_, _, .func fd, _⟩ => some (fd.name, fd.qualname, fd.params, fd.body, fd.scope, fd.globals, fd.closure, fd.builtins)
  | _ => none
def DefA.want (d : DefA) : FnW := some (d.name, d.qual, d.params, .stmts d.body, d.scope, mainGlobals, [], builtinsNs)
def DefA.dvs (K : PySem.W.Frag) (d : DefA) : List V := d.dfl.map (Dv.v K)
def DefA.kws (K : PySem.W.Frag) (d : DefA) : List (Str × V) := d.kwd.map fun q => (q.1, q.2.v K)
def DefA.fine (K : PySem.W.Frag) (d : DefA) : Bool := PySem.W.keepIn K (.ref (d.adr K)) && (match K.lookup (d.adr K) with
  | some ⟨_, _, .func fd, _⟩ => PySem.W.codeIn K fd.code d.qual && (dflB K fd.defaults (d.dvs K) && kwdB K fd.kwdefaults (d.kws K))
  | _ => false)
theorem DefA.funD {K : PySem.W.Frag} {d : DefA} (e : d.told K = d.want) (c : d.fine K = true) : ∃ fd, FunD K d.name d.qual d.params d.body d.scope (d.dvs K) (d.kws K) (d.adr K) fd := by
  obtain ⟨kp, more⟩ := ba c
  unfold DefA.told at e
  split at e
  · rename_i oc od fd osl at_
    rw [at_] at more
    obtain ⟨k1, k2⟩ := ba more
    obtain ⟨k3, k4⟩ := ba k2
    cases fd
    unfold DefA.want at e
    injection e with e
    simp only [Prod.mk.injEq] at e
    obtain ⟨rfl, rfl, rfl, rfl, rfl, rfl, rfl, rfl⟩ := e
    exact ⟨_, ⟨oc, od, _, _, _, _, _, _, _, osl, rfl, at_, k1, dflB_ok k3, kwdB_ok k4⟩, kp⟩
  · cases e
abbrev Fact := PySem.W.Frag → Bool
abbrev Al := Bool × List FnW
def obsA (fa : List Fact) (fn : List DefA) (K : PySem.W.Frag) : Al := ((fa.all fun f => f K) && fn.all fun d => d.fine K, fn.map fun d => d.told K)
def wantA (fn : List DefA) : Al := (true, fn.map DefA.want)
def obsAG (n : Nat) (fa : List Fact) (fn : List DefA) (g : Addr → Option Obj) : Al := obsA fa fn (frG g (asD g n))
structure SaysA (fa : List Fact) (fn : List DefA) (K : PySem.W.Frag) : Prop where
  eq : obsA fa fn K = wantA fn
def hookA (n : Nat) (fa : List Fact) (fn : List DefA) : PySem.W.Hook where
  α := Al
  obs := fun s => obsAG n fa fn s.heap.get?
  val := fun _ => wantA fn
  says := fun _ h => ∃ K : PySem.W.Frag, K.In h ∧ SaysA fa fn K
  of := fun _ _ e => ⟨_, frG_in, ⟨e⟩⟩
  keeps := fun _ _ _ ⟨K, hK, c⟩ k => ⟨K, PySem.W.Frag.In.keeps hK k, c⟩
theorem obsAG_eq {n : Nat} {fa : List Fact} {fn : List DefA} {g : Addr → Option Obj} {s : Shared} (h : ∀ a, g a = s.heap.get? a) : obsAG n fa fn g = (hookA n fa fn).obs s := by
  rw [show g = s.heap.get? from funext h] <;> rfl
section
variable {fa : List Fact} {fn : List DefA} {K : PySem.W.Frag}
theorem SaysA.fact (c : SaysA fa fn K) (i : Nat) {f : Fact} (h : fa[i]? = some f := by rfl) : f K = true :=
  List.all_eq_true.mp (ba (congrArg Prod.fst c.eq)).1 f (List.mem_of_getElem? h)
theorem SaysA.def_ (c : SaysA fa fn K) (i : Nat) {d : DefA} (h : fn[i]? = some d := by rfl) : ∃ fd, FunD K d.name d.qual d.params d.body d.scope (d.dvs K) (d.kws K) (d.adr K) fd := by
  have hd : d ∈ fn := List.mem_of_getElem? h
  refine DefA.funD ?_ (List.all_eq_true.mp (ba (congrArg Prod.fst c.eq)).2 d hd)
  have e : fn.map (fun d => d.told K) = fn.map DefA.want := congrArg Prod.snd c.eq
  have e1 := congrArg (fun l => l[i]?) e
  simp only [List.getElem?_map, h, Option.map_some, Option.some.injEq] at e1
  exact e1
end
/-! ### facts beside He.Fa's -/
/-- a property of the class x -/
def getA (x f : Str) (K : PySem.W.Frag) : Addr := match PySem.W.recIn K (ma K (ga K x) f) "property" with
  | some (.ref g :: _) => g
  | _ => 0
def propB (x f : Str) : Fact := fun K => eqO (PySem.W.findIn K (.ref (ga K x)) f) (some (some (.ref (ma K (ga K x) f)))) && (eqO (PySem.W.specialIn K (.ref (ma K (ga K x) f)) "__get__") (some (some (.builtin "property.__get__"))) && (decide (PySem.W.takesIn K (.ref (ma K (ga K x) f)) = some true) &&
  (match PySem.W.recIn K (ma K (ga K x) f) "property" with
    | some (.ref _ :: _) => true
    | _ => false)))
theorem propB_ok {x f : Str} {K : PySem.W.Frag} (h : propB x f K = true) : PropOf K (ga K x) f (ma K (ga K x) f) (getA x f K) := by
  obtain ⟨h1, h⟩ := ba h
  obtain ⟨h2, h⟩ := ba h
  obtain ⟨h3, h4⟩ := ba h
  refine ⟨eqO_ok h1, eqO_ok h2, of_decide_eq_true h3, ?_⟩
  unfold getA
  split at h4
  · rename_i g rest e
    rw [e]
    exact ⟨rest, rfl⟩
  · cases h4
/-- own operators: the class goes first in its own order; no reflected method -/
def firstB (x : Str) : Fact := fun K => PySem.W.selfFirst K (ga K x)
def notFirstB (x : Str) (t : PySem.W.Frag → Value) : Fact := fun K => PySem.W.notFirst K (ga K x) (t K)
def rightB (x : Str) (op : Operator) (T : String) : Fact := fun K => eqO (PySem.W.findIn K (.ref (ga K x)) (dunderR op.info.2)) (some none) && ((PySem.W.findIn K (.type T) (PySem.dunder op.info.2)).isSome && ((PySem.W.findIn K (.type T) (dunderR op.info.2)).isSome && decide (PySem.W.subIn K (.type T) (.ref (ga K x)) = some false)))
theorem rightB_ok {x : Str} {op : Operator} {T : String} {K : PySem.W.Frag} (h : rightB x op T K = true) : RT.RightT K (ga K x) op T := by
  obtain ⟨h1, h⟩ := ba h
  obtain ⟨h2, h⟩ := ba h
  obtain ⟨h3, h4⟩ := ba h
  exact ⟨eqO_ok h1, Option.isSome_iff_exists.mp h2, Option.isSome_iff_exists.mp h3, of_decide_eq_true h4⟩
/-- isinstance of an instance of the class x asks its class rightly -/
def isiB (x : Str) : Fact := fun K => eqO (PySem.W.findIn K (.ref (ga K x)) "__class__") (some (some (.builtin "object.__class__"))) && (eqO (PySem.W.specialIn K (.builtin "object.__class__") "__get__") (some (some (.builtin "getset_descriptor.__get__"))) && (decide (PySem.W.takesIn K (.builtin "object.__class__") = some true) && decide (PySem.W.mroIn K (ga K x) (.type "object") = some true)))
structure IsiC (K : PySem.W.Frag) (C : Addr) : Prop where
  ha : PySem.W.findIn K (.ref C) "__class__" = some (some (.builtin "object.__class__"))
  hn : PySem.W.specialIn K (.builtin "object.__class__") "__get__" = some (some (.builtin "getset_descriptor.__get__"))
  ht : PySem.W.takesIn K (.builtin "object.__class__") = some true
  hm : PySem.W.mroIn K C (.type "object") = some true
theorem isiB_ok {x : Str} {K : PySem.W.Frag} (h : isiB x K = true) : IsiC K (ga K x) := by
  obtain ⟨h1, h⟩ := ba h
  obtain ⟨h2, h⟩ := ba h
  obtain ⟨h3, h4⟩ := ba h
  exact ⟨eqO_ok h1, eqO_ok h2, of_decide_eq_true h3, of_decide_eq_true h4⟩
/-- a global that is a tuple of flat values -/
def flatOf : Value → Option V
  | .none => some .non
  | .bool b => some (.bl b)
  | .int i _ => some (.int i)
  | .str x _ => some (.str x)
  | _ => none
theorem flatOf_ok {v : Value} {x : V} (h : flatOf v = some x) : RelV x v := by
  cases v <;> simp only [flatOf, Option.some.injEq, reduceCtorEq] at h <;> subst h <;> first | rfl | exact ⟨_, rfl⟩
theorem flats_ok : ∀ {vs : List Value} {xs : List V}, vs.map flatOf = xs.map some → Vals xs vs
  | [], [], _ => .nil
  | [], _ :: _, h => by cases h
  | _ :: _, [], h => by cases h
  | v :: vs, x :: xs, h => by
    simp only [List.map_cons, List.cons.injEq] at h
    exact .cons (flatOf_ok h.1) (flats_ok h.2)
def tupB (x : Str) (xs : List V) : Fact := fun K => match K.lookup (ga K x) with
  | some o => eqO (some (some o.cls)) (some (some (.type "tuple"))) && (match o.data with
    | .seq its _ => decide (its.toList.map flatOf = xs.map some) && decide (its.size ≤ sizeLine)
    | _ => false)
  | none => false
theorem tupB_ok {x : Str} {xs : List V} {K : PySem.W.Frag} (h : tupB x xs K = true) : ∀ H : Hp, SqT K H (ga K x) xs := by
  intro H
  unfold tupB at h
  split at h
  · rename_i o e
    obtain ⟨h1, h2⟩ := ba h
    split at h2
    · rename_i its n ed
      obtain ⟨h3, h4⟩ := ba h2
      exact .inr ⟨o, its, n, e, Option.some.inj (Option.some.inj (eqO_ok h1)), ed, of_decide_eq_true h4, flats_ok (of_decide_eq_true h3)⟩
    · cases h2
  · cases h
def neB (x : Str) : Fact := fun K => eqO (PySem.W.findIn K (.ref (ga K x)) "__ne__") (some (some (.builtin "object.__ne__")))
theorem neB_ok {x : Str} {K : PySem.W.Frag} (h : neB x K = true) : PySem.W.findIn K (.ref (ga K x)) "__ne__" = some (some (.builtin "object.__ne__")) := eqO_ok h
def fnB (x m : Str) : Fact := fun K => PySem.W.fnIn K (ma K (ga K x) m)
def kitB1 (t c : PySem.W.Frag → Value) (b : Bool) : Fact := fun K => decide (PySem.W.kitOne K (t K) (c K) = some b)
def kitA1 (t : PySem.W.Frag → Value) (cs : List Str) (b : Bool) : Fact := fun K => decide (PySem.W.kitAny K (t K) (cs.map fun x => .ref (ga K x)) = some b)
def fa_ (f : Fa) : Fact := fun K => f.ok K
end HP

set_option Elab.async false
set_option linter.all false
set_option maxRecDepth 100000
set_option maxHeartbeats 4000000
/-! the top's run in parts: the looks by themselves, the facts group by group -/
namespace HP
open PySem PySem.Spec PyProof.Rows L2 He HandSHeadRun PySem.W
/-- the facts over a written list of addresses -/
def obsL (as : List Addr) (fa : List Fact) (fn : List DefA) (g : Addr → Option Obj) : Al := obsA fa fn (frG g as)
def hookL (as : List Addr) (fa : List Fact) (fn : List DefA) : PySem.W.Hook where
  α := Al
  obs := fun s => obsL as fa fn s.heap.get?
  val := fun _ => wantA fn
  says := fun _ h => ∃ K : PySem.W.Frag, K.In h ∧ SaysA fa fn K
  of := fun _ _ e => ⟨_, frG_in, ⟨e⟩⟩
  keeps := fun _ _ _ ⟨K, hK, c⟩ k => ⟨K, PySem.W.Frag.In.keeps hK k, c⟩
theorem obsL_eq {as : List Addr} {fa : List Fact} {fn : List DefA} {g : Addr → Option Obj} {s : Shared} (h : ∀ a, g a = s.heap.get? a) : obsL as fa fn g = (hookL as fa fn).obs s := by
  rw [show g = s.heap.get? from funext h] <;> rfl
/-- the looks -/
def BaseEq (r : OpenRow) (q : Program) (M : Nat) (loose : List PySem.Str) (w : World) : Prop :=
  ∀ os : OsState, (endF (stepQ (denQ tabQ) r.prog w) M r.prog w os).map (fun s => (looksF r.prog (boot_heap w.params) s.abs, seenQ q loose (importedModules r.prog.main.body) (fun s => xlAt q [] s && recOk r.toRowW.records s) s.abs)) = some (true, openGood q loose)
/-- a group of facts -/
def PartEq (r : OpenRow) (M : Nat) (as : List Addr) (fa : List Fact) (fn : List DefA) (w : World) : Prop :=
  ∀ os : OsState, (endF (stepQ (denQ tabQ) r.prog w) M r.prog w os).map (fun s => obsL as fa fn (getT s)) = some (wantA fn)
theorem obsA_app {fa fa' : List Fact} {fn fn' : List DefA} {K : Frag} (h : obsA fa fn K = wantA fn) (h' : obsA fa' fn' K = wantA fn') : obsA (fa ++ fa') (fn ++ fn') K = wantA (fn ++ fn') := by
  unfold obsA wantA at *
  simp only [Prod.mk.injEq] at h h'
  obtain ⟨h1, h2⟩ := h
  obtain ⟨h3, h4⟩ := h'
  obtain ⟨a1, a2⟩ := ba h1
  obtain ⟨b1, b2⟩ := ba h3
  rw [List.all_append, List.all_append, List.map_append, List.map_append, h2, h4, a1, a2, b1, b2]
  rfl
theorem PartEq.app {r : OpenRow} {M : Nat} {as : List Addr} {fa fa' : List Fact} {fn fn' : List DefA} {w : World} (h : PartEq r M as fa fn w) (h' : PartEq r M as fa' fn' w) : PartEq r M as (fa ++ fa') (fn ++ fn') w := by
  intro os
  have e := h os
  have e' := h' os
  cases q : endF (stepQ (denQ tabQ) r.prog w) M r.prog w os with
  | none => rw [q] at e; cases e
  | some s =>
    rw [q] at e e'
    have e1 : obsL as fa fn (getT s) = wantA fn := Option.some.inj e
    have e2 : obsL as fa' fn' (getT s) = wantA fn' := Option.some.inj e'
    show some (obsL as (fa ++ fa') (fn ++ fn') (getT s)) = _
    exact congrArg some (obsA_app e1 e2)
theorem run_join {r : OpenRow} {q : Program} {M : Nat} {as : List Addr} {loose : List PySem.Str} {fa : List Fact} {fn : List DefA} {w : World} (h0 : BaseEq r q M loose w) (h : PartEq r M as fa fn w) :
    RunEq r q (hookL as fa fn) (fun s => obsL as fa fn (getT s)) M loose w := by
  intro os
  have e0 := h0 os
  have e := h os
  cases z : endF (stepQ (denQ tabQ) r.prog w) M r.prog w os with
  | none => rw [z] at e; cases e
  | some s =>
    rw [z] at e0 e
    have e1 := Option.some.inj e0
    have e2 : obsL as fa fn (getT s) = wantA fn := Option.some.inj e
    simp only [Prod.mk.injEq] at e1
    exact congrArg some (Prod.ext e1.1 (Prod.ext e1.2 e2))
end HP
namespace HP
open PySem PySem.Spec PyProof.Rows L2 He HandSHeadRun PySem.W
/-- what isinstance asks of a caught exception's class -/
def excCB (x : Str) : Fact := fun K => eqO (findIn K (.ref (ga K x)) "__getattribute__") (some (some (.builtin "BaseException.__getattribute__"))) && (eqO (findIn K (.ref (ga K x)) "__getattr__") (some none) && (decide (subIn K (.ref (ga K x)) (.type "BaseException") = some true) && (hasDictIn K (ga K x) &&
  (eqO (findIn K (.ref (ga K x)) "__class__") (some (some (.builtin "object.__class__"))) && (eqO (specialIn K (.builtin "object.__class__") "__get__") (some (some (.builtin "getset_descriptor.__get__"))) && (decide (takesIn K (.builtin "object.__class__") = some true) && decide (mroIn K (ga K x) (.type "object") = some true)))))))
theorem excCB_ok {x : Str} {K : Frag} (h : excCB x K = true) : ExcC K (ga K x) := by
  obtain ⟨h1, h⟩ := ba h
  obtain ⟨h2, h⟩ := ba h
  obtain ⟨h3, h⟩ := ba h
  obtain ⟨h4, h⟩ := ba h
  obtain ⟨h5, h⟩ := ba h
  obtain ⟨h6, h⟩ := ba h
  obtain ⟨h7, h8⟩ := ba h
  exact ⟨eqO_ok h1, eqO_ok h2, of_decide_eq_true h3, h4, eqO_ok h5, eqO_ok h6, of_decide_eq_true h7, of_decide_eq_true h8⟩
end HP

set_option Elab.async false
set_option linter.all false
set_option maxRecDepth 100000
set_option maxHeartbeats 4000000
/-! facts about own exceptions with an own __init__ -/
namespace HX
open PySem PySem.Spec PyProof.Rows L2 He HandSHeadRun PySem.W HP
def oexK (K : Frag) (C : Addr) : Bool := match K.lookup C with
  | some ⟨.type "type", _, .cls cd, sl⟩ => (match cd.mro, sl.toList with
    | .ref C' :: bm, [_, _, _, _, some (.builtin n), _] => C' == C && n == "ValueError.__new__" && !cd.hasDel && cd.hasDict && PySem.HandSPX.refsVE bm
    | _, _ => false)
  | _ => false
def oexB (x : Str) : Fact := fun K => oexK K (ga K x) && (eqO (findIn K (.ref (ga K x)) "__setattr__") (some (some (.builtin "object.__setattr__"))) && (decide (subIn K (.ref (ga K x)) (.type "BaseException") = some true) && (decide (typeIn K (.ref (ga K x)) = some (.type "type")) && keepIn K (.ref (ga K x)))))
theorem oexB_ok {x : Str} {K : Frag} (h : oexB x K = true) : OexC K (ga K x) := by
  obtain ⟨q, h⟩ := ba h
  obtain ⟨h2, h⟩ := ba h
  obtain ⟨h3, h⟩ := ba h
  obtain ⟨h4, h5⟩ := ba h
  refine ⟨?_, eqO_ok h2, of_decide_eq_true h3, of_decide_eq_true h4, h5⟩
  unfold oexK at q
  split at q
  · rename_i dd cd sl ho
    split at q
    · rename_i C' bm k0 k1 k2 k3 n k5 hm hs
      simp only [Bool.and_eq_true, beq_iff_eq, Bool.not_eq_true'] at q
      obtain ⟨⟨⟨⟨rfl, rfl⟩, hdel⟩, hdi⟩, ht⟩ := q
      obtain ⟨nm, bs, mro, ns, qn, hd, sn, sub, ab, col, del⟩ := cd
      dsimp only at hm hdel hdi
      subst hm hdel hdi
      have hsl : sl = #[k0, k1, k2, k3, some (.builtin "ValueError.__new__"), k5] := by
        obtain ⟨l⟩ := sl
        simp only at hs
        rw [hs]
      subst hsl
      exact ⟨nm, qn, ns, bs, bm, sn, sub, ab, col, dd, k0, k1, k2, k3, k5, ho, ht⟩
    · cases q
  · cases q
/-- an own __init__ -/
def oinB (x : Str) : Fact := fun K => eqO (findIn K (.ref (ga K x)) "__init__") (some (some (.ref (fAd K (x, some "__init__"))))) && decide (typeIn K (.ref (fAd K (x, some "__init__"))) = some (.type "function"))
theorem oinB_ok {x : Str} {K : Frag} (h : oinB x K = true) : findIn K (.ref (ga K x)) "__init__" = some (some (.ref (fAd K (x, some "__init__")))) ∧ typeIn K (.ref (fAd K (x, some "__init__"))) = some (.type "function") := by
  obtain ⟨h1, h2⟩ := ba h
  exact ⟨eqO_ok h1, of_decide_eq_true h2⟩
/-- Base.__init__ of an own class over ValueError without an own one -/
def ceB (x : Str) : Fact := fun K => eqO (specialIn K (.ref (ga K x)) "__getattribute__") (some (some (.builtin "type.__getattribute__"))) && (decide (typeIn K (.ref (ga K x)) = some (.type "type")) && (readsIn K (ga K x) (.type "type") && (match findCls K (.ref (ga K x)) (.type "type") "__init__" with
  | some (.val (.builtin b)) => b == "ValueError.__init__"
  | _ => false)))
theorem ceB_ok {x : Str} {K : Frag} (h : ceB x K = true) : specialIn K (.ref (ga K x)) "__getattribute__" = some (some (.builtin "type.__getattribute__")) ∧ typeIn K (.ref (ga K x)) = some (.type "type") ∧ readsIn K (ga K x) (.type "type") = true ∧ findCls K (.ref (ga K x)) (.type "type") "__init__" = some (.val (.builtin "ValueError.__init__")) := by
  obtain ⟨h1, h⟩ := ba h
  obtain ⟨h2, h⟩ := ba h
  obtain ⟨h3, h4⟩ := ba h
  refine ⟨eqO_ok h1, of_decide_eq_true h2, h3, ?_⟩
  split at h4
  · rename_i b e
    rw [e, beq_iff_eq.mp h4]
  · cases h4
/-- no attribute of the class -/
def noB (x f : Str) : Fact := fun K => eqO (findIn K (.ref (ga K x)) f) (some none)
theorem noB_ok {x f : Str} {K : Frag} (h : noB x f K = true) : findIn K (.ref (ga K x)) f = some none := eqO_ok h
end HX

set_option Elab.async false
set_option linter.all false
set_option maxRecDepth 100000
set_option maxHeartbeats 4000000
/-! values as data: lists, tuples, small dicts, flat values; their repr, their type -/
namespace DQ
open PySem PySem.Spec PyProof.Rows L2 RT
mutual
inductive Dq (H : Hp) : V → PyData → Prop
  | non : Dq H .non .none
  | bl (b : Bool) : Dq H (.bl b) (.bool b)
  | int (i : Int) : Dq H (.int i) (.int i)
  | str (x : Str) : Dq H (.str x) (.str x)
  | lst {a : Addr} {xs : List V} {ds : List PyData} (e : H a = some (.lst xs)) (h : DqA H xs ds) : Dq H (.ref a) (.list ds)
  | tup {a : Addr} {xs : List V} {ds : List PyData} (e : H a = some (.tup xs)) (h : DqA H xs ds) : Dq H (.ref a) (.tuple ds)
  | d0 {a : Addr} (e : H a = some (.dT [])) : Dq H (.ref a) (.dict [])
  | d1 {a : Addr} {k : Int} {v : V} {d : PyData} (e : H a = some (.dK [(.inl k, v)])) (h : Dq H v d) : Dq H (.ref a) (.dict [(.int k, d)])
inductive DqA (H : Hp) : List V → List PyData → Prop
  | nil : DqA H [] []
  | cons {v : V} {vs : List V} {d : PyData} {ds : List PyData} (h : Dq H v d) (t : DqA H vs ds) : DqA H (v :: vs) (d :: ds)
end
mutual
theorem Dq.same {H H' : Hp} (e : Same H H') : ∀ {v : V} {d : PyData}, Dq H v d → Dq H' v d
  | _, _, .non => .non
  | _, _, .bl b => .bl b
  | _, _, .int i => .int i
  | _, _, .str x => .str x
  | _, _, .lst h k => .lst (e _ _ h) (DqA.same e k)
  | _, _, .tup h k => .tup (e _ _ h) (DqA.same e k)
  | _, _, .d0 h => .d0 (e _ _ h)
  | _, _, .d1 h k => .d1 (e _ _ h) (Dq.same e k)
theorem DqA.same {H H' : Hp} (e : Same H H') : ∀ {vs : List V} {ds : List PyData}, DqA H vs ds → DqA H' vs ds
  | _, _, .nil => .nil
  | _, _, .cons h t => .cons (Dq.same e h) (DqA.same e t)
end
theorem DqA.len {H : Hp} : ∀ {vs : List V} {ds : List PyData}, DqA H vs ds → vs.length = ds.length
  | _, _, .nil => rfl
  | _, _, .cons _ t => congrArg (· + 1) t.len
theorem DqA.app {H : Hp} : ∀ {vs us : List V} {ds es : List PyData}, DqA H vs ds → DqA H us es → DqA H (vs ++ us) (ds ++ es)
  | _, _, _, _, .nil, k => k
  | _, _, _, _, .cons h t, k => .cons h (t.app k)
theorem DqA.take {H : Hp} : ∀ {vs : List V} {ds : List PyData} (n : Nat), DqA H vs ds → DqA H (vs.take n) (ds.take n)
  | _, _, 0, _ => .nil
  | _, _, _ + 1, .nil => .nil
  | _, _, n + 1, .cons h t => .cons h (t.take n)
theorem DqA.drop {H : Hp} : ∀ {vs : List V} {ds : List PyData} (n : Nat), DqA H vs ds → DqA H (vs.drop n) (ds.drop n)
  | _, _, 0, h => h
  | _, _, _ + 1, .nil => .nil
  | _, _, n + 1, .cons _ t => t.drop n
theorem DqA.get {H : Hp} : ∀ {vs : List V} {ds : List PyData}, DqA H vs ds → ∀ {i : Nat} {v : V}, vs[i]? = some v → ∃ d, ds[i]? = some d ∧ Dq H v d
  | _, _, .nil, i, v, e => by cases e
  | _, _, .cons h r, 0, v, e => by cases e; exact ⟨_, rfl, h⟩
  | _, _, .cons h r, i + 1, v, e => r.get e
/-- the module table is no list -/
def SysOk (K : PySem.W.Frag) : Prop := ∃ o, K.lookup sysModules = some o ∧ o.cls ≠ .type "list"
def sysB : HP.Fact := fun K => match K.lookup sysModules with
  | some o => !decide (o.cls = .type "list")
  | none => false
theorem sysB_ok {K : PySem.W.Frag} (h : sysB K = true) : SysOk K := by
  unfold sysB at h
  split at h
  · rename_i o e
    exact ⟨o, e, fun z => by rw [decide_eq_true z] at h; cases h⟩
  · cases h
section
variable {X : Cx} {pins : List (Addr × Obj)} {σ : L2.St} {H : Hp} {s : Shared}
theorem keyIs_inl {k : Int} {v : Value} (h : keyIs (.inl k) v = true) : ∃ t, v = .int k t := by
  rcases keyIs_shape h with ⟨i, t, e, rfl⟩ | ⟨x, t, e, _⟩
  · cases e
    exact ⟨t, rfl⟩
  · cases e
theorem PairsOne {knd : KeyKind X.prog X.w L2.Key} {en : DictEntry} {rest : List DictEntry} {k : L2.Key} {v : Value} (h : Pairs knd (en :: rest) [(k, v)]) : knd.is k en.key = true ∧ en.val = v ∧ rest = [] := by
  generalize e : [(k, v)] = l at h
  cases h with
  | cons h1 h2 h3 =>
    cases e
    cases h3
    exact ⟨h1, h2, rfl⟩
mutual
theorem Dq.reads (I : Inv X pins σ H s) (sm : SysOk X.K) : ∀ {v : V} {d : PyData}, Dq H v d → ∀ {u : Value}, RelV v u → ∃ as, Reads s.heap u d as ∧ sysModules ∉ as
  | _, _, .non, u, r => by cases r; exact ⟨_, Reads.none, List.not_mem_nil⟩
  | _, _, .bl b, u, r => by cases r; exact ⟨_, Reads.bool b, List.not_mem_nil⟩
  | _, _, .int i, u, r => by obtain ⟨t, rfl⟩ := r; exact ⟨_, Reads.int i t, List.not_mem_nil⟩
  | _, _, .str x, u, r => by obtain ⟨t, rfl⟩ := r; exact ⟨_, Reads.str x t, List.not_mem_nil⟩
  | _, _, .lst (a := a) h k, u, r => by
    cases r
    obtain ⟨_, its, n, rv, e⟩ := I.hok a _ h
    obtain ⟨as, hr, hn⟩ := DqA.reads I sm k rv
    refine ⟨a :: as, Reads.list e rfl rfl (by simpa using hr), fun z => ?_⟩
    rcases List.mem_cons.mp z with z | z
    · obtain ⟨o, ho, hc⟩ := sm
      have := I.kIn _ _ ho
      rw [z, e] at this
      cases this
      exact hc rfl
    · exact hn z
  | _, _, .tup (a := a) h k, u, r => by
    cases r
    obtain ⟨_, its, rv, o, ho, hc, n, hd⟩ := I.hok a _ h
    obtain ⟨as, hr, hn⟩ := DqA.reads I sm k rv
    exact ⟨as, Reads.tuple ho hc hd (by simpa using hr), hn⟩
  | _, _, .d0 (a := a) h, u, r => by
    cases r
    obtain ⟨_, ne, xs, px, o, es, ep, ho, hx, hd, he, _⟩ := I.hok a _ h
    cases px
    refine ⟨a :: [] ++ [], Reads.dict ho hx.1 hd ?_ ?_, fun z => ?_⟩
    · rw [he]; exact ReadsAll.nil
    · rw [he]; exact ReadsAll.nil
    · rcases List.mem_cons.mp z with z | z
      · rw [← z] at ne
        cases ne
      · cases z
  | _, _, .d1 (a := a) h k, u, r => by
    cases r
    obtain ⟨_, ne, vs, kv, o, es, ep, ho, hx, hd, ks, ps, _⟩ := I.hok a _ h
    cases kv with
    | cons p t =>
      cases t
      cases es_e : es.toList with
      | nil => rw [es_e] at ps; cases ps
      | cons en rest =>
        rw [es_e] at ps
        rename_i b
        obtain ⟨bk, bv⟩ := b
        obtain ⟨p1, p2⟩ := p
        simp only at p1 p2
        obtain ⟨hk, hv, hr0⟩ := PairsOne ps
        subst hr0
        rw [← p1] at hk
        rw [← hv] at p2
        obtain ⟨t, ek⟩ := keyIs_inl hk
        obtain ⟨as, hr, hn⟩ := Dq.reads I sm k p2
        refine ⟨a :: ([] ++ []) ++ (as ++ []), Reads.dict ho hx.1 hd ?_ ?_, fun z => ?_⟩
        · rw [es_e]
          show ReadsAll s.heap [en.key] [.int _] ([] ++ [])
          rw [ek]
          exact .cons (.int _ t) .nil
        · rw [es_e]
          show ReadsAll s.heap [en.val] [_] (as ++ [])
          exact .cons hr .nil
        · rw [List.append_nil, List.append_nil] at z
          rcases List.mem_cons.mp z with z | z
          · rw [← z] at ne
            cases ne
          · exact hn z
theorem DqA.reads (I : Inv X pins σ H s) (sm : SysOk X.K) : ∀ {vs : List V} {ds : List PyData}, DqA H vs ds → ∀ {us : List Value}, Vals vs us → ∃ as, ReadsAll s.heap us ds as ∧ sysModules ∉ as
  | _, _, .nil, us, r => by cases r; exact ⟨_, ReadsAll.nil, List.not_mem_nil⟩
  | _, _, .cons h t, us, r => by
    cases r with
    | cons r1 r2 =>
      obtain ⟨as, q1, n1⟩ := Dq.reads I sm h r1
      obtain ⟨bs, q2, n2⟩ := DqA.reads I sm t r2
      exact ⟨_, ReadsAll.cons q1 q2, fun z => (List.mem_append.mp z).elim n1 n2⟩
end

/-- repr of data, small dicts too -/
def rReprQ (K : PySem.W.Frag) : List V → Hp → VK → Prop := fun xs H Q => ∃ (a : Addr) (d : PyData), xs = [.ref a] ∧ Dq H (.ref a) d ∧ d.showable = true ∧ d.depth ≤ 40 ∧ d.shown.length ≤ sizeLine ∧ Q (.str d.shown) H
theorem call_reprQ (sm : SysOk X.K) (hG : X.A.guards = some []) (hu : X.A.units + 64 < cLine) : CallR X (.builtin "repr") (rReprQ X.K) := by
  intro pins s σ H xs us Q I r h
  obtain ⟨a, d, rfl, D, hs, hz, hl, q⟩ := h
  obtain ⟨u, rfl, ru⟩ := vals1' r
  obtain ⟨as, rd, hn⟩ := D.reads I sm ru
  cases (show u = Value.ref a from ru)
  exact repr_of_reads' rd hs (fun _ => hn) hG (by omega) (fun _ _ e => e) (fun h' u tk k => ⟨.str d.shown, H, I.kept k, ⟨u, rfl⟩, q⟩) hl
/-- xs.count(y), flat items -/
def rCntF (K : PySem.W.Frag) : V → List V → Hp → VK → Prop := fun x xs H Q => ∃ (p : Addr) (ys : List V) (y : V), x = .ref p ∧ xs = [y] ∧ SqL K H p ys ∧ flatV y = true ∧ ys.all flatV = true ∧ Q (.int (ys.countP (fun z => eqV z y) : Nat)) H
theorem cnt_eq {y : V} : ∀ {ys : List V} {us : List Value}, Vals ys us → ys.all flatV = true → us.countP (eqU y) = ys.countP (fun z => eqV z y)
  | _, _, .nil, _ => rfl
  | z :: ys, u :: us, .cons r t, f => by
    rw [List.all_cons, Bool.and_eq_true] at f
    rw [List.countP_cons, List.countP_cons, cnt_eq t f.2, eqU_of r f.1]
theorem mt_countF : MtR X "list.count" (rCntF X.K) := by
  intro pins s σ H x xs v us Q I rx rxs h
  obtain ⟨p, ys, y, rfl, rfl, hs, fy, fys, q⟩ := h
  cases rx
  obtain ⟨u, rfl, ru⟩ := rxs.one
  obtain ⟨its, rv, ⟨⟨cls, dd, data, sl⟩, n, ho, hc, hdn, hd⟩, hlen⟩ := I.list hs
  simp only at hc hd
  subst hc hd
  refine call_meets PySem.F.slot_list_count ⟨_, ho, rfl⟩ PySem.F.entry_list_count (PySem.F.args_list_count_2 _ _)
    (SeqAt.list_countAt p its.toArray n dd sl u (eqU y)) ⟨ho, fun u' hu' => mem_eqAt ru fy rv fys u' (by simpa using hu'), ?_⟩
  refine ⟨.int _, H, I.tok _, ⟨s.toks, ?_⟩, q⟩
  show Value.int ((its.toArray.toList.countP (eqU y) : Nat) : Int) s.toks = _
  rw [show its.toArray.toList = its from by simp, cnt_eq rv fys]
end
/-! ### kinds -/
def typS : PyData → String
  | .none => "NoneType"
  | .bool _ => "bool"
  | .int _ => "int"
  | .str _ => "str"
  | .list _ => "list"
  | .tuple _ => "tuple"
  | .dict _ => "dict"
theorem Dq.ty {K : PySem.W.Frag} {H : Hp} {v : V} {d : PyData} (h : Dq H v d) : TyY K H v (.type (typS d)) := by
  cases h with
  | non => exact .base (.base .non)
  | bl b => exact .base (.base (.bl b))
  | int i => exact .base (.base (.int i))
  | str x => exact .base (.base (.str x))
  | lst h => exact .base (.base (.lst h))
  | tup h => exact .base (.base (.tup h))
  | d0 h => exact .base (.base (.dT h))
  | d1 h => exact .base (.base (.dK h))
def isI : PyData → Bool
  | .int _ => true
  | _ => false
def isB : PyData → Bool
  | .bool _ => true
  | _ => false
def isT : PyData → Bool
  | .tuple _ => true
  | _ => false
def isL : PyData → Bool
  | .list _ => true
  | _ => false
theorem kit_int {K : PySem.W.Frag} (d : PyData) : PySem.W.kitOne K (.type (typS d)) (.type "int") = some (isI d || isB d) := by
  cases d <;> (refine kit_ty ?_; dsimp only [typS, isI, isB, isT, isL]; decide +kernel)
theorem kit_bool {K : PySem.W.Frag} (d : PyData) : PySem.W.kitOne K (.type (typS d)) (.type "bool") = some (isB d) := by
  cases d <;> (refine kit_ty ?_; dsimp only [typS, isI, isB, isT, isL]; decide +kernel)
theorem kit_tuple {K : PySem.W.Frag} (d : PyData) : PySem.W.kitOne K (.type (typS d)) (.type "tuple") = some (isT d) := by
  cases d <;> (refine kit_ty ?_; dsimp only [typS, isI, isB, isT, isL]; decide +kernel)
theorem kit_list {K : PySem.W.Frag} (d : PyData) : PySem.W.kitOne K (.type (typS d)) (.type "list") = some (isL d) := by
  cases d <;> (refine kit_ty ?_; dsimp only [typS, isI, isB, isT, isL]; decide +kernel)
/-- promises may be joined -/
theorem FnOk_or {P : Program} {w : World} {K : PySem.W.Frag} {mg : Str → Option Value} {base : Heap} {CX : CXT} {k : Nat} {f : Addr} {fd : FuncData} {ps : List Str} {sp sp' : Sp} (F : FnOk P w K mg base CX k f fd ps sp) (G : FnOk P w K mg base CX k f fd ps sp') :
    FnOk P w K mg base CX k f fd ps (fun vs H Q E => sp vs H Q E ∨ sp' vs H Q E) :=
  ⟨fun vs H Q E h => h.elim (F.len vs H Q E) (G.len vs H Q E), fun A outer s H args us vs Q E hr env hb hv h => h.elim (F.run A outer s H args us vs Q E hr env hb hv) (G.run A outer s H args us vs Q E hr env hb hv)⟩
end DQ

set_option Elab.async false
set_option linter.all false
set_option maxRecDepth 100000
set_option maxHeartbeats 4000000
/-! an instance called, by its own __call__; x != y by an own __eq__ -/
namespace PySem.W
open PySem PySem.Spec PySem.Calls PyProof.Rows
theorem rt_callInst {M : Model} {A : Around} {E : Value → Shared → Prop} {s : Shared} {pos : Pos} {x C : Addr} {Q : Value → Shared → Prop} {args : List (Bool × Sem Value)} (plain : (args.any (·.1) || ([] : List (Option Str × Sem Value)).any (·.1.isNone)) = false)
    (h : wpAny M A (evalArgs (.ref x) true args []) (fun a s1 => (∃ ox od, InstAt s1.heap x ox C od ∧ ox.data = .plain) ∧ wpAny M A (call (.ref x) ([] ++ a.pos) a.kw) Q E s1) E s) : wpAny M A (callWith pos (.ref x) [] args []) Q E s := by
  unfold callWith
  refine wpAny_bind (wpAny_holding (wpAny_mono h (fun a s1 h1 => wpAny_bind (wpAny_standAt ?_)) fun _ _ y => y))
  obtain ⟨⟨ox, od, I, hd⟩, go⟩ := h1
  have L := kco_keeper (M := M) I hd
  simp only [plain]
  refine wpAny_bind (L.here (wpAny_bind (wpAny_mono (wpAny_operateT go) (fun r s2 hr => wpAny_bind (wpAny_holding (wpAny_point (wpAny_pure hr)))) fun _ _ y => y)))
/-- x != b where the class has its own __eq__ and object's __ne__: what __eq__ says, turned -/
theorem rt_ne {prog : Program} {w : World} {A : Around} {E : Value → Shared → Prop} {s : Shared} {K : Frag} {x C f : Addr} {ox : Obj} {od : Option Obj} {b tb : Value} {Q : Value → Shared → Prop} (hu : A.units + 1 < cLine) (X : K.In s.heap) (I : InstAt s.heap x ox C od)
    (hb : Looks (model prog w) s.heap (typeOf b) tb) (hn : notFirst K C tb = true) (ne : findIn K (.ref C) "__ne__" = some (some (.builtin "object.__ne__"))) (hm : mroIn K C (.type "object") = some true)
    (eq : findIn K (.ref C) "__eq__" = some (some (.ref f))) (fn : isFn K (.ref f) = true) (h : wpAny (model prog w) A.in1 (call (.ref f) [.ref x, b]) (fun r s' => ∃ k, r = .bool k ∧ Q (.bool (!k)) s') E s) :
    wpAny (model prog w) A (richCompare .NotEq (.ref x) b) Q E s := by
  have inst : Looks (model prog w) s.heap (isInstance (.ref x) (.type "object")) true := I.type.andThen (looks_mroIn X hm)
  have body : wpAny (model prog w) A (call (.builtin "object.__ne__") [.ref x, b]) (fun r s' => ∃ k, r = .bool k ∧ Q (.bool k) s') E s := by
    refine wpAny_call (codeAny_call_builtin F.cmp_object.ne.plain F.cmpEntry_ne (check_slot (owner := "object") (n := "__ne__") F.cmpKind_ne F.cmpSplit_ne inst (F.cmpArgs_ne _ _) ?_))
    unfold Builtin.«object.__ne__»
    refine wpAny_bind (wpAny_of_eq (a := ((Value.ref x : Value), [b])) (by first | rfl | (simp only [slotArgs]; rfl)) ?_)
    refine wpAny_bind (wpAny_cRoomFor hu ?_)
    refine wpAny_bind (ifBound_K X I eq fn (wpAny_mono h (fun r s' z => ?_) fun _ _ z => z))
    obtain ⟨k, rfl, q⟩ := z
    exact wpAny_bind (wpAny_truthy_bool (wpAny_pure ⟨!k, rfl, q⟩))
  have one : wpAny (model prog w) A (tryCompare (.ref x) "__ne__" b) (fun r s' => ∃ v, r = some v ∧ Q v s') E s := by
    unfold tryCompare
    refine wpAny_bind ?_
    simp only [callSpecialIfBound?, bindSpecialIfBound?]
    refine wpAny_holding (wpAny_bind (wpAny_bind (wpAny_bind (I.type.here ((looks_findIn X ne).here ?_)))))
    simp only [F.cmp_object.ne.bind]
    refine wpAny_bind (wpAny_askSetting (wpAny_ite ?_))
    have last : wpAny (model prog w) A (call (.builtin "object.__ne__") ([.ref x] ++ [b]) >>= fun v => pure (some v)) (fun r s' => wpAny (model prog w) A (match r with
        | some .notImplemented | none => pure none
        | some v => pure (some v)) (fun r s' => ∃ v, r = some v ∧ Q v s') E s') E s := by
      refine wpAny_bind (wpAny_mono body (fun r s' z => ?_) fun _ _ z => z)
      obtain ⟨k, rfl, q⟩ := z
      exact wpAny_pure (wpAny_pure ⟨_, rfl, q⟩)
    split
    · exact wpAny_bind (wpAny_pure (wpAny_pure last))
    · exact wpAny_tryCatch (wpAny_bind (wpAny_pure (wpAny_pure last)))
  unfold richCompare
  simp only [oneThing_ref]
  refine wpAny_holding (wpAny_bind (wpAny_cRoomFor (by omega) ?_))
  refine wpAny_bind (I.type.here (wpAny_bind (hb.here ?_)))
  have out : ∀ {g : Option Value → Sem Value}, (∀ v, g (some v) = pure v) → wpAny (model prog w) A (tryCompare (.ref x) "__ne__" b >>= g) Q E s := fun {g} hg => wpAny_bind (wpAny_mono one (fun r s' z => by
    obtain ⟨v, rfl, q⟩ := z
    rw [hg]
    exact wpAny_pure q) fun _ _ z => z)
  split
  · rename_i q
    have e : subIn K tb (.ref C) = some false := by
      rcases Bool.or_eq_true_iff.mp hn with e | e
      · rw [beq_iff_eq.mp e] at q
        simp at q
      · exact beq_iff_eq.mp e
    refine wpAny_bind ((looks_subIn X e).here ?_)
    simp only [Bool.false_eq_true, if_false]
    exact out fun v => rfl
  · refine wpAny_bind (wpAny_pure ?_)
    simp only [Bool.false_eq_true, if_false]
    exact out fun v => rfl
end PySem.W
namespace RT
open PySem PySem.Spec PyProof.Rows L2
section
variable {X : Cx} {CX : CXT} {k i : Nat} {C f : Addr} {fd : FuncData} {ps : List Str} {sp : Sp} {E : XK} {x : Str} {p pos : Pos} {e : Expr} {es : List Expr} {t : TA}
/-- x(e, ..), x a local name that holds an instance of the class at C -/
def tCallO (i : Nat) (C : Addr) (sp : Sp) (E : XK) (t : TA) : TE := fun σ H Q => ∃ a, σ[i]? = some (some (.ref a)) ∧ t σ H fun vs H1 => (∃ dx fs, H1 a = some (.ins C dx fs)) ∧ sp (.ref a :: vs) H1 Q E
theorem pe_callO (hm : Meth X.K C "__call__" f) (hfn : PySem.W.fnIn X.K f = true) (F : FnOk X.prog X.w X.K X.mg X.base CX k f fd ps sp) (hr : Room k X.A) (hN : X.N[i]? = some x) (hv : Vis X.env.scope x) (hb : Binds X.K fd ps []) (hx : Passes CX X E) (ha : PA X (e :: es) t)
    (hdb : (x == ("__debug__" : Str)) = false := by decide) (hcd : (x == ("__classdict__" : Str)) = false := by decide)
    (he : starEach (e :: es) X.env = (false, eval e X.env) :: starEach es X.env := by rfl) (hpl : (backTo pos (starEach es X.env)).any (·.1) = false := by rfl) : PE X (.Call (.Name x p) (e :: es) [] pos) (tCallO i C sp E t) := by
  refine ⟨fun pins s σ H Q I h => ?_⟩
  obtain ⟨a, at_, ht⟩ := h
  refine wpAny_Call_Name_kw (thn ((pe_var (pos := p) hN hv hdb hcd).run pins s σ H (fun v H1 => v = .ref a ∧ H1 = H) I ⟨.ref a, at_, rfl, rfl⟩) fun u s1 ⟨v, H1, I1, r1, q1⟩ => ?_)
  obtain ⟨rfl, rfl⟩ := q1
  cases (show u = Value.ref a from r1)
  rw [he]
  refine PySem.W.rt_callInst (C := C) (by show ((false || (backTo pos (starEach es X.env)).any (·.1)) || false) = false; rw [hpl]; rfl) (Calls.evalArgs_plain ?_)
  have ha' : wpAny (model X.prog X.w) X.A (spliced (backTo pos (starEach (e :: es) X.env))) (AP X pins σ _) X.xe s1 := ha.run pos pins s1 σ _ _ I1 ht
  rw [he] at ha'
  refine thn ha' fun us s2 ⟨vs, H2, I2, r, ⟨dx, fs, ea⟩, q⟩ => ?_
  obtain ⟨mA, O, _⟩ := ins_get I2.hok ea
  obtain ⟨od, J, _⟩ := O.look
  refine ⟨⟨_, some od, J, rfl⟩, ?_⟩
  have r2 : Vals (.ref a :: vs) (.ref a :: us) := .cons rfl r
  have hl : (Value.ref a :: us).length = ps.length := r2.length.symm.trans (F.len _ _ _ _ q)
  have bd := hb s2 (.ref a :: us) I2.kIn (by simpa using hl)
  rw [List.append_nil] at bd
  refine wpAny_call (PySem.W.kco_code I2.kIn J rfl hm.at_ hm.fn hfn (codeAny_mono (F.run X.A X.stack s2 H2 ⟨.ref a :: us, []⟩ (.ref a :: us) (.ref a :: vs) Q E hr I2.env0 bd r2 q) fun r s' hq => ?_))
  match r, hq with
  | .error e, hq => exact hx pins σ H2 s2 e s' I2 hq
  | .ok (.ret u), hq => exact I2.after hq
/-- x != y by x's own __eq__ -/
def rNeO (K : PySem.W.Frag) (C : Addr) (sp : Sp) (E : XK) : R2 := fun x y H Q => ∃ a dx fs t, x = .ref a ∧ H a = some (.ins C dx fs) ∧ ((∃ b dy gs, y = .ref b ∧ H b = some (.ins C dy gs) ∧ t = .ref C) ∨ TyY K H y t) ∧ PySem.W.notFirst K C t = true ∧
  sp [x, y] H (fun v H' => ∃ k, v = .bl k ∧ Q (.bl (!k)) H') E
theorem op_neO (hne : PySem.W.findIn X.K (.ref C) "__ne__" = some (some (.builtin "object.__ne__"))) (hmr : PySem.W.mroIn X.K C (.type "object") = some true) (hm : Meth X.K C "__eq__" f) (F : FnOk X.prog X.w X.K X.mg X.base CX k f fd ps sp) (hr : Room (k + 1) X.A) (hb : Binds X.K fd ps []) (hx : Passes CX X E) :
    OpR X (compareOp .NotEq) (rNeO X.K C sp E) := by
  intro pins s σ H x y v u Q I rx ry h
  obtain ⟨a, dx, fs, t, rfl, ea, ty, hn, q⟩ := h
  cases (show v = Value.ref a from rx)
  obtain ⟨mA, O, _⟩ := ins_get I.hok ea
  obtain ⟨od, J, _⟩ := O.look
  have L : PySem.W.Looks (model X.prog X.w) s.heap (typeOf u) t := by
    rcases ty with ⟨b, dy, gs, rfl, eb, rfl⟩ | ty
    · cases (show u = Value.ref b from ry)
      obtain ⟨mB, O', _⟩ := ins_get I.hok eb
      obtain ⟨od', J', _⟩ := O'.look
      exact J'.type
    · obtain ⟨P, Z, p, _⟩ := kit_ofY I ry ty
      exact Z.ty _ _ I.kIn p
  show wpAny _ _ (richCompare .NotEq (.ref a) u) _ _ _
  have r2 : Vals [V.ref a, y] [Value.ref a, u] := .cons rfl (.cons ry .nil)
  have hl : ([Value.ref a, u] : List Value).length = ps.length := r2.length.symm.trans (F.len _ _ _ _ q)
  have bd := hb s [.ref a, u] I.kIn (by simpa using hl)
  rw [List.append_nil] at bd
  refine PySem.W.rt_ne (tb := t) (by have := hr.units; omega) I.kIn J L hn hne hmr hm.at_ hm.fn (wpAny_call (codeAny_mono (F.run X.A.in1 X.stack s H ⟨[.ref a, u], []⟩ [.ref a, u] [.ref a, y] _ E hr.in1 I.env0.in1 bd r2 q) fun r s' hq => ?_))
  match r, hq with
  | .error e, hq => exact hx pins σ H s e s' I hq
  | .ok (.ret z), hq =>
    obtain ⟨v, H', I', rv, b, rfl, qz⟩ := I.after hq
    cases (show z = Value.bool b from rv)
    exact ⟨b, rfl, .bl (!b), H', I', rfl, qz⟩
end
end RT

set_option Elab.async false
set_option linter.all false
set_option maxRecDepth 100000
set_option maxHeartbeats 4000000
/-! d.get(k, x) of a written dict with text keys; a head with such tables, and keyword defaults that are objects -/
namespace RT
open PySem PySem.Spec PyProof.Rows L2
def tKGet2 (K : PySem.W.Frag) (w : World) (td ty tx : TE) : TE := fun σ H Q => td σ H fun x H1 => ∃ (d : Addr) (es : Array DictEntry) (n : Nat), x = .ref d ∧ KDict K w d es n ∧ ty σ H1 fun y H2 => tx σ H2 fun z H3 =>
  ∃ k : Str, y = .str k ∧ ((PySem.W.nsIn K d k = some none ∧ Q z H3) ∨ ∃ (u : Value) (v : V), PySem.W.nsIn K d k = some (some u) ∧ RelV v u ∧ Q v H3)
section
variable {X : Cx} {o e f : Expr} {apos cpos : Pos} {td ty tx : TE}
theorem pe_kget2 (ho : PE X o td) (he : PE X e ty) (hf : PE X f tx) (m : M2 X o "get" apos e f cpos) : PE X (.Call (.Attribute o "get" apos) [e, f] [] cpos) (tKGet2 X.K X.w td ty tx) := by
  refine ⟨fun pins s σ H Q I h => ?_⟩
  refine wpAny_Call_method m.base m.few m.line PySem.F.plainAttrs_dict PySem.F.slot_dict_get PySem.F.type_dict_get (thn (ho.run pins s σ H _ I h) fun u s1 ⟨x, H1, I1, rx, d, es, n, ex, D, q1⟩ => ?_)
  subst ex
  obtain rfl : u = Value.ref d := rx
  refine ⟨kd_type D I1, fun b q => ?_, ?_⟩
  · cases q
    exact ⟨_, I1.kIn _ _ D.at_, rfl⟩
  rw [m.trees]
  refine Calls.callWith_builtin rfl (Calls.evalArgs_plain (Calls.spliced_cons (thn (he.run pins s1 σ H1 _ I1 q1) fun iv s2 ⟨y, H2, I2, ry, q2⟩ =>
    Calls.spliced_cons (thn (hf.run pins s2 σ H2 _ I2 q2) fun fv s3 ⟨z, H3, I3, rz, k, ey, q3⟩ => Calls.spliced_nil ?_))))
  subst ey
  obtain ⟨t, rfl⟩ := ry
  have hm := PySem.W.mapOf_K (prog := X.prog) (w := X.w) I3.kIn D.at_ D.lit
  refine call_meetsIn PySem.F.slot_dict_get hm.typeIs PySem.F.entry_dict_get (PySem.F.args_dict_get_3 _ _ _) (meets_dict_get_default (strKind X.prog X.w) d (PySem.strKind_is X.prog X.w k t) D.low fv) ⟨_, hm, ?_⟩
  rcases q3 with ⟨e1, q⟩ | ⟨u0, v0, e1, r1, q⟩
  · rw [PySem.W.find_K D.at_ e1]
    exact ⟨z, H3, I3.tok _, rz, q⟩
  · rw [PySem.W.find_K D.at_ e1]
    exact ⟨v0, H3, I3.tok _, r1, q⟩
end
end RT
namespace HQ
open PySem PySem.Spec PyProof.Rows L2 He HP
/-- a keyword default that is an object -/
def kwAt (f : Str) (x : Str) (K : PySem.W.Frag) : Addr := match K.lookup (fAd K (f, none)) with
  | some ⟨_, _, .func fd, _⟩ => (match fd.kwdefaults with
    | .ref D => (match PySem.W.nsIn K D x with
      | some (some (.ref a)) => a
      | _ => 0)
    | _ => 0)
  | _ => 0
def tupAt (p : PySem.W.Frag → Addr) (xs : List V) : Fact := fun K => match K.lookup (p K) with
  | some o => eqO (some (some o.cls)) (some (some (.type "tuple"))) && (match o.data with
    | .seq its _ => decide (its.toList.map flatOf = xs.map some) && decide (its.size ≤ sizeLine)
    | _ => false)
  | none => false
theorem tupAt_ok {p : PySem.W.Frag → Addr} {xs : List V} {K : PySem.W.Frag} (h : tupAt p xs K = true) : ∀ H : Hp, SqT K H (p K) xs := by
  intro H
  unfold tupAt at h
  split at h
  · rename_i o e
    obtain ⟨h1, h2⟩ := ba h
    split at h2
    · rename_i its n ed
      obtain ⟨h3, h4⟩ := ba h2
      exact .inr ⟨o, its, n, e, Option.some.inj (Option.some.inj (eqO_ok h1)), ed, of_decide_eq_true h4, flats_ok (of_decide_eq_true h3)⟩
    · cases h2
  · cases h
/-- what stands at a key of a table of the top -/
def nsAt (x : Str) (k : Str) (K : PySem.W.Frag) : Option (Option Value) := PySem.W.nsIn K (ga K x) k
def missB (x k : Str) : Fact := fun K => decide (nsAt x k K = some none)
def hasB (x k : Str) (v : Dv) : Fact := fun K => match nsAt x k K with
  | some (some u) => relB (v.v K) u
  | _ => false
theorem hasB_ok {x k : Str} {v : Dv} {K : PySem.W.Frag} (h : hasB x k v K = true) : ∃ u, PySem.W.nsIn K (ga K x) k = some (some u) ∧ RelV (v.v K) u := by
  unfold hasB nsAt at h
  split at h
  · rename_i u e
    exact ⟨u, e, relB_ok h⟩
  · cases h
/-- the value of a table at a key, if it is an object -/
def valAt (x k : Str) (K : PySem.W.Frag) : Addr := match nsAt x k K with
  | some (some (.ref a)) => a
  | _ => 0
abbrev AlQ := HP.Al × List (Option (List (Option (Str × Int))))
def obsQ (fa : List Fact) (fn : List DefA) (ts : List Tab) (K : PySem.W.Frag) : AlQ := (obsA fa fn K, ts.map fun t => dicW K (t.1 K))
def valQ (fn : List DefA) (ts : List Tab) (w : World) : AlQ := (wantA fn, ts.map fun t => some (keysIn w.params t.2))
def obsQG (n : Nat) (fa : List Fact) (fn : List DefA) (ts : List Tab) (g : Addr → Option Obj) : AlQ := obsQ fa fn ts (frG g (asD g n))
structure SaysQ (fa : List Fact) (fn : List DefA) (ts : List Tab) (w : World) (K : PySem.W.Frag) : Prop where
  eq : obsQ fa fn ts K = valQ fn ts w
def hookQ (n : Nat) (fa : List Fact) (fn : List DefA) (ts : List Tab) : PySem.W.Hook where
  α := AlQ
  obs := fun s => obsQG n fa fn ts s.heap.get?
  val := fun w => valQ fn ts w
  says := fun w h => ∃ K : PySem.W.Frag, K.In h ∧ SaysQ fa fn ts w K
  of := fun _ _ e => ⟨_, frG_in, ⟨e⟩⟩
  keeps := fun _ _ _ ⟨K, hK, c⟩ k => ⟨K, PySem.W.Frag.In.keeps hK k, c⟩
theorem obsQG_eq {n : Nat} {fa : List Fact} {fn : List DefA} {ts : List Tab} {g : Addr → Option Obj} {s : Shared} (h : ∀ a, g a = s.heap.get? a) : obsQG n fa fn ts g = (hookQ n fa fn ts).obs s := by
  rw [show g = s.heap.get? from funext h] <;> rfl
section
variable {fa : List Fact} {fn : List DefA} {ts : List Tab} {w : World} {K : PySem.W.Frag}
theorem SaysQ.a (c : SaysQ fa fn ts w K) : SaysA fa fn K := ⟨congrArg (fun z : AlQ => z.1) c.eq⟩
theorem SaysQ.tab (c : SaysQ fa fn ts w K) (i : Nat) {t : Tab} (h : ts[i]? = some t := by rfl) : ∃ es n, KDict K w (t.1 K) es n := by
  have e : ts.map (fun t => dicW K (t.1 K)) = ts.map fun t => some (keysIn w.params t.2) := congrArg (fun z : AlQ => z.2) c.eq
  have e2 : (ts.map fun t => dicW K (t.1 K))[i]? = (ts.map fun t => some (keysIn w.params t.2))[i]? := by rw [e]
  rw [List.getElem?_map, List.getElem?_map, h] at e2
  exact dicW_ok (Option.some.inj e2)
end
end HQ

set_option Elab.async false
set_option linter.all false
set_option maxRecDepth 100000
set_option maxHeartbeats 4000000
/-! the run in parts, with tables -/
namespace HQ
open PySem PySem.Spec PyProof.Rows L2 He HP HandSHeadRun PySem.W
def obsLQ (as : List Addr) (fa : List Fact) (fn : List DefA) (ts : List Tab) (g : Addr → Option Obj) : AlQ := obsQ fa fn ts (frG g as)
def hookLQ (as : List Addr) (fa : List Fact) (fn : List DefA) (ts : List Tab) : PySem.W.Hook where
  α := AlQ
  obs := fun s => obsLQ as fa fn ts s.heap.get?
  val := fun w => valQ fn ts w
  says := fun w h => ∃ K : PySem.W.Frag, K.In h ∧ SaysQ fa fn ts w K
  of := fun _ _ e => ⟨_, frG_in, ⟨e⟩⟩
  keeps := fun _ _ _ ⟨K, hK, c⟩ k => ⟨K, PySem.W.Frag.In.keeps hK k, c⟩
theorem obsLQ_eq {as : List Addr} {fa : List Fact} {fn : List DefA} {ts : List Tab} {g : Addr → Option Obj} {s : Shared} (h : ∀ a, g a = s.heap.get? a) : obsLQ as fa fn ts g = (hookLQ as fa fn ts).obs s := by
  rw [show g = s.heap.get? from funext h] <;> rfl
def TabEq (r : OpenRow) (M : Nat) (as : List Addr) (ts : List Tab) (w : World) : Prop :=
  ∀ os : OsState, (endF (stepQ (denQ tabQ) r.prog w) M r.prog w os).map (fun s => ts.map fun t => dicW (frG (getT s) as) (t.1 (frG (getT s) as))) = some (ts.map fun t => some (keysIn w.params t.2))
theorem run_joinQ {r : OpenRow} {q : Program} {M : Nat} {as : List Addr} {loose : List PySem.Str} {fa : List Fact} {fn : List DefA} {ts : List Tab} {w : World} (h0 : BaseEq r q M loose w) (h : PartEq r M as fa fn w) (ht : TabEq r M as ts w) :
    RunEq r q (hookLQ as fa fn ts) (fun s => obsLQ as fa fn ts (getT s)) M loose w := by
  intro os
  have e0 := h0 os
  have e := h os
  have et := ht os
  cases z : endF (stepQ (denQ tabQ) r.prog w) M r.prog w os with
  | none => rw [z] at e; cases e
  | some s =>
    rw [z] at e0 e et
    have e1 := Option.some.inj e0
    have e2 : obsL as fa fn (getT s) = wantA fn := Option.some.inj e
    have e3 := Option.some.inj et
    simp only [Prod.mk.injEq] at e1
    exact congrArg some (Prod.ext e1.1 (Prod.ext e1.2 (Prod.ext e2 e3)))
end HQ

set_option Elab.async false
set_option linter.all false
set_option maxRecDepth 100000
set_option maxHeartbeats 4000000
namespace K04
open PySem PySem.Spec PyProof.Rows L2 RT
def top (i : Nat) : Stmt := PySem.Challenge.pw_plotpens_k04_operator_errors.main.body.getD i (.Pass ⟨0, 0, 0, 0⟩)
abbrev s_wall : Stmt := top 0
abbrev sInvalidText_init : Stmt := inClass (top 3) 0
abbrev sInvalidSource_init : Stmt := inClass (top 4) 0
abbrev sTooDeep_init : Stmt := inClass (top 5) 0
abbrev sTooLarge_init : Stmt := inClass (top 6) 0
abbrev sis_integer : Stmt := top 35
abbrev sis_integer_within : Stmt := top 36
abbrev sis_decimal : Stmt := top 37
abbrev scheck_times : Stmt := top 38
abbrev swords_of : Stmt := top 45
abbrev sis_letter : Stmt := top 46
abbrev snumber_of : Stmt := top 47
abbrev swrong_word : Stmt := top 48
abbrev smirrored : Stmt := top 49
abbrev sbackward : Stmt := top 50
abbrev s_is_counted : Stmt := top 51
abbrev s_is_number : Stmt := top 52
abbrev sPart_init : Stmt := inClass (top 54) 0
abbrev ssize_of : Stmt := top 55
abbrev slevels_of : Stmt := top 56
abbrev sparts_of_words : Stmt := top 57
abbrev s_parts_from : Stmt := top 58
abbrev scount_in : Stmt := top 59
abbrev sProgram_init : Stmt := inClass (top 61) 0
abbrev sProgram_text : Stmt := inClass (top 61) 1
abbrev sProgram_length : Stmt := inClass (top 61) 2
abbrev sProgram_depth : Stmt := inClass (top 61) 3
abbrev sProgram_len : Stmt := inClass (top 61) 4
abbrev sProgram_eq : Stmt := inClass (top 61) 5
abbrev sProgram_contains : Stmt := inClass (top 61) 6
abbrev sProgram_add : Stmt := inClass (top 61) 7
abbrev sProgram_mul : Stmt := inClass (top 61) 8
abbrev sProgram_neg : Stmt := inClass (top 61) 9
abbrev sProgram_invert : Stmt := inClass (top 61) 10
abbrev scheck_text : Stmt := top 62
abbrev scheck_program : Stmt := top 63
abbrev s_law_bag : Stmt := top 65
abbrev s_law_pick : Stmt := top 66
abbrev s_law_number : Stmt := top 67
abbrev s_law_words : Stmt := top 68
abbrev s_law_length : Stmt := top 69
abbrev s_law_steps : Stmt := top 70
abbrev s_law_short : Stmt := top 71
abbrev s_law_class : Stmt := top 72
abbrev s_law_told : Stmt := top 73
abbrev s_law_made_right : Stmt := top 74
abbrev s_law_sizes_right : Stmt := top 75
abbrev slaw : Stmt := top 76
abbrev NInvalidText_init : List Str := ["self", "index"]
theorem scInvalidText_init : FnScope NInvalidText_init ["self", "index"] (defScope sInvalidText_init) := ⟨rfl, rfl, rfl, by decide +kernel, rfl, by decide +kernel, by decide +kernel⟩
abbrev NInvalidSource_init : List Str := ["self", "line", "index"]
theorem scInvalidSource_init : FnScope NInvalidSource_init ["self", "line", "index"] (defScope sInvalidSource_init) := ⟨rfl, rfl, rfl, by decide +kernel, rfl, by decide +kernel, by decide +kernel⟩
abbrev NTooDeep_init : List Str := ["self", "limit"]
theorem scTooDeep_init : FnScope NTooDeep_init ["self", "limit"] (defScope sTooDeep_init) := ⟨rfl, rfl, rfl, by decide +kernel, rfl, by decide +kernel, by decide +kernel⟩
abbrev NTooLarge_init : List Str := ["self", "limit"]
theorem scTooLarge_init : FnScope NTooLarge_init ["self", "limit"] (defScope sTooLarge_init) := ⟨rfl, rfl, rfl, by decide +kernel, rfl, by decide +kernel, by decide +kernel⟩
abbrev Nis_integer : List Str := ["value"]
theorem scis_integer : FnScope Nis_integer ["value"] (defScope sis_integer) := ⟨rfl, rfl, rfl, by decide +kernel, rfl, by decide +kernel, by decide +kernel⟩
abbrev Nis_integer_within : List Str := ["value", "least", "most"]
theorem scis_integer_within : FnScope Nis_integer_within ["value", "least", "most"] (defScope sis_integer_within) := ⟨rfl, rfl, rfl, by decide +kernel, rfl, by decide +kernel, by decide +kernel⟩
abbrev Nis_decimal : List Str := ["word"]
theorem scis_decimal : FnScope Nis_decimal ["word"] (defScope sis_decimal) := ⟨rfl, rfl, rfl, by decide +kernel, rfl, by decide +kernel, by decide +kernel⟩
abbrev Ncheck_times : List Str := ["times"]
theorem sccheck_times : FnScope Ncheck_times ["times"] (defScope scheck_times) := ⟨rfl, rfl, rfl, by decide +kernel, rfl, by decide +kernel, by decide +kernel⟩
abbrev Nwords_of : List Str := ["text"]
theorem scwords_of : FnScope Nwords_of ["text"] (defScope swords_of) := ⟨rfl, rfl, rfl, by decide +kernel, rfl, by decide +kernel, by decide +kernel⟩
abbrev Nis_letter : List Str := ["value"]
theorem scis_letter : FnScope Nis_letter ["value"] (defScope sis_letter) := ⟨rfl, rfl, rfl, by decide +kernel, rfl, by decide +kernel, by decide +kernel⟩
abbrev Nnumber_of : List Str := ["word"]
theorem scnumber_of : FnScope Nnumber_of ["word"] (defScope snumber_of) := ⟨rfl, rfl, rfl, by decide +kernel, rfl, by decide +kernel, by decide +kernel⟩
abbrev Nwrong_word : List Str := ["words", "names", "depth", "at", "word", "opens", "closes", "needed"]
theorem scwrong_word : FnScope Nwrong_word ["words", "names"] (defScope swrong_word) := ⟨rfl, rfl, rfl, by decide +kernel, rfl, by decide +kernel, by decide +kernel⟩
abbrev Nmirrored : List Str := ["words"]
theorem scmirrored : FnScope Nmirrored ["words"] (defScope smirrored) := ⟨rfl, rfl, rfl, by decide +kernel, rfl, by decide +kernel, by decide +kernel⟩
abbrev Nbackward : List Str := ["words", "found", "numbers", "word"]
theorem scbackward : FnScope Nbackward ["words"] (defScope sbackward) := ⟨rfl, rfl, rfl, by decide +kernel, rfl, by decide +kernel, by decide +kernel⟩
abbrev N_is_counted : List Str := ["word"]
theorem sc_is_counted : FnScope N_is_counted ["word"] (defScope s_is_counted) := ⟨rfl, rfl, rfl, by decide +kernel, rfl, by decide +kernel, by decide +kernel⟩
abbrev N_is_number : List Str := ["digits"]
theorem sc_is_number : FnScope N_is_number ["digits"] (defScope s_is_number) := ⟨rfl, rfl, rfl, by decide +kernel, rfl, by decide +kernel, by decide +kernel⟩
abbrev NPart_init : List Str := ["self", "letter", "times", "inner"]
theorem scPart_init : FnScope NPart_init ["self", "letter", "times", "inner"] (defScope sPart_init) := ⟨rfl, rfl, rfl, by decide +kernel, rfl, by decide +kernel, by decide +kernel⟩
abbrev Nsize_of : List Str := ["parts"]
theorem scsize_of : FnScope Nsize_of ["parts"] (defScope ssize_of) := ⟨rfl, rfl, rfl, by decide +kernel, rfl, by decide +kernel, by decide +kernel⟩
abbrev Nlevels_of : List Str := ["parts"]
theorem sclevels_of : FnScope Nlevels_of ["parts"] (defScope slevels_of) := ⟨rfl, rfl, rfl, by decide +kernel, rfl, by decide +kernel, by decide +kernel⟩
abbrev Nparts_of_words : List Str := ["words", "parts", "_"]
theorem scparts_of_words : FnScope Nparts_of_words ["words"] (defScope sparts_of_words) := ⟨rfl, rfl, rfl, by decide +kernel, rfl, by decide +kernel, by decide +kernel⟩
abbrev N_parts_from : List Str := ["words", "start", "parts", "at", "inner"]
theorem sc_parts_from : FnScope N_parts_from ["words", "start"] (defScope s_parts_from) := ⟨rfl, rfl, rfl, by decide +kernel, rfl, by decide +kernel, by decide +kernel⟩
abbrev Ncount_in : List Str := ["parts", "letter", "total", "part", "once"]
theorem sccount_in : FnScope Ncount_in ["parts", "letter"] (defScope scount_in) := ⟨rfl, rfl, rfl, by decide +kernel, rfl, by decide +kernel, by decide +kernel⟩
abbrev NProgram_init : List Str := ["self", "text"]
theorem scProgram_init : FnScope NProgram_init ["self", "text"] (defScope sProgram_init) := ⟨rfl, rfl, rfl, by decide +kernel, rfl, by decide +kernel, by decide +kernel⟩
abbrev NProgram_text : List Str := ["self"]
theorem scProgram_text : FnScope NProgram_text ["self"] (defScope sProgram_text) := ⟨rfl, rfl, rfl, by decide +kernel, rfl, by decide +kernel, by decide +kernel⟩
abbrev NProgram_length : List Str := ["self"]
theorem scProgram_length : FnScope NProgram_length ["self"] (defScope sProgram_length) := ⟨rfl, rfl, rfl, by decide +kernel, rfl, by decide +kernel, by decide +kernel⟩
abbrev NProgram_depth : List Str := ["self"]
theorem scProgram_depth : FnScope NProgram_depth ["self"] (defScope sProgram_depth) := ⟨rfl, rfl, rfl, by decide +kernel, rfl, by decide +kernel, by decide +kernel⟩
abbrev NProgram_len : List Str := ["self"]
theorem scProgram_len : FnScope NProgram_len ["self"] (defScope sProgram_len) := ⟨rfl, rfl, rfl, by decide +kernel, rfl, by decide +kernel, by decide +kernel⟩
abbrev NProgram_eq : List Str := ["self", "other"]
theorem scProgram_eq : FnScope NProgram_eq ["self", "other"] (defScope sProgram_eq) := ⟨rfl, rfl, rfl, by decide +kernel, rfl, by decide +kernel, by decide +kernel⟩
abbrev NProgram_contains : List Str := ["self", "x"]
theorem scProgram_contains : FnScope NProgram_contains ["self", "x"] (defScope sProgram_contains) := ⟨rfl, rfl, rfl, by decide +kernel, rfl, by decide +kernel, by decide +kernel⟩
abbrev NProgram_add : List Str := ["self", "other"]
theorem scProgram_add : FnScope NProgram_add ["self", "other"] (defScope sProgram_add) := ⟨rfl, rfl, rfl, by decide +kernel, rfl, by decide +kernel, by decide +kernel⟩
abbrev NProgram_mul : List Str := ["self", "other"]
theorem scProgram_mul : FnScope NProgram_mul ["self", "other"] (defScope sProgram_mul) := ⟨rfl, rfl, rfl, by decide +kernel, rfl, by decide +kernel, by decide +kernel⟩
abbrev NProgram_neg : List Str := ["self"]
theorem scProgram_neg : FnScope NProgram_neg ["self"] (defScope sProgram_neg) := ⟨rfl, rfl, rfl, by decide +kernel, rfl, by decide +kernel, by decide +kernel⟩
abbrev NProgram_invert : List Str := ["self"]
theorem scProgram_invert : FnScope NProgram_invert ["self"] (defScope sProgram_invert) := ⟨rfl, rfl, rfl, by decide +kernel, rfl, by decide +kernel, by decide +kernel⟩
abbrev Ncheck_text : List Str := ["text", "wrong"]
theorem sccheck_text : FnScope Ncheck_text ["text"] (defScope scheck_text) := ⟨rfl, rfl, rfl, by decide +kernel, rfl, by decide +kernel, by decide +kernel⟩
abbrev Ncheck_program : List Str := ["program"]
theorem sccheck_program : FnScope Ncheck_program ["program"] (defScope scheck_program) := ⟨rfl, rfl, rfl, by decide +kernel, rfl, by decide +kernel, by decide +kernel⟩
abbrev N_law_bag : List Str := ["cell"]
theorem sc_law_bag : FnScope N_law_bag ["cell"] (defScope s_law_bag) := ⟨rfl, rfl, rfl, by decide +kernel, rfl, by decide +kernel, by decide +kernel⟩
abbrev N_law_pick : List Str := ["bag", "many", "told", "first", "second"]
theorem sc_law_pick : FnScope N_law_pick ["bag", "many"] (defScope s_law_pick) := ⟨rfl, rfl, rfl, by decide +kernel, rfl, by decide +kernel, by decide +kernel⟩
abbrev N_law_number : List Str := ["bag", "far"]
theorem sc_law_number : FnScope N_law_number ["bag", "far"] (defScope s_law_number) := ⟨rfl, rfl, rfl, by decide +kernel, rfl, by decide +kernel, by decide +kernel⟩
abbrev N_law_words : List Str := ["bag", "most", "deep", "letters", "far", "found", "many", "way", "room", "part"]
theorem sc_law_words : FnScope N_law_words ["bag", "most", "deep", "letters", "far"] (defScope s_law_words) := ⟨rfl, rfl, rfl, by decide +kernel, rfl, by decide +kernel, by decide +kernel⟩
abbrev N_law_length : List Str := ["words", "totals", "word", "one"]
theorem sc_law_length : FnScope N_law_length ["words"] (defScope s_law_length) := ⟨rfl, rfl, rfl, by decide +kernel, rfl, by decide +kernel, by decide +kernel⟩
abbrev N_law_steps : List Str := ["words", "parts", "word", "one"]
theorem sc_law_steps : FnScope N_law_steps ["words"] (defScope s_law_steps) := ⟨rfl, rfl, rfl, by decide +kernel, rfl, by decide +kernel, by decide +kernel⟩
abbrev N_law_short : List Str := ["bag", "most", "letters", "size", "found"]
theorem sc_law_short : FnScope N_law_short ["bag", "most", "letters", "size"] (defScope s_law_short) := ⟨rfl, rfl, rfl, by decide +kernel, rfl, by decide +kernel, by decide +kernel⟩
abbrev N_law_class : List Str := ["caught", "some", "names", "name"]
theorem sc_law_class : FnScope N_law_class ["caught"] (defScope s_law_class) := ⟨rfl, rfl, rfl, by decide +kernel, rfl, by decide +kernel, by decide +kernel⟩
abbrev N_law_told : List Str := ["way", "one", "other", "caught", "made", "e"]
theorem sc_law_told : FnScope N_law_told ["way", "one", "other"] (defScope s_law_told) := ⟨rfl, rfl, rfl, by decide +kernel, rfl, by decide +kernel, by decide +kernel⟩
abbrev N_law_made_right : List Str := ["made", "one", "fields"]
theorem sc_law_made_right : FnScope N_law_made_right [] (defScope s_law_made_right) := ⟨rfl, rfl, rfl, by decide +kernel, rfl, by decide +kernel, by decide +kernel⟩
abbrev N_law_sizes_right : List Str := ["bag", "many", "one", "other", "due", "size", "long_program", "deep", "words", "both"]
theorem sc_law_sizes_right : FnScope N_law_sizes_right ["bag"] (defScope s_law_sizes_right) := ⟨rfl, rfl, rfl, by decide +kernel, rfl, by decide +kernel, by decide +kernel⟩
abbrev Nlaw : List Str := ["script", "cell", "bag", "letters", "words", "one", "bad"]
theorem sclaw : FnScope Nlaw ["script"] (defScope slaw) := ⟨rfl, rfl, rfl, by decide +kernel, rfl, by decide +kernel, by decide +kernel⟩
/-! ### the head -/
def dInvalidText_init : HP.DefA := ⟨fun K => He.fAd K ("InvalidText", some "__init__"), "__init__", "InvalidText.__init__", defArgs sInvalidText_init, defBody sInvalidText_init, defScope sInvalidText_init, [], []⟩
def dInvalidSource_init : HP.DefA := ⟨fun K => He.fAd K ("InvalidSource", some "__init__"), "__init__", "InvalidSource.__init__", defArgs sInvalidSource_init, defBody sInvalidSource_init, defScope sInvalidSource_init, [], []⟩
def dTooDeep_init : HP.DefA := ⟨fun K => He.fAd K ("TooDeep", some "__init__"), "__init__", "TooDeep.__init__", defArgs sTooDeep_init, defBody sTooDeep_init, defScope sTooDeep_init, [], []⟩
def dTooLarge_init : HP.DefA := ⟨fun K => He.fAd K ("TooLarge", some "__init__"), "__init__", "TooLarge.__init__", defArgs sTooLarge_init, defBody sTooLarge_init, defScope sTooLarge_init, [], []⟩
def dis_integer : HP.DefA := ⟨fun K => He.fAd K ("is_integer", none), "is_integer", "is_integer", defArgs sis_integer, defBody sis_integer, defScope sis_integer, [], []⟩
def dis_integer_within : HP.DefA := ⟨fun K => He.fAd K ("is_integer_within", none), "is_integer_within", "is_integer_within", defArgs sis_integer_within, defBody sis_integer_within, defScope sis_integer_within, [], []⟩
def dis_decimal : HP.DefA := ⟨fun K => He.fAd K ("is_decimal", none), "is_decimal", "is_decimal", defArgs sis_decimal, defBody sis_decimal, defScope sis_decimal, [], []⟩
def dcheck_times : HP.DefA := ⟨fun K => He.fAd K ("check_times", none), "check_times", "check_times", defArgs scheck_times, defBody scheck_times, defScope scheck_times, [], []⟩
def dwords_of : HP.DefA := ⟨fun K => He.fAd K ("words_of", none), "words_of", "words_of", defArgs swords_of, defBody swords_of, defScope swords_of, [], []⟩
def dis_letter : HP.DefA := ⟨fun K => He.fAd K ("is_letter", none), "is_letter", "is_letter", defArgs sis_letter, defBody sis_letter, defScope sis_letter, [], []⟩
def dnumber_of : HP.DefA := ⟨fun K => He.fAd K ("number_of", none), "number_of", "number_of", defArgs snumber_of, defBody snumber_of, defScope snumber_of, [], []⟩
def dwrong_word : HP.DefA := ⟨fun K => He.fAd K ("wrong_word", none), "wrong_word", "wrong_word", defArgs swrong_word, defBody swrong_word, defScope swrong_word, [], []⟩
def dmirrored : HP.DefA := ⟨fun K => He.fAd K ("mirrored", none), "mirrored", "mirrored", defArgs smirrored, defBody smirrored, defScope smirrored, [], []⟩
def dbackward : HP.DefA := ⟨fun K => He.fAd K ("backward", none), "backward", "backward", defArgs sbackward, defBody sbackward, defScope sbackward, [], []⟩
def d_is_counted : HP.DefA := ⟨fun K => He.fAd K ("_is_counted", none), "_is_counted", "_is_counted", defArgs s_is_counted, defBody s_is_counted, defScope s_is_counted, [], []⟩
def d_is_number : HP.DefA := ⟨fun K => He.fAd K ("_is_number", none), "_is_number", "_is_number", defArgs s_is_number, defBody s_is_number, defScope s_is_number, [], []⟩
def dPart_init : HP.DefA := ⟨fun K => He.fAd K ("Part", some "__init__"), "__init__", "Part.__init__", defArgs sPart_init, defBody sPart_init, defScope sPart_init, [], []⟩
def dsize_of : HP.DefA := ⟨fun K => He.fAd K ("size_of", none), "size_of", "size_of", defArgs ssize_of, defBody ssize_of, defScope ssize_of, [], []⟩
def dlevels_of : HP.DefA := ⟨fun K => He.fAd K ("levels_of", none), "levels_of", "levels_of", defArgs slevels_of, defBody slevels_of, defScope slevels_of, [], []⟩
def dparts_of_words : HP.DefA := ⟨fun K => He.fAd K ("parts_of_words", none), "parts_of_words", "parts_of_words", defArgs sparts_of_words, defBody sparts_of_words, defScope sparts_of_words, [], []⟩
def d_parts_from : HP.DefA := ⟨fun K => He.fAd K ("_parts_from", none), "_parts_from", "_parts_from", defArgs s_parts_from, defBody s_parts_from, defScope s_parts_from, [], []⟩
def dcount_in : HP.DefA := ⟨fun K => He.fAd K ("count_in", none), "count_in", "count_in", defArgs scount_in, defBody scount_in, defScope scount_in, [], []⟩
def dProgram_init : HP.DefA := ⟨fun K => He.fAd K ("Program", some "__init__"), "__init__", "Program.__init__", defArgs sProgram_init, defBody sProgram_init, defScope sProgram_init, [], []⟩
def dProgram_text : HP.DefA := ⟨HP.getA "Program" "text", "text", "Program.text", defArgs sProgram_text, defBody sProgram_text, defScope sProgram_text, [], []⟩
def dProgram_length : HP.DefA := ⟨HP.getA "Program" "length", "length", "Program.length", defArgs sProgram_length, defBody sProgram_length, defScope sProgram_length, [], []⟩
def dProgram_depth : HP.DefA := ⟨HP.getA "Program" "depth", "depth", "Program.depth", defArgs sProgram_depth, defBody sProgram_depth, defScope sProgram_depth, [], []⟩
def dProgram_len : HP.DefA := ⟨fun K => He.fAd K ("Program", some "__len__"), "__len__", "Program.__len__", defArgs sProgram_len, defBody sProgram_len, defScope sProgram_len, [], []⟩
def dProgram_eq : HP.DefA := ⟨fun K => He.fAd K ("Program", some "__eq__"), "__eq__", "Program.__eq__", defArgs sProgram_eq, defBody sProgram_eq, defScope sProgram_eq, [], []⟩
def dProgram_contains : HP.DefA := ⟨fun K => He.fAd K ("Program", some "__contains__"), "__contains__", "Program.__contains__", defArgs sProgram_contains, defBody sProgram_contains, defScope sProgram_contains, [], []⟩
def dProgram_add : HP.DefA := ⟨fun K => He.fAd K ("Program", some "__add__"), "__add__", "Program.__add__", defArgs sProgram_add, defBody sProgram_add, defScope sProgram_add, [], []⟩
def dProgram_mul : HP.DefA := ⟨fun K => He.fAd K ("Program", some "__mul__"), "__mul__", "Program.__mul__", defArgs sProgram_mul, defBody sProgram_mul, defScope sProgram_mul, [], []⟩
def dProgram_neg : HP.DefA := ⟨fun K => He.fAd K ("Program", some "__neg__"), "__neg__", "Program.__neg__", defArgs sProgram_neg, defBody sProgram_neg, defScope sProgram_neg, [], []⟩
def dProgram_invert : HP.DefA := ⟨fun K => He.fAd K ("Program", some "__invert__"), "__invert__", "Program.__invert__", defArgs sProgram_invert, defBody sProgram_invert, defScope sProgram_invert, [], []⟩
def dcheck_text : HP.DefA := ⟨fun K => He.fAd K ("check_text", none), "check_text", "check_text", defArgs scheck_text, defBody scheck_text, defScope scheck_text, [], []⟩
def dcheck_program : HP.DefA := ⟨fun K => He.fAd K ("check_program", none), "check_program", "check_program", defArgs scheck_program, defBody scheck_program, defScope scheck_program, [], []⟩
def d_law_bag : HP.DefA := ⟨fun K => He.fAd K ("_law_bag", none), "_law_bag", "_law_bag", defArgs s_law_bag, defBody s_law_bag, defScope s_law_bag, [], []⟩
def d_law_pick : HP.DefA := ⟨fun K => He.fAd K ("_law_pick", none), "_law_pick", "_law_pick", defArgs s_law_pick, defBody s_law_pick, defScope s_law_pick, [], []⟩
def d_law_number : HP.DefA := ⟨fun K => He.fAd K ("_law_number", none), "_law_number", "_law_number", defArgs s_law_number, defBody s_law_number, defScope s_law_number, [], []⟩
def d_law_words : HP.DefA := ⟨fun K => He.fAd K ("_law_words", none), "_law_words", "_law_words", defArgs s_law_words, defBody s_law_words, defScope s_law_words, [], []⟩
def d_law_length : HP.DefA := ⟨fun K => He.fAd K ("_law_length", none), "_law_length", "_law_length", defArgs s_law_length, defBody s_law_length, defScope s_law_length, [], []⟩
def d_law_steps : HP.DefA := ⟨fun K => He.fAd K ("_law_steps", none), "_law_steps", "_law_steps", defArgs s_law_steps, defBody s_law_steps, defScope s_law_steps, [], []⟩
def d_law_short : HP.DefA := ⟨fun K => He.fAd K ("_law_short", none), "_law_short", "_law_short", defArgs s_law_short, defBody s_law_short, defScope s_law_short, [], []⟩
def d_law_class : HP.DefA := ⟨fun K => He.fAd K ("_law_class", none), "_law_class", "_law_class", defArgs s_law_class, defBody s_law_class, defScope s_law_class, [], []⟩
def d_law_told : HP.DefA := ⟨fun K => He.fAd K ("_law_told", none), "_law_told", "_law_told", defArgs s_law_told, defBody s_law_told, defScope s_law_told, [], []⟩
def d_law_made_right : HP.DefA := ⟨fun K => He.fAd K ("_law_made_right", none), "_law_made_right", "_law_made_right", defArgs s_law_made_right, defBody s_law_made_right, defScope s_law_made_right, [], []⟩
def d_law_sizes_right : HP.DefA := ⟨fun K => He.fAd K ("_law_sizes_right", none), "_law_sizes_right", "_law_sizes_right", defArgs s_law_sizes_right, defBody s_law_sizes_right, defScope s_law_sizes_right, [], []⟩
def dlaw : HP.DefA := ⟨fun K => He.fAd K ("law", none), "law", "law", defArgs slaw, defBody slaw, defScope slaw, [], []⟩
def fns : List HP.DefA := [dInvalidText_init, dInvalidSource_init, dTooDeep_init, dTooLarge_init, dis_integer, dis_integer_within, dis_decimal, dcheck_times, dwords_of, dis_letter, dnumber_of, dwrong_word, dmirrored, dbackward, d_is_counted, d_is_number, dPart_init, dsize_of, dlevels_of, dparts_of_words, d_parts_from, dcount_in, dProgram_init, dProgram_text, dProgram_length, dProgram_depth, dProgram_len, dProgram_eq, dProgram_contains, dProgram_add, dProgram_mul, dProgram_neg, dProgram_invert, dcheck_text, dcheck_program, d_law_bag, d_law_pick, d_law_number, d_law_words, d_law_length, d_law_steps, d_law_short, d_law_class, d_law_told, d_law_made_right, d_law_sizes_right, dlaw]
def fa0 : List HP.Fact := [HP.fa_ (.glo "is_integer"), HP.fa_ (.glo "is_integer_within"), HP.fa_ (.glo "is_decimal"), HP.fa_ (.glo "check_times"), HP.fa_ (.glo "words_of"), HP.fa_ (.glo "is_letter"), HP.fa_ (.glo "number_of"), HP.fa_ (.glo "wrong_word"), HP.fa_ (.glo "mirrored"), HP.fa_ (.glo "backward"), HP.fa_ (.glo "_is_counted"), HP.fa_ (.glo "_is_number"), HP.fa_ (.glo "size_of"), HP.fa_ (.glo "levels_of"), HP.fa_ (.glo "parts_of_words"), HP.fa_ (.glo "_parts_from"), HP.fa_ (.glo "count_in"), HP.propB "Program" "text", HP.propB "Program" "length", HP.propB "Program" "depth", HP.fa_ (.meth "Program" "__len__"), HP.fa_ (.meth "Program" "__eq__"), HP.fa_ (.meth "Program" "__contains__"), HP.fa_ (.meth "Program" "__add__"), HP.fa_ (.meth "Program" "__mul__")]
def fa1 : List HP.Fact := [HP.fa_ (.meth "Program" "__neg__"), HP.fa_ (.meth "Program" "__invert__"), HP.fa_ (.glo "check_text"), HP.fa_ (.glo "check_program"), HP.fa_ (.glo "_law_bag"), HP.fa_ (.glo "_law_pick"), HP.fa_ (.glo "_law_number"), HP.fa_ (.glo "_law_words"), HP.fa_ (.glo "_law_length"), HP.fa_ (.glo "_law_steps"), HP.fa_ (.glo "_law_short"), HP.fa_ (.glo "_law_class"), HP.fa_ (.glo "_law_told"), HP.fa_ (.glo "_law_made_right"), HP.fa_ (.glo "_law_sizes_right"), HP.fa_ (.glo "law"), HP.fa_ (.glo "PlotError"), HP.fa_ (.glo "InvalidText"), HP.fa_ (.glo "InvalidSource"), HP.fa_ (.glo "TooDeep"), HP.fa_ (.glo "TooLarge"), HP.fa_ (.glo "InvalidProgram"), HP.fa_ (.glo "InvalidTimes"), HP.fa_ (.glo "InvalidIndex"), HP.fa_ (.glo "InvalidLetter")]
def fa2 : List HP.Fact := [HP.fa_ (.glo "InvalidName"), HP.fa_ (.glo "HasPen"), HP.fa_ (.glo "InvalidMotion"), HP.fa_ (.glo "InvalidPose"), HP.fa_ (.glo "InvalidPoint"), HP.fa_ (.glo "InvalidEdge"), HP.fa_ (.glo "InvalidPicture"), HP.fa_ (.glo "InvalidTurn"), HP.fa_ (.glo "InvalidFace"), HP.fa_ (.glo "InvalidFaces"), HP.fa_ (.glo "NotEven"), HP.fa_ (.glo "NotClosed"), HP.fa_ (.glo "InvalidIntervals"), HP.fa_ (.glo "InvalidPlace"), HP.fa_ (.glo "NotDrifting"), HP.fa_ (.glo "InvalidCount"), HP.fa_ (.glo "NoSteps"), HP.fa_ (.glo "InvalidOperation"), HP.fa_ (.glo "Nothing"), HP.fa_ (.glo "InvalidArt"), HP.fa_ (.glo "InvalidCommand"), HP.fa_ (.glo "Part"), HP.fa_ (.cls "Part"), HP.fa_ (.mkr "Part"), HP.isiB "Part"]
def fa3 : List HP.Fact := [HP.kitB1 (fun K => .ref (He.ga K "Part")) (fun K => .ref (He.ga K "Part")) true, HP.fa_ (.noat "Part" "letter"), HP.fa_ (.noat "Part" "times"), HP.fa_ (.noat "Part" "inner"), HP.fa_ (.noat "Part" "unit"), HP.fa_ (.noat "Part" "size"), HP.fa_ (.noat "Part" "levels"), HP.fa_ (.glo "Program"), HP.fa_ (.cls "Program"), HP.fa_ (.mkr "Program"), HP.isiB "Program", HP.kitB1 (fun K => .ref (He.ga K "Program")) (fun K => .ref (He.ga K "Program")) true, HP.fa_ (.noat "Program" "_text"), HP.fa_ (.noat "Program" "_words"), HP.fa_ (.noat "Program" "_parts"), HP.fa_ (.noat "Program" "_length"), HP.fa_ (.noat "Program" "_depth"), HP.fa_ (.free "ValueError"), HP.fa_ (.free "bool"), HP.fa_ (.free "enumerate"), HP.fa_ (.free "int"), HP.fa_ (.free "isinstance"), HP.fa_ (.free "len"), HP.fa_ (.free "max"), HP.fa_ (.free "property")]
def fa4 : List HP.Fact := [HP.fa_ (.free "repr"), HP.fa_ (.free "reversed"), HP.fa_ (.free "str"), HP.fa_ (.free "sum"), HP.fa_ (.free "tuple"), HP.fa_ (.int "MOST_TIMES" (1000000000000000000000000000000)), HP.fa_ (.int "MOST_DIGITS" (31)), HP.fa_ (.int "MOST_WORDS" (1000)), HP.fa_ (.int "MOST_DEPTH" (12)), HP.fa_ (.glo "LETTERS"), HP.tupB "LETTERS" [.str "f", .str "b", .str "l", .str "r", .str "u", .str "d"], HP.fa_ (.exc "InvalidProgram"), HP.excCB "InvalidProgram", HP.fa_ (.exm "InvalidProgram" "PlotError" true), HP.kitB1 (fun K => (.ref (He.ga K "InvalidProgram"))) (fun K => (.ref (He.ga K "InvalidText"))) false, HP.kitB1 (fun K => (.ref (He.ga K "InvalidProgram"))) (fun K => (.ref (He.ga K "InvalidSource"))) false, HP.kitB1 (fun K => (.ref (He.ga K "InvalidProgram"))) (fun K => (.ref (He.ga K "InvalidProgram"))) true, HP.kitB1 (fun K => (.ref (He.ga K "InvalidProgram"))) (fun K => (.ref (He.ga K "InvalidTimes"))) false, HP.kitB1 (fun K => (.ref (He.ga K "InvalidProgram"))) (fun K => (.ref (He.ga K "InvalidIndex"))) false, HP.kitB1 (fun K => (.ref (He.ga K "InvalidProgram"))) (fun K => (.ref (He.ga K "InvalidLetter"))) false, HP.kitB1 (fun K => (.ref (He.ga K "InvalidProgram"))) (fun K => (.ref (He.ga K "InvalidName"))) false, HP.kitB1 (fun K => (.ref (He.ga K "InvalidProgram"))) (fun K => (.ref (He.ga K "HasPen"))) false, HP.kitB1 (fun K => (.ref (He.ga K "InvalidProgram"))) (fun K => (.ref (He.ga K "TooDeep"))) false, HP.kitB1 (fun K => (.ref (He.ga K "InvalidProgram"))) (fun K => (.ref (He.ga K "TooLarge"))) false, HP.kitB1 (fun K => (.ref (He.ga K "InvalidProgram"))) (fun _ => .type "ValueError") true]
def fa5 : List HP.Fact := [HP.kitA1 (fun K => (.ref (He.ga K "InvalidProgram"))) ["InvalidArt", "InvalidCommand", "InvalidCount", "InvalidEdge", "InvalidFace", "InvalidFaces"] false, HP.kitA1 (fun K => (.ref (He.ga K "InvalidProgram"))) ["InvalidIntervals", "InvalidMotion", "InvalidOperation", "InvalidPicture", "InvalidPlace"] false, HP.kitA1 (fun K => (.ref (He.ga K "InvalidProgram"))) ["InvalidPoint", "InvalidPose", "InvalidTurn", "NoSteps", "NotClosed", "NotDrifting", "NotEven", "Nothing"] false, HP.fa_ (.exc "InvalidTimes"), HP.excCB "InvalidTimes", HP.fa_ (.exm "InvalidTimes" "PlotError" true), HP.kitB1 (fun K => (.ref (He.ga K "InvalidTimes"))) (fun K => (.ref (He.ga K "InvalidText"))) false, HP.kitB1 (fun K => (.ref (He.ga K "InvalidTimes"))) (fun K => (.ref (He.ga K "InvalidSource"))) false, HP.kitB1 (fun K => (.ref (He.ga K "InvalidTimes"))) (fun K => (.ref (He.ga K "InvalidProgram"))) false, HP.kitB1 (fun K => (.ref (He.ga K "InvalidTimes"))) (fun K => (.ref (He.ga K "InvalidTimes"))) true, HP.kitB1 (fun K => (.ref (He.ga K "InvalidTimes"))) (fun K => (.ref (He.ga K "InvalidIndex"))) false, HP.kitB1 (fun K => (.ref (He.ga K "InvalidTimes"))) (fun K => (.ref (He.ga K "InvalidLetter"))) false, HP.kitB1 (fun K => (.ref (He.ga K "InvalidTimes"))) (fun K => (.ref (He.ga K "InvalidName"))) false, HP.kitB1 (fun K => (.ref (He.ga K "InvalidTimes"))) (fun K => (.ref (He.ga K "HasPen"))) false, HP.kitB1 (fun K => (.ref (He.ga K "InvalidTimes"))) (fun K => (.ref (He.ga K "TooDeep"))) false, HP.kitB1 (fun K => (.ref (He.ga K "InvalidTimes"))) (fun K => (.ref (He.ga K "TooLarge"))) false, HP.kitB1 (fun K => (.ref (He.ga K "InvalidTimes"))) (fun _ => .type "ValueError") true, HP.kitA1 (fun K => (.ref (He.ga K "InvalidTimes"))) ["InvalidArt", "InvalidCommand", "InvalidCount", "InvalidEdge", "InvalidFace", "InvalidFaces"] false, HP.kitA1 (fun K => (.ref (He.ga K "InvalidTimes"))) ["InvalidIntervals", "InvalidMotion", "InvalidOperation", "InvalidPicture", "InvalidPlace"] false, HP.kitA1 (fun K => (.ref (He.ga K "InvalidTimes"))) ["InvalidPoint", "InvalidPose", "InvalidTurn", "NoSteps", "NotClosed", "NotDrifting", "NotEven", "Nothing"] false, HP.fa_ (.exc "HasPen"), HP.excCB "HasPen", HP.fa_ (.exm "HasPen" "PlotError" true), HP.kitB1 (fun K => (.ref (He.ga K "HasPen"))) (fun K => (.ref (He.ga K "InvalidText"))) false, HP.kitB1 (fun K => (.ref (He.ga K "HasPen"))) (fun K => (.ref (He.ga K "InvalidSource"))) false]
def fa6 : List HP.Fact := [HP.kitB1 (fun K => (.ref (He.ga K "HasPen"))) (fun K => (.ref (He.ga K "InvalidProgram"))) false, HP.kitB1 (fun K => (.ref (He.ga K "HasPen"))) (fun K => (.ref (He.ga K "InvalidTimes"))) false, HP.kitB1 (fun K => (.ref (He.ga K "HasPen"))) (fun K => (.ref (He.ga K "InvalidIndex"))) false, HP.kitB1 (fun K => (.ref (He.ga K "HasPen"))) (fun K => (.ref (He.ga K "InvalidLetter"))) false, HP.kitB1 (fun K => (.ref (He.ga K "HasPen"))) (fun K => (.ref (He.ga K "InvalidName"))) false, HP.kitB1 (fun K => (.ref (He.ga K "HasPen"))) (fun K => (.ref (He.ga K "HasPen"))) true, HP.kitB1 (fun K => (.ref (He.ga K "HasPen"))) (fun K => (.ref (He.ga K "TooDeep"))) false, HP.kitB1 (fun K => (.ref (He.ga K "HasPen"))) (fun K => (.ref (He.ga K "TooLarge"))) false, HP.kitB1 (fun K => (.ref (He.ga K "HasPen"))) (fun _ => .type "ValueError") true, HP.kitA1 (fun K => (.ref (He.ga K "HasPen"))) ["InvalidArt", "InvalidCommand", "InvalidCount", "InvalidEdge", "InvalidFace", "InvalidFaces"] false, HP.kitA1 (fun K => (.ref (He.ga K "HasPen"))) ["InvalidIntervals", "InvalidMotion", "InvalidOperation", "InvalidPicture", "InvalidPlace"] false, HP.kitA1 (fun K => (.ref (He.ga K "HasPen"))) ["InvalidPoint", "InvalidPose", "InvalidTurn", "NoSteps", "NotClosed", "NotDrifting", "NotEven", "Nothing"] false, HX.oexB "TooDeep", HX.oinB "TooDeep", HX.noB "TooDeep" "limit", HP.excCB "TooDeep", HP.fa_ (.exm "TooDeep" "PlotError" true), HP.kitB1 (fun K => (.ref (He.ga K "TooDeep"))) (fun K => (.ref (He.ga K "InvalidText"))) false, HP.kitB1 (fun K => (.ref (He.ga K "TooDeep"))) (fun K => (.ref (He.ga K "InvalidSource"))) false, HP.kitB1 (fun K => (.ref (He.ga K "TooDeep"))) (fun K => (.ref (He.ga K "InvalidProgram"))) false, HP.kitB1 (fun K => (.ref (He.ga K "TooDeep"))) (fun K => (.ref (He.ga K "InvalidTimes"))) false, HP.kitB1 (fun K => (.ref (He.ga K "TooDeep"))) (fun K => (.ref (He.ga K "InvalidIndex"))) false, HP.kitB1 (fun K => (.ref (He.ga K "TooDeep"))) (fun K => (.ref (He.ga K "InvalidLetter"))) false, HP.kitB1 (fun K => (.ref (He.ga K "TooDeep"))) (fun K => (.ref (He.ga K "InvalidName"))) false, HP.kitB1 (fun K => (.ref (He.ga K "TooDeep"))) (fun K => (.ref (He.ga K "HasPen"))) false]
def fa7 : List HP.Fact := [HP.kitB1 (fun K => (.ref (He.ga K "TooDeep"))) (fun K => (.ref (He.ga K "TooDeep"))) true, HP.kitB1 (fun K => (.ref (He.ga K "TooDeep"))) (fun K => (.ref (He.ga K "TooLarge"))) false, HP.kitB1 (fun K => (.ref (He.ga K "TooDeep"))) (fun _ => .type "ValueError") true, HP.kitA1 (fun K => (.ref (He.ga K "TooDeep"))) ["InvalidArt", "InvalidCommand", "InvalidCount", "InvalidEdge", "InvalidFace", "InvalidFaces"] false, HP.kitA1 (fun K => (.ref (He.ga K "TooDeep"))) ["InvalidIntervals", "InvalidMotion", "InvalidOperation", "InvalidPicture", "InvalidPlace"] false, HP.kitA1 (fun K => (.ref (He.ga K "TooDeep"))) ["InvalidPoint", "InvalidPose", "InvalidTurn", "NoSteps", "NotClosed", "NotDrifting", "NotEven", "Nothing"] false, HX.oexB "TooLarge", HX.oinB "TooLarge", HX.noB "TooLarge" "limit", HP.excCB "TooLarge", HP.fa_ (.exm "TooLarge" "PlotError" true), HP.kitB1 (fun K => (.ref (He.ga K "TooLarge"))) (fun K => (.ref (He.ga K "InvalidText"))) false, HP.kitB1 (fun K => (.ref (He.ga K "TooLarge"))) (fun K => (.ref (He.ga K "InvalidSource"))) false, HP.kitB1 (fun K => (.ref (He.ga K "TooLarge"))) (fun K => (.ref (He.ga K "InvalidProgram"))) false, HP.kitB1 (fun K => (.ref (He.ga K "TooLarge"))) (fun K => (.ref (He.ga K "InvalidTimes"))) false, HP.kitB1 (fun K => (.ref (He.ga K "TooLarge"))) (fun K => (.ref (He.ga K "InvalidIndex"))) false, HP.kitB1 (fun K => (.ref (He.ga K "TooLarge"))) (fun K => (.ref (He.ga K "InvalidLetter"))) false, HP.kitB1 (fun K => (.ref (He.ga K "TooLarge"))) (fun K => (.ref (He.ga K "InvalidName"))) false, HP.kitB1 (fun K => (.ref (He.ga K "TooLarge"))) (fun K => (.ref (He.ga K "HasPen"))) false, HP.kitB1 (fun K => (.ref (He.ga K "TooLarge"))) (fun K => (.ref (He.ga K "TooDeep"))) false, HP.kitB1 (fun K => (.ref (He.ga K "TooLarge"))) (fun K => (.ref (He.ga K "TooLarge"))) true, HP.kitB1 (fun K => (.ref (He.ga K "TooLarge"))) (fun _ => .type "ValueError") true, HP.kitA1 (fun K => (.ref (He.ga K "TooLarge"))) ["InvalidArt", "InvalidCommand", "InvalidCount", "InvalidEdge", "InvalidFace", "InvalidFaces"] false, HP.kitA1 (fun K => (.ref (He.ga K "TooLarge"))) ["InvalidIntervals", "InvalidMotion", "InvalidOperation", "InvalidPicture", "InvalidPlace"] false, HP.kitA1 (fun K => (.ref (He.ga K "TooLarge"))) ["InvalidPoint", "InvalidPose", "InvalidTurn", "NoSteps", "NotClosed", "NotDrifting", "NotEven", "Nothing"] false]
def fa8 : List HP.Fact := [HX.ceB "PlotError", DQ.sysB, HP.kitB1 (fun K => (.ref (He.ga K "InvalidProgram"))) (fun K => (.ref (He.ga K "PlotError"))) true, HP.kitB1 (fun K => (.ref (He.ga K "InvalidProgram"))) (fun _ => .type "ValueError") true, HP.kitB1 (fun K => (.ref (He.ga K "InvalidTimes"))) (fun K => (.ref (He.ga K "PlotError"))) true, HP.kitB1 (fun K => (.ref (He.ga K "InvalidTimes"))) (fun _ => .type "ValueError") true, HP.fa_ (.exc "InvalidIndex"), HP.excCB "InvalidIndex", HP.kitB1 (fun K => (.ref (He.ga K "InvalidIndex"))) (fun K => (.ref (He.ga K "PlotError"))) true, HP.kitB1 (fun K => (.ref (He.ga K "InvalidIndex"))) (fun _ => .type "ValueError") true, HP.fa_ (.exc "InvalidLetter"), HP.excCB "InvalidLetter", HP.kitB1 (fun K => (.ref (He.ga K "InvalidLetter"))) (fun K => (.ref (He.ga K "PlotError"))) true, HP.kitB1 (fun K => (.ref (He.ga K "InvalidLetter"))) (fun _ => .type "ValueError") true, HP.fa_ (.exc "InvalidName"), HP.excCB "InvalidName", HP.kitB1 (fun K => (.ref (He.ga K "InvalidName"))) (fun K => (.ref (He.ga K "PlotError"))) true, HP.kitB1 (fun K => (.ref (He.ga K "InvalidName"))) (fun _ => .type "ValueError") true, HP.kitB1 (fun K => (.ref (He.ga K "HasPen"))) (fun K => (.ref (He.ga K "PlotError"))) true, HP.kitB1 (fun K => (.ref (He.ga K "HasPen"))) (fun _ => .type "ValueError") true, HP.fa_ (.exc "InvalidMotion"), HP.excCB "InvalidMotion", HP.kitB1 (fun K => (.ref (He.ga K "InvalidMotion"))) (fun K => (.ref (He.ga K "PlotError"))) true, HP.kitB1 (fun K => (.ref (He.ga K "InvalidMotion"))) (fun _ => .type "ValueError") true, HP.fa_ (.exc "InvalidPose")]
def fa9 : List HP.Fact := [HP.excCB "InvalidPose", HP.kitB1 (fun K => (.ref (He.ga K "InvalidPose"))) (fun K => (.ref (He.ga K "PlotError"))) true, HP.kitB1 (fun K => (.ref (He.ga K "InvalidPose"))) (fun _ => .type "ValueError") true, HP.fa_ (.exc "InvalidPoint"), HP.excCB "InvalidPoint", HP.kitB1 (fun K => (.ref (He.ga K "InvalidPoint"))) (fun K => (.ref (He.ga K "PlotError"))) true, HP.kitB1 (fun K => (.ref (He.ga K "InvalidPoint"))) (fun _ => .type "ValueError") true, HP.fa_ (.exc "InvalidEdge"), HP.excCB "InvalidEdge", HP.kitB1 (fun K => (.ref (He.ga K "InvalidEdge"))) (fun K => (.ref (He.ga K "PlotError"))) true, HP.kitB1 (fun K => (.ref (He.ga K "InvalidEdge"))) (fun _ => .type "ValueError") true, HP.fa_ (.exc "InvalidPicture"), HP.excCB "InvalidPicture", HP.kitB1 (fun K => (.ref (He.ga K "InvalidPicture"))) (fun K => (.ref (He.ga K "PlotError"))) true, HP.kitB1 (fun K => (.ref (He.ga K "InvalidPicture"))) (fun _ => .type "ValueError") true, HP.fa_ (.exc "InvalidTurn"), HP.excCB "InvalidTurn", HP.kitB1 (fun K => (.ref (He.ga K "InvalidTurn"))) (fun K => (.ref (He.ga K "PlotError"))) true, HP.kitB1 (fun K => (.ref (He.ga K "InvalidTurn"))) (fun _ => .type "ValueError") true, HP.fa_ (.exc "InvalidFace"), HP.excCB "InvalidFace", HP.kitB1 (fun K => (.ref (He.ga K "InvalidFace"))) (fun K => (.ref (He.ga K "PlotError"))) true, HP.kitB1 (fun K => (.ref (He.ga K "InvalidFace"))) (fun _ => .type "ValueError") true, HP.fa_ (.exc "InvalidFaces"), HP.excCB "InvalidFaces"]
def fa10 : List HP.Fact := [HP.kitB1 (fun K => (.ref (He.ga K "InvalidFaces"))) (fun K => (.ref (He.ga K "PlotError"))) true, HP.kitB1 (fun K => (.ref (He.ga K "InvalidFaces"))) (fun _ => .type "ValueError") true, HP.fa_ (.exc "NotEven"), HP.excCB "NotEven", HP.kitB1 (fun K => (.ref (He.ga K "NotEven"))) (fun K => (.ref (He.ga K "PlotError"))) true, HP.kitB1 (fun K => (.ref (He.ga K "NotEven"))) (fun _ => .type "ValueError") true, HP.fa_ (.exc "NotClosed"), HP.excCB "NotClosed", HP.kitB1 (fun K => (.ref (He.ga K "NotClosed"))) (fun K => (.ref (He.ga K "PlotError"))) true, HP.kitB1 (fun K => (.ref (He.ga K "NotClosed"))) (fun _ => .type "ValueError") true, HP.fa_ (.exc "Nothing"), HP.excCB "Nothing", HP.kitB1 (fun K => (.ref (He.ga K "Nothing"))) (fun K => (.ref (He.ga K "PlotError"))) true, HP.kitB1 (fun K => (.ref (He.ga K "Nothing"))) (fun _ => .type "ValueError") true, HP.fa_ (.exc "InvalidIntervals"), HP.excCB "InvalidIntervals", HP.kitB1 (fun K => (.ref (He.ga K "InvalidIntervals"))) (fun K => (.ref (He.ga K "PlotError"))) true, HP.kitB1 (fun K => (.ref (He.ga K "InvalidIntervals"))) (fun _ => .type "ValueError") true, HP.fa_ (.exc "InvalidPlace"), HP.excCB "InvalidPlace", HP.kitB1 (fun K => (.ref (He.ga K "InvalidPlace"))) (fun K => (.ref (He.ga K "PlotError"))) true, HP.kitB1 (fun K => (.ref (He.ga K "InvalidPlace"))) (fun _ => .type "ValueError") true, HP.fa_ (.exc "NotDrifting"), HP.excCB "NotDrifting", HP.kitB1 (fun K => (.ref (He.ga K "NotDrifting"))) (fun K => (.ref (He.ga K "PlotError"))) true]
def fa11 : List HP.Fact := [HP.kitB1 (fun K => (.ref (He.ga K "NotDrifting"))) (fun _ => .type "ValueError") true, HP.fa_ (.exc "InvalidCount"), HP.excCB "InvalidCount", HP.kitB1 (fun K => (.ref (He.ga K "InvalidCount"))) (fun K => (.ref (He.ga K "PlotError"))) true, HP.kitB1 (fun K => (.ref (He.ga K "InvalidCount"))) (fun _ => .type "ValueError") true, HP.fa_ (.exc "NoSteps"), HP.excCB "NoSteps", HP.kitB1 (fun K => (.ref (He.ga K "NoSteps"))) (fun K => (.ref (He.ga K "PlotError"))) true, HP.kitB1 (fun K => (.ref (He.ga K "NoSteps"))) (fun _ => .type "ValueError") true, HP.fa_ (.exc "InvalidOperation"), HP.excCB "InvalidOperation", HP.kitB1 (fun K => (.ref (He.ga K "InvalidOperation"))) (fun K => (.ref (He.ga K "PlotError"))) true, HP.kitB1 (fun K => (.ref (He.ga K "InvalidOperation"))) (fun _ => .type "ValueError") true, HP.fa_ (.exc "InvalidArt"), HP.excCB "InvalidArt", HP.kitB1 (fun K => (.ref (He.ga K "InvalidArt"))) (fun K => (.ref (He.ga K "PlotError"))) true, HP.kitB1 (fun K => (.ref (He.ga K "InvalidArt"))) (fun _ => .type "ValueError") true, HP.fa_ (.exc "InvalidCommand"), HP.excCB "InvalidCommand", HP.kitB1 (fun K => (.ref (He.ga K "InvalidCommand"))) (fun K => (.ref (He.ga K "PlotError"))) true, HP.kitB1 (fun K => (.ref (He.ga K "InvalidCommand"))) (fun _ => .type "ValueError") true, HX.oexB "InvalidText", HX.oinB "InvalidText", HX.noB "InvalidText" "index", HP.excCB "InvalidText"]
def fa12 : List HP.Fact := [HP.kitB1 (fun K => (.ref (He.ga K "InvalidText"))) (fun K => (.ref (He.ga K "PlotError"))) true, HP.kitB1 (fun K => (.ref (He.ga K "InvalidText"))) (fun _ => .type "ValueError") true, HX.oexB "InvalidSource", HX.oinB "InvalidSource", HX.noB "InvalidSource" "line", HX.noB "InvalidSource" "index", HP.excCB "InvalidSource", HP.kitB1 (fun K => (.ref (He.ga K "InvalidSource"))) (fun K => (.ref (He.ga K "PlotError"))) true, HP.kitB1 (fun K => (.ref (He.ga K "InvalidSource"))) (fun _ => .type "ValueError") true, HP.kitB1 (fun K => (.ref (He.ga K "TooDeep"))) (fun K => (.ref (He.ga K "PlotError"))) true, HP.kitB1 (fun K => (.ref (He.ga K "TooDeep"))) (fun _ => .type "ValueError") true, HP.kitB1 (fun K => (.ref (He.ga K "TooLarge"))) (fun K => (.ref (He.ga K "PlotError"))) true, HP.kitB1 (fun K => (.ref (He.ga K "TooLarge"))) (fun _ => .type "ValueError") true, HP.fa_ (.exc "PlotError"), HP.excCB "PlotError", HP.kitA1 (fun K => (.ref (He.ga K "PlotError"))) ["InvalidText", "HasPen"] false, HP.kitB1 (fun _ => .type "NoneType") (fun K => (.ref (He.ga K "Program"))) false, HP.kitB1 (fun _ => .type "int") (fun K => (.ref (He.ga K "Program"))) false, HP.kitB1 (fun _ => .type "bool") (fun K => (.ref (He.ga K "Program"))) false, HP.kitB1 (fun _ => .type "str") (fun K => (.ref (He.ga K "Program"))) false, HP.kitB1 (fun _ => .type "list") (fun K => (.ref (He.ga K "Program"))) false, HP.kitB1 (fun _ => .type "tuple") (fun K => (.ref (He.ga K "Program"))) false, HP.kitB1 (fun _ => .type "dict") (fun K => (.ref (He.ga K "Program"))) false, HP.kitB1 (fun K => (.ref (He.ga K "Program"))) (fun _ => .type "int") false, HP.kitB1 (fun K => (.ref (He.ga K "Program"))) (fun _ => .type "bool") false]
def fa13 : List HP.Fact := [HP.kitB1 (fun K => (.ref (He.ga K "Program"))) (fun _ => .type "str") false, HP.fa_ (.glo "UNDONE"), HQ.hasB "UNDONE" "f" (.str "b"), HQ.hasB "UNDONE" "b" (.str "f"), HQ.hasB "UNDONE" "l" (.str "r"), HQ.hasB "UNDONE" "r" (.str "l"), HQ.missB "UNDONE" "u", HQ.missB "UNDONE" "d", HP.firstB "Program", HP.rightB "Program" .Add "NoneType", HP.rightB "Program" .Add "int", HP.rightB "Program" .Add "bool", HP.rightB "Program" .Add "str", HP.rightB "Program" .Add "list", HP.rightB "Program" .Add "tuple", HP.rightB "Program" .Add "dict", HP.rightB "Program" .Mult "NoneType", HP.rightB "Program" .Mult "int", HP.rightB "Program" .Mult "bool", HP.rightB "Program" .Mult "str", HP.rightB "Program" .Mult "list", HP.rightB "Program" .Mult "tuple", HP.rightB "Program" .Mult "dict"]
def facts : List HP.Fact := fa0 ++ fa1 ++ fa2 ++ fa3 ++ fa4 ++ fa5 ++ fa6 ++ fa7 ++ fa8 ++ fa9 ++ fa10 ++ fa11 ++ fa12 ++ fa13
def nm0 : List Str := ["_wall", "PlotError", "InvalidText", "InvalidSource", "TooDeep", "TooLarge", "InvalidProgram", "InvalidTimes", "InvalidIndex", "InvalidLetter", "InvalidName", "HasPen", "InvalidMotion", "InvalidPose", "InvalidPoint", "InvalidEdge", "InvalidPicture", "InvalidTurn", "InvalidFace", "InvalidFaces", "NotEven", "NotClosed", "InvalidIntervals", "InvalidPlace", "NotDrifting", "InvalidCount", "NoSteps", "InvalidOperation", "Nothing", "InvalidArt"]
def nm1 : List Str := ["InvalidCommand", "MOST_TIMES", "MOST_DIGITS", "is_integer", "is_integer_within", "is_decimal", "check_times", "LETTERS", "MOST_WORDS", "MOST_DEPTH", "MIRRORED", "UNDONE", "words_of", "is_letter", "number_of", "wrong_word", "mirrored", "backward", "_is_counted", "_is_number", "Part", "size_of", "levels_of", "parts_of_words", "_parts_from", "count_in", "Program", "check_text", "check_program", "_law_bag"]
def nm2 : List Str := ["_law_pick", "_law_number", "_law_words", "_law_length", "_law_steps", "_law_short", "_law_class", "_law_told", "_law_made_right", "_law_sizes_right"]
def names : List Str := nm0 ++ nm1 ++ nm2
structure Tx (K : PySem.W.Frag) (mg : Str → Option Value) : Prop where
  g_is_integer : mg "is_integer" = some (.ref (He.ga K "is_integer"))
  g_is_integer_within : mg "is_integer_within" = some (.ref (He.ga K "is_integer_within"))
  g_is_decimal : mg "is_decimal" = some (.ref (He.ga K "is_decimal"))
  g_check_times : mg "check_times" = some (.ref (He.ga K "check_times"))
  g_words_of : mg "words_of" = some (.ref (He.ga K "words_of"))
  g_is_letter : mg "is_letter" = some (.ref (He.ga K "is_letter"))
  g_number_of : mg "number_of" = some (.ref (He.ga K "number_of"))
  g_wrong_word : mg "wrong_word" = some (.ref (He.ga K "wrong_word"))
  g_mirrored : mg "mirrored" = some (.ref (He.ga K "mirrored"))
  g_backward : mg "backward" = some (.ref (He.ga K "backward"))
  g__is_counted : mg "_is_counted" = some (.ref (He.ga K "_is_counted"))
  g__is_number : mg "_is_number" = some (.ref (He.ga K "_is_number"))
  g_size_of : mg "size_of" = some (.ref (He.ga K "size_of"))
  g_levels_of : mg "levels_of" = some (.ref (He.ga K "levels_of"))
  g_parts_of_words : mg "parts_of_words" = some (.ref (He.ga K "parts_of_words"))
  g__parts_from : mg "_parts_from" = some (.ref (He.ga K "_parts_from"))
  g_count_in : mg "count_in" = some (.ref (He.ga K "count_in"))
  p_Program_text : PropOf K (He.ga K "Program") "text" (He.ma K (He.ga K "Program") "text") (HP.getA "Program" "text" K)
  p_Program_length : PropOf K (He.ga K "Program") "length" (He.ma K (He.ga K "Program") "length") (HP.getA "Program" "length" K)
  p_Program_depth : PropOf K (He.ga K "Program") "depth" (He.ma K (He.ga K "Program") "depth") (HP.getA "Program" "depth" K)
  m_Program_len : Meth K (He.ga K "Program") "__len__" (He.ma K (He.ga K "Program") "__len__")
  m_Program_eq : Meth K (He.ga K "Program") "__eq__" (He.ma K (He.ga K "Program") "__eq__")
  m_Program_contains : Meth K (He.ga K "Program") "__contains__" (He.ma K (He.ga K "Program") "__contains__")
  m_Program_add : Meth K (He.ga K "Program") "__add__" (He.ma K (He.ga K "Program") "__add__")
  m_Program_mul : Meth K (He.ga K "Program") "__mul__" (He.ma K (He.ga K "Program") "__mul__")
  m_Program_neg : Meth K (He.ga K "Program") "__neg__" (He.ma K (He.ga K "Program") "__neg__")
  m_Program_invert : Meth K (He.ga K "Program") "__invert__" (He.ma K (He.ga K "Program") "__invert__")
  g_check_text : mg "check_text" = some (.ref (He.ga K "check_text"))
  g_check_program : mg "check_program" = some (.ref (He.ga K "check_program"))
  g__law_bag : mg "_law_bag" = some (.ref (He.ga K "_law_bag"))
  g__law_pick : mg "_law_pick" = some (.ref (He.ga K "_law_pick"))
  g__law_number : mg "_law_number" = some (.ref (He.ga K "_law_number"))
  g__law_words : mg "_law_words" = some (.ref (He.ga K "_law_words"))
  g__law_length : mg "_law_length" = some (.ref (He.ga K "_law_length"))
  g__law_steps : mg "_law_steps" = some (.ref (He.ga K "_law_steps"))
  g__law_short : mg "_law_short" = some (.ref (He.ga K "_law_short"))
  g__law_class : mg "_law_class" = some (.ref (He.ga K "_law_class"))
  g__law_told : mg "_law_told" = some (.ref (He.ga K "_law_told"))
  g__law_made_right : mg "_law_made_right" = some (.ref (He.ga K "_law_made_right"))
  g__law_sizes_right : mg "_law_sizes_right" = some (.ref (He.ga K "_law_sizes_right"))
  g_law : mg "law" = some (.ref (He.ga K "law"))
  g_PlotError : mg "PlotError" = some (.ref (He.ga K "PlotError"))
  g_InvalidText : mg "InvalidText" = some (.ref (He.ga K "InvalidText"))
  g_InvalidSource : mg "InvalidSource" = some (.ref (He.ga K "InvalidSource"))
  g_TooDeep : mg "TooDeep" = some (.ref (He.ga K "TooDeep"))
  g_TooLarge : mg "TooLarge" = some (.ref (He.ga K "TooLarge"))
  g_InvalidProgram : mg "InvalidProgram" = some (.ref (He.ga K "InvalidProgram"))
  g_InvalidTimes : mg "InvalidTimes" = some (.ref (He.ga K "InvalidTimes"))
  g_InvalidIndex : mg "InvalidIndex" = some (.ref (He.ga K "InvalidIndex"))
  g_InvalidLetter : mg "InvalidLetter" = some (.ref (He.ga K "InvalidLetter"))
  g_InvalidName : mg "InvalidName" = some (.ref (He.ga K "InvalidName"))
  g_HasPen : mg "HasPen" = some (.ref (He.ga K "HasPen"))
  g_InvalidMotion : mg "InvalidMotion" = some (.ref (He.ga K "InvalidMotion"))
  g_InvalidPose : mg "InvalidPose" = some (.ref (He.ga K "InvalidPose"))
  g_InvalidPoint : mg "InvalidPoint" = some (.ref (He.ga K "InvalidPoint"))
  g_InvalidEdge : mg "InvalidEdge" = some (.ref (He.ga K "InvalidEdge"))
  g_InvalidPicture : mg "InvalidPicture" = some (.ref (He.ga K "InvalidPicture"))
  g_InvalidTurn : mg "InvalidTurn" = some (.ref (He.ga K "InvalidTurn"))
  g_InvalidFace : mg "InvalidFace" = some (.ref (He.ga K "InvalidFace"))
  g_InvalidFaces : mg "InvalidFaces" = some (.ref (He.ga K "InvalidFaces"))
  g_NotEven : mg "NotEven" = some (.ref (He.ga K "NotEven"))
  g_NotClosed : mg "NotClosed" = some (.ref (He.ga K "NotClosed"))
  g_InvalidIntervals : mg "InvalidIntervals" = some (.ref (He.ga K "InvalidIntervals"))
  g_InvalidPlace : mg "InvalidPlace" = some (.ref (He.ga K "InvalidPlace"))
  g_NotDrifting : mg "NotDrifting" = some (.ref (He.ga K "NotDrifting"))
  g_InvalidCount : mg "InvalidCount" = some (.ref (He.ga K "InvalidCount"))
  g_NoSteps : mg "NoSteps" = some (.ref (He.ga K "NoSteps"))
  g_InvalidOperation : mg "InvalidOperation" = some (.ref (He.ga K "InvalidOperation"))
  g_Nothing : mg "Nothing" = some (.ref (He.ga K "Nothing"))
  g_InvalidArt : mg "InvalidArt" = some (.ref (He.ga K "InvalidArt"))
  g_InvalidCommand : mg "InvalidCommand" = some (.ref (He.ga K "InvalidCommand"))
  g_Part : mg "Part" = some (.ref (He.ga K "Part"))
  c_Part : Cls K (He.ga K "Part")
  k_Part : Mk K (He.ga K "Part") (He.ma K (He.ga K "Part") "__init__")
  i_Part : HP.IsiC K (He.ga K "Part")
  t_Part : PySem.W.kitOne K (.ref (He.ga K "Part")) (.ref (He.ga K "Part")) = some true
  n_Part_letter : NoAttr K (He.ga K "Part") "letter"
  n_Part_times : NoAttr K (He.ga K "Part") "times"
  n_Part_inner : NoAttr K (He.ga K "Part") "inner"
  n_Part_unit : NoAttr K (He.ga K "Part") "unit"
  n_Part_size : NoAttr K (He.ga K "Part") "size"
  n_Part_levels : NoAttr K (He.ga K "Part") "levels"
  g_Program : mg "Program" = some (.ref (He.ga K "Program"))
  c_Program : Cls K (He.ga K "Program")
  k_Program : Mk K (He.ga K "Program") (He.ma K (He.ga K "Program") "__init__")
  i_Program : HP.IsiC K (He.ga K "Program")
  t_Program : PySem.W.kitOne K (.ref (He.ga K "Program")) (.ref (He.ga K "Program")) = some true
  n_Program__text : NoAttr K (He.ga K "Program") "_text"
  n_Program__words : NoAttr K (He.ga K "Program") "_words"
  n_Program__parts : NoAttr K (He.ga K "Program") "_parts"
  n_Program__length : NoAttr K (He.ga K "Program") "_length"
  n_Program__depth : NoAttr K (He.ga K "Program") "_depth"
  z_ValueError : mg "ValueError" = none
  z_bool : mg "bool" = none
  z_enumerate : mg "enumerate" = none
  z_int : mg "int" = none
  z_isinstance : mg "isinstance" = none
  z_len : mg "len" = none
  z_max : mg "max" = none
  z_property : mg "property" = none
  z_repr : mg "repr" = none
  z_reversed : mg "reversed" = none
  z_str : mg "str" = none
  z_sum : mg "sum" = none
  z_tuple : mg "tuple" = none
  v_MOST_TIMES : ∃ t, mg "MOST_TIMES" = some (.int (1000000000000000000000000000000) t)
  v_MOST_DIGITS : ∃ t, mg "MOST_DIGITS" = some (.int (31) t)
  v_MOST_WORDS : ∃ t, mg "MOST_WORDS" = some (.int (1000) t)
  v_MOST_DEPTH : ∃ t, mg "MOST_DEPTH" = some (.int (12) t)
  g_LETTERS : mg "LETTERS" = some (.ref (He.ga K "LETTERS"))
  l_LETTERS : ∀ H : Hp, SqT K H (He.ga K "LETTERS") ([.str "f", .str "b", .str "l", .str "r", .str "u", .str "d"] : List V)
  x_InvalidProgram : PySem.W.excIn K (He.ga K "InvalidProgram") He.veBase "ValueError.__new__" = true ∧ PySem.W.keepIn K (.ref (He.ga K "InvalidProgram")) = true ∧ PySem.W.subIn K (.ref (He.ga K "InvalidProgram")) (.type "BaseException") = some true ∧ PySem.W.typeIn K (.ref (He.ga K "InvalidProgram")) = some (.type "type")
  e_InvalidProgram : ExcC K (He.ga K "InvalidProgram")
  pe_InvalidProgram : PySem.W.exmOne K (.ref (He.ga K "InvalidProgram")) (.ref (He.ga K "PlotError")) = some true
  q_InvalidProgram_InvalidText : PySem.W.kitOne K (.ref (He.ga K "InvalidProgram")) (.ref (He.ga K "InvalidText")) = some false
  q_InvalidProgram_InvalidSource : PySem.W.kitOne K (.ref (He.ga K "InvalidProgram")) (.ref (He.ga K "InvalidSource")) = some false
  q_InvalidProgram_InvalidProgram : PySem.W.kitOne K (.ref (He.ga K "InvalidProgram")) (.ref (He.ga K "InvalidProgram")) = some true
  q_InvalidProgram_InvalidTimes : PySem.W.kitOne K (.ref (He.ga K "InvalidProgram")) (.ref (He.ga K "InvalidTimes")) = some false
  q_InvalidProgram_InvalidIndex : PySem.W.kitOne K (.ref (He.ga K "InvalidProgram")) (.ref (He.ga K "InvalidIndex")) = some false
  q_InvalidProgram_InvalidLetter : PySem.W.kitOne K (.ref (He.ga K "InvalidProgram")) (.ref (He.ga K "InvalidLetter")) = some false
  q_InvalidProgram_InvalidName : PySem.W.kitOne K (.ref (He.ga K "InvalidProgram")) (.ref (He.ga K "InvalidName")) = some false
  q_InvalidProgram_HasPen : PySem.W.kitOne K (.ref (He.ga K "InvalidProgram")) (.ref (He.ga K "HasPen")) = some false
  q_InvalidProgram_TooDeep : PySem.W.kitOne K (.ref (He.ga K "InvalidProgram")) (.ref (He.ga K "TooDeep")) = some false
  q_InvalidProgram_TooLarge : PySem.W.kitOne K (.ref (He.ga K "InvalidProgram")) (.ref (He.ga K "TooLarge")) = some false
  q_InvalidProgram_VE : PySem.W.kitOne K (.ref (He.ga K "InvalidProgram")) (.type "ValueError") = some true
  qa0_InvalidProgram : PySem.W.kitAny K (.ref (He.ga K "InvalidProgram")) ((["InvalidArt", "InvalidCommand", "InvalidCount", "InvalidEdge", "InvalidFace", "InvalidFaces"] : List Str).map fun x => .ref (He.ga K x)) = some false
  qa1_InvalidProgram : PySem.W.kitAny K (.ref (He.ga K "InvalidProgram")) ((["InvalidIntervals", "InvalidMotion", "InvalidOperation", "InvalidPicture", "InvalidPlace"] : List Str).map fun x => .ref (He.ga K x)) = some false
  qa2_InvalidProgram : PySem.W.kitAny K (.ref (He.ga K "InvalidProgram")) ((["InvalidPoint", "InvalidPose", "InvalidTurn", "NoSteps", "NotClosed", "NotDrifting", "NotEven", "Nothing"] : List Str).map fun x => .ref (He.ga K x)) = some false
  x_InvalidTimes : PySem.W.excIn K (He.ga K "InvalidTimes") He.veBase "ValueError.__new__" = true ∧ PySem.W.keepIn K (.ref (He.ga K "InvalidTimes")) = true ∧ PySem.W.subIn K (.ref (He.ga K "InvalidTimes")) (.type "BaseException") = some true ∧ PySem.W.typeIn K (.ref (He.ga K "InvalidTimes")) = some (.type "type")
  e_InvalidTimes : ExcC K (He.ga K "InvalidTimes")
  pe_InvalidTimes : PySem.W.exmOne K (.ref (He.ga K "InvalidTimes")) (.ref (He.ga K "PlotError")) = some true
  q_InvalidTimes_InvalidText : PySem.W.kitOne K (.ref (He.ga K "InvalidTimes")) (.ref (He.ga K "InvalidText")) = some false
  q_InvalidTimes_InvalidSource : PySem.W.kitOne K (.ref (He.ga K "InvalidTimes")) (.ref (He.ga K "InvalidSource")) = some false
  q_InvalidTimes_InvalidProgram : PySem.W.kitOne K (.ref (He.ga K "InvalidTimes")) (.ref (He.ga K "InvalidProgram")) = some false
  q_InvalidTimes_InvalidTimes : PySem.W.kitOne K (.ref (He.ga K "InvalidTimes")) (.ref (He.ga K "InvalidTimes")) = some true
  q_InvalidTimes_InvalidIndex : PySem.W.kitOne K (.ref (He.ga K "InvalidTimes")) (.ref (He.ga K "InvalidIndex")) = some false
  q_InvalidTimes_InvalidLetter : PySem.W.kitOne K (.ref (He.ga K "InvalidTimes")) (.ref (He.ga K "InvalidLetter")) = some false
  q_InvalidTimes_InvalidName : PySem.W.kitOne K (.ref (He.ga K "InvalidTimes")) (.ref (He.ga K "InvalidName")) = some false
  q_InvalidTimes_HasPen : PySem.W.kitOne K (.ref (He.ga K "InvalidTimes")) (.ref (He.ga K "HasPen")) = some false
  q_InvalidTimes_TooDeep : PySem.W.kitOne K (.ref (He.ga K "InvalidTimes")) (.ref (He.ga K "TooDeep")) = some false
  q_InvalidTimes_TooLarge : PySem.W.kitOne K (.ref (He.ga K "InvalidTimes")) (.ref (He.ga K "TooLarge")) = some false
  q_InvalidTimes_VE : PySem.W.kitOne K (.ref (He.ga K "InvalidTimes")) (.type "ValueError") = some true
  qa0_InvalidTimes : PySem.W.kitAny K (.ref (He.ga K "InvalidTimes")) ((["InvalidArt", "InvalidCommand", "InvalidCount", "InvalidEdge", "InvalidFace", "InvalidFaces"] : List Str).map fun x => .ref (He.ga K x)) = some false
  qa1_InvalidTimes : PySem.W.kitAny K (.ref (He.ga K "InvalidTimes")) ((["InvalidIntervals", "InvalidMotion", "InvalidOperation", "InvalidPicture", "InvalidPlace"] : List Str).map fun x => .ref (He.ga K x)) = some false
  qa2_InvalidTimes : PySem.W.kitAny K (.ref (He.ga K "InvalidTimes")) ((["InvalidPoint", "InvalidPose", "InvalidTurn", "NoSteps", "NotClosed", "NotDrifting", "NotEven", "Nothing"] : List Str).map fun x => .ref (He.ga K x)) = some false
  x_HasPen : PySem.W.excIn K (He.ga K "HasPen") He.veBase "ValueError.__new__" = true ∧ PySem.W.keepIn K (.ref (He.ga K "HasPen")) = true ∧ PySem.W.subIn K (.ref (He.ga K "HasPen")) (.type "BaseException") = some true ∧ PySem.W.typeIn K (.ref (He.ga K "HasPen")) = some (.type "type")
  e_HasPen : ExcC K (He.ga K "HasPen")
  pe_HasPen : PySem.W.exmOne K (.ref (He.ga K "HasPen")) (.ref (He.ga K "PlotError")) = some true
  q_HasPen_InvalidText : PySem.W.kitOne K (.ref (He.ga K "HasPen")) (.ref (He.ga K "InvalidText")) = some false
  q_HasPen_InvalidSource : PySem.W.kitOne K (.ref (He.ga K "HasPen")) (.ref (He.ga K "InvalidSource")) = some false
  q_HasPen_InvalidProgram : PySem.W.kitOne K (.ref (He.ga K "HasPen")) (.ref (He.ga K "InvalidProgram")) = some false
  q_HasPen_InvalidTimes : PySem.W.kitOne K (.ref (He.ga K "HasPen")) (.ref (He.ga K "InvalidTimes")) = some false
  q_HasPen_InvalidIndex : PySem.W.kitOne K (.ref (He.ga K "HasPen")) (.ref (He.ga K "InvalidIndex")) = some false
  q_HasPen_InvalidLetter : PySem.W.kitOne K (.ref (He.ga K "HasPen")) (.ref (He.ga K "InvalidLetter")) = some false
  q_HasPen_InvalidName : PySem.W.kitOne K (.ref (He.ga K "HasPen")) (.ref (He.ga K "InvalidName")) = some false
  q_HasPen_HasPen : PySem.W.kitOne K (.ref (He.ga K "HasPen")) (.ref (He.ga K "HasPen")) = some true
  q_HasPen_TooDeep : PySem.W.kitOne K (.ref (He.ga K "HasPen")) (.ref (He.ga K "TooDeep")) = some false
  q_HasPen_TooLarge : PySem.W.kitOne K (.ref (He.ga K "HasPen")) (.ref (He.ga K "TooLarge")) = some false
  q_HasPen_VE : PySem.W.kitOne K (.ref (He.ga K "HasPen")) (.type "ValueError") = some true
  qa0_HasPen : PySem.W.kitAny K (.ref (He.ga K "HasPen")) ((["InvalidArt", "InvalidCommand", "InvalidCount", "InvalidEdge", "InvalidFace", "InvalidFaces"] : List Str).map fun x => .ref (He.ga K x)) = some false
  qa1_HasPen : PySem.W.kitAny K (.ref (He.ga K "HasPen")) ((["InvalidIntervals", "InvalidMotion", "InvalidOperation", "InvalidPicture", "InvalidPlace"] : List Str).map fun x => .ref (He.ga K x)) = some false
  qa2_HasPen : PySem.W.kitAny K (.ref (He.ga K "HasPen")) ((["InvalidPoint", "InvalidPose", "InvalidTurn", "NoSteps", "NotClosed", "NotDrifting", "NotEven", "Nothing"] : List Str).map fun x => .ref (He.ga K x)) = some false
  ox_TooDeep : OexC K (He.ga K "TooDeep")
  oi_TooDeep : PySem.W.findIn K (.ref (He.ga K "TooDeep")) "__init__" = some (some (.ref (He.fAd K ("TooDeep", some "__init__")))) ∧ PySem.W.typeIn K (.ref (He.fAd K ("TooDeep", some "__init__"))) = some (.type "function")
  no_TooDeep_limit : PySem.W.findIn K (.ref (He.ga K "TooDeep")) "limit" = some none
  e_TooDeep : ExcC K (He.ga K "TooDeep")
  pe_TooDeep : PySem.W.exmOne K (.ref (He.ga K "TooDeep")) (.ref (He.ga K "PlotError")) = some true
  q_TooDeep_InvalidText : PySem.W.kitOne K (.ref (He.ga K "TooDeep")) (.ref (He.ga K "InvalidText")) = some false
  q_TooDeep_InvalidSource : PySem.W.kitOne K (.ref (He.ga K "TooDeep")) (.ref (He.ga K "InvalidSource")) = some false
  q_TooDeep_InvalidProgram : PySem.W.kitOne K (.ref (He.ga K "TooDeep")) (.ref (He.ga K "InvalidProgram")) = some false
  q_TooDeep_InvalidTimes : PySem.W.kitOne K (.ref (He.ga K "TooDeep")) (.ref (He.ga K "InvalidTimes")) = some false
  q_TooDeep_InvalidIndex : PySem.W.kitOne K (.ref (He.ga K "TooDeep")) (.ref (He.ga K "InvalidIndex")) = some false
  q_TooDeep_InvalidLetter : PySem.W.kitOne K (.ref (He.ga K "TooDeep")) (.ref (He.ga K "InvalidLetter")) = some false
  q_TooDeep_InvalidName : PySem.W.kitOne K (.ref (He.ga K "TooDeep")) (.ref (He.ga K "InvalidName")) = some false
  q_TooDeep_HasPen : PySem.W.kitOne K (.ref (He.ga K "TooDeep")) (.ref (He.ga K "HasPen")) = some false
  q_TooDeep_TooDeep : PySem.W.kitOne K (.ref (He.ga K "TooDeep")) (.ref (He.ga K "TooDeep")) = some true
  q_TooDeep_TooLarge : PySem.W.kitOne K (.ref (He.ga K "TooDeep")) (.ref (He.ga K "TooLarge")) = some false
  q_TooDeep_VE : PySem.W.kitOne K (.ref (He.ga K "TooDeep")) (.type "ValueError") = some true
  qa0_TooDeep : PySem.W.kitAny K (.ref (He.ga K "TooDeep")) ((["InvalidArt", "InvalidCommand", "InvalidCount", "InvalidEdge", "InvalidFace", "InvalidFaces"] : List Str).map fun x => .ref (He.ga K x)) = some false
  qa1_TooDeep : PySem.W.kitAny K (.ref (He.ga K "TooDeep")) ((["InvalidIntervals", "InvalidMotion", "InvalidOperation", "InvalidPicture", "InvalidPlace"] : List Str).map fun x => .ref (He.ga K x)) = some false
  qa2_TooDeep : PySem.W.kitAny K (.ref (He.ga K "TooDeep")) ((["InvalidPoint", "InvalidPose", "InvalidTurn", "NoSteps", "NotClosed", "NotDrifting", "NotEven", "Nothing"] : List Str).map fun x => .ref (He.ga K x)) = some false
  ox_TooLarge : OexC K (He.ga K "TooLarge")
  oi_TooLarge : PySem.W.findIn K (.ref (He.ga K "TooLarge")) "__init__" = some (some (.ref (He.fAd K ("TooLarge", some "__init__")))) ∧ PySem.W.typeIn K (.ref (He.fAd K ("TooLarge", some "__init__"))) = some (.type "function")
  no_TooLarge_limit : PySem.W.findIn K (.ref (He.ga K "TooLarge")) "limit" = some none
  e_TooLarge : ExcC K (He.ga K "TooLarge")
  pe_TooLarge : PySem.W.exmOne K (.ref (He.ga K "TooLarge")) (.ref (He.ga K "PlotError")) = some true
  q_TooLarge_InvalidText : PySem.W.kitOne K (.ref (He.ga K "TooLarge")) (.ref (He.ga K "InvalidText")) = some false
  q_TooLarge_InvalidSource : PySem.W.kitOne K (.ref (He.ga K "TooLarge")) (.ref (He.ga K "InvalidSource")) = some false
  q_TooLarge_InvalidProgram : PySem.W.kitOne K (.ref (He.ga K "TooLarge")) (.ref (He.ga K "InvalidProgram")) = some false
  q_TooLarge_InvalidTimes : PySem.W.kitOne K (.ref (He.ga K "TooLarge")) (.ref (He.ga K "InvalidTimes")) = some false
  q_TooLarge_InvalidIndex : PySem.W.kitOne K (.ref (He.ga K "TooLarge")) (.ref (He.ga K "InvalidIndex")) = some false
  q_TooLarge_InvalidLetter : PySem.W.kitOne K (.ref (He.ga K "TooLarge")) (.ref (He.ga K "InvalidLetter")) = some false
  q_TooLarge_InvalidName : PySem.W.kitOne K (.ref (He.ga K "TooLarge")) (.ref (He.ga K "InvalidName")) = some false
  q_TooLarge_HasPen : PySem.W.kitOne K (.ref (He.ga K "TooLarge")) (.ref (He.ga K "HasPen")) = some false
  q_TooLarge_TooDeep : PySem.W.kitOne K (.ref (He.ga K "TooLarge")) (.ref (He.ga K "TooDeep")) = some false
  q_TooLarge_TooLarge : PySem.W.kitOne K (.ref (He.ga K "TooLarge")) (.ref (He.ga K "TooLarge")) = some true
  q_TooLarge_VE : PySem.W.kitOne K (.ref (He.ga K "TooLarge")) (.type "ValueError") = some true
  qa0_TooLarge : PySem.W.kitAny K (.ref (He.ga K "TooLarge")) ((["InvalidArt", "InvalidCommand", "InvalidCount", "InvalidEdge", "InvalidFace", "InvalidFaces"] : List Str).map fun x => .ref (He.ga K x)) = some false
  qa1_TooLarge : PySem.W.kitAny K (.ref (He.ga K "TooLarge")) ((["InvalidIntervals", "InvalidMotion", "InvalidOperation", "InvalidPicture", "InvalidPlace"] : List Str).map fun x => .ref (He.ga K x)) = some false
  qa2_TooLarge : PySem.W.kitAny K (.ref (He.ga K "TooLarge")) ((["InvalidPoint", "InvalidPose", "InvalidTurn", "NoSteps", "NotClosed", "NotDrifting", "NotEven", "Nothing"] : List Str).map fun x => .ref (He.ga K x)) = some false
  ce_PlotError : PySem.W.specialIn K (.ref (He.ga K "PlotError")) "__getattribute__" = some (some (.builtin "type.__getattribute__")) ∧ PySem.W.typeIn K (.ref (He.ga K "PlotError")) = some (.type "type") ∧ PySem.W.readsIn K (He.ga K "PlotError") (.type "type") = true ∧ PySem.W.findCls K (.ref (He.ga K "PlotError")) (.type "type") "__init__" = some (.val (.builtin "ValueError.__init__"))
  sm : DQ.SysOk K
  pk_InvalidProgram : PySem.W.kitOne K (.ref (He.ga K "InvalidProgram")) (.ref (He.ga K "PlotError")) = some true
  vk_InvalidProgram : PySem.W.kitOne K (.ref (He.ga K "InvalidProgram")) (.type "ValueError") = some true
  pk_InvalidTimes : PySem.W.kitOne K (.ref (He.ga K "InvalidTimes")) (.ref (He.ga K "PlotError")) = some true
  vk_InvalidTimes : PySem.W.kitOne K (.ref (He.ga K "InvalidTimes")) (.type "ValueError") = some true
  x_InvalidIndex : PySem.W.excIn K (He.ga K "InvalidIndex") He.veBase "ValueError.__new__" = true ∧ PySem.W.keepIn K (.ref (He.ga K "InvalidIndex")) = true ∧ PySem.W.subIn K (.ref (He.ga K "InvalidIndex")) (.type "BaseException") = some true ∧ PySem.W.typeIn K (.ref (He.ga K "InvalidIndex")) = some (.type "type")
  e_InvalidIndex : ExcC K (He.ga K "InvalidIndex")
  pk_InvalidIndex : PySem.W.kitOne K (.ref (He.ga K "InvalidIndex")) (.ref (He.ga K "PlotError")) = some true
  vk_InvalidIndex : PySem.W.kitOne K (.ref (He.ga K "InvalidIndex")) (.type "ValueError") = some true
  x_InvalidLetter : PySem.W.excIn K (He.ga K "InvalidLetter") He.veBase "ValueError.__new__" = true ∧ PySem.W.keepIn K (.ref (He.ga K "InvalidLetter")) = true ∧ PySem.W.subIn K (.ref (He.ga K "InvalidLetter")) (.type "BaseException") = some true ∧ PySem.W.typeIn K (.ref (He.ga K "InvalidLetter")) = some (.type "type")
  e_InvalidLetter : ExcC K (He.ga K "InvalidLetter")
  pk_InvalidLetter : PySem.W.kitOne K (.ref (He.ga K "InvalidLetter")) (.ref (He.ga K "PlotError")) = some true
  vk_InvalidLetter : PySem.W.kitOne K (.ref (He.ga K "InvalidLetter")) (.type "ValueError") = some true
  x_InvalidName : PySem.W.excIn K (He.ga K "InvalidName") He.veBase "ValueError.__new__" = true ∧ PySem.W.keepIn K (.ref (He.ga K "InvalidName")) = true ∧ PySem.W.subIn K (.ref (He.ga K "InvalidName")) (.type "BaseException") = some true ∧ PySem.W.typeIn K (.ref (He.ga K "InvalidName")) = some (.type "type")
  e_InvalidName : ExcC K (He.ga K "InvalidName")
  pk_InvalidName : PySem.W.kitOne K (.ref (He.ga K "InvalidName")) (.ref (He.ga K "PlotError")) = some true
  vk_InvalidName : PySem.W.kitOne K (.ref (He.ga K "InvalidName")) (.type "ValueError") = some true
  pk_HasPen : PySem.W.kitOne K (.ref (He.ga K "HasPen")) (.ref (He.ga K "PlotError")) = some true
  vk_HasPen : PySem.W.kitOne K (.ref (He.ga K "HasPen")) (.type "ValueError") = some true
  x_InvalidMotion : PySem.W.excIn K (He.ga K "InvalidMotion") He.veBase "ValueError.__new__" = true ∧ PySem.W.keepIn K (.ref (He.ga K "InvalidMotion")) = true ∧ PySem.W.subIn K (.ref (He.ga K "InvalidMotion")) (.type "BaseException") = some true ∧ PySem.W.typeIn K (.ref (He.ga K "InvalidMotion")) = some (.type "type")
  e_InvalidMotion : ExcC K (He.ga K "InvalidMotion")
  pk_InvalidMotion : PySem.W.kitOne K (.ref (He.ga K "InvalidMotion")) (.ref (He.ga K "PlotError")) = some true
  vk_InvalidMotion : PySem.W.kitOne K (.ref (He.ga K "InvalidMotion")) (.type "ValueError") = some true
  x_InvalidPose : PySem.W.excIn K (He.ga K "InvalidPose") He.veBase "ValueError.__new__" = true ∧ PySem.W.keepIn K (.ref (He.ga K "InvalidPose")) = true ∧ PySem.W.subIn K (.ref (He.ga K "InvalidPose")) (.type "BaseException") = some true ∧ PySem.W.typeIn K (.ref (He.ga K "InvalidPose")) = some (.type "type")
  e_InvalidPose : ExcC K (He.ga K "InvalidPose")
  pk_InvalidPose : PySem.W.kitOne K (.ref (He.ga K "InvalidPose")) (.ref (He.ga K "PlotError")) = some true
  vk_InvalidPose : PySem.W.kitOne K (.ref (He.ga K "InvalidPose")) (.type "ValueError") = some true
  x_InvalidPoint : PySem.W.excIn K (He.ga K "InvalidPoint") He.veBase "ValueError.__new__" = true ∧ PySem.W.keepIn K (.ref (He.ga K "InvalidPoint")) = true ∧ PySem.W.subIn K (.ref (He.ga K "InvalidPoint")) (.type "BaseException") = some true ∧ PySem.W.typeIn K (.ref (He.ga K "InvalidPoint")) = some (.type "type")
  e_InvalidPoint : ExcC K (He.ga K "InvalidPoint")
  pk_InvalidPoint : PySem.W.kitOne K (.ref (He.ga K "InvalidPoint")) (.ref (He.ga K "PlotError")) = some true
  vk_InvalidPoint : PySem.W.kitOne K (.ref (He.ga K "InvalidPoint")) (.type "ValueError") = some true
  x_InvalidEdge : PySem.W.excIn K (He.ga K "InvalidEdge") He.veBase "ValueError.__new__" = true ∧ PySem.W.keepIn K (.ref (He.ga K "InvalidEdge")) = true ∧ PySem.W.subIn K (.ref (He.ga K "InvalidEdge")) (.type "BaseException") = some true ∧ PySem.W.typeIn K (.ref (He.ga K "InvalidEdge")) = some (.type "type")
  e_InvalidEdge : ExcC K (He.ga K "InvalidEdge")
  pk_InvalidEdge : PySem.W.kitOne K (.ref (He.ga K "InvalidEdge")) (.ref (He.ga K "PlotError")) = some true
  vk_InvalidEdge : PySem.W.kitOne K (.ref (He.ga K "InvalidEdge")) (.type "ValueError") = some true
  x_InvalidPicture : PySem.W.excIn K (He.ga K "InvalidPicture") He.veBase "ValueError.__new__" = true ∧ PySem.W.keepIn K (.ref (He.ga K "InvalidPicture")) = true ∧ PySem.W.subIn K (.ref (He.ga K "InvalidPicture")) (.type "BaseException") = some true ∧ PySem.W.typeIn K (.ref (He.ga K "InvalidPicture")) = some (.type "type")
  e_InvalidPicture : ExcC K (He.ga K "InvalidPicture")
  pk_InvalidPicture : PySem.W.kitOne K (.ref (He.ga K "InvalidPicture")) (.ref (He.ga K "PlotError")) = some true
  vk_InvalidPicture : PySem.W.kitOne K (.ref (He.ga K "InvalidPicture")) (.type "ValueError") = some true
  x_InvalidTurn : PySem.W.excIn K (He.ga K "InvalidTurn") He.veBase "ValueError.__new__" = true ∧ PySem.W.keepIn K (.ref (He.ga K "InvalidTurn")) = true ∧ PySem.W.subIn K (.ref (He.ga K "InvalidTurn")) (.type "BaseException") = some true ∧ PySem.W.typeIn K (.ref (He.ga K "InvalidTurn")) = some (.type "type")
  e_InvalidTurn : ExcC K (He.ga K "InvalidTurn")
  pk_InvalidTurn : PySem.W.kitOne K (.ref (He.ga K "InvalidTurn")) (.ref (He.ga K "PlotError")) = some true
  vk_InvalidTurn : PySem.W.kitOne K (.ref (He.ga K "InvalidTurn")) (.type "ValueError") = some true
  x_InvalidFace : PySem.W.excIn K (He.ga K "InvalidFace") He.veBase "ValueError.__new__" = true ∧ PySem.W.keepIn K (.ref (He.ga K "InvalidFace")) = true ∧ PySem.W.subIn K (.ref (He.ga K "InvalidFace")) (.type "BaseException") = some true ∧ PySem.W.typeIn K (.ref (He.ga K "InvalidFace")) = some (.type "type")
  e_InvalidFace : ExcC K (He.ga K "InvalidFace")
  pk_InvalidFace : PySem.W.kitOne K (.ref (He.ga K "InvalidFace")) (.ref (He.ga K "PlotError")) = some true
  vk_InvalidFace : PySem.W.kitOne K (.ref (He.ga K "InvalidFace")) (.type "ValueError") = some true
  x_InvalidFaces : PySem.W.excIn K (He.ga K "InvalidFaces") He.veBase "ValueError.__new__" = true ∧ PySem.W.keepIn K (.ref (He.ga K "InvalidFaces")) = true ∧ PySem.W.subIn K (.ref (He.ga K "InvalidFaces")) (.type "BaseException") = some true ∧ PySem.W.typeIn K (.ref (He.ga K "InvalidFaces")) = some (.type "type")
  e_InvalidFaces : ExcC K (He.ga K "InvalidFaces")
  pk_InvalidFaces : PySem.W.kitOne K (.ref (He.ga K "InvalidFaces")) (.ref (He.ga K "PlotError")) = some true
  vk_InvalidFaces : PySem.W.kitOne K (.ref (He.ga K "InvalidFaces")) (.type "ValueError") = some true
  x_NotEven : PySem.W.excIn K (He.ga K "NotEven") He.veBase "ValueError.__new__" = true ∧ PySem.W.keepIn K (.ref (He.ga K "NotEven")) = true ∧ PySem.W.subIn K (.ref (He.ga K "NotEven")) (.type "BaseException") = some true ∧ PySem.W.typeIn K (.ref (He.ga K "NotEven")) = some (.type "type")
  e_NotEven : ExcC K (He.ga K "NotEven")
  pk_NotEven : PySem.W.kitOne K (.ref (He.ga K "NotEven")) (.ref (He.ga K "PlotError")) = some true
  vk_NotEven : PySem.W.kitOne K (.ref (He.ga K "NotEven")) (.type "ValueError") = some true
  x_NotClosed : PySem.W.excIn K (He.ga K "NotClosed") He.veBase "ValueError.__new__" = true ∧ PySem.W.keepIn K (.ref (He.ga K "NotClosed")) = true ∧ PySem.W.subIn K (.ref (He.ga K "NotClosed")) (.type "BaseException") = some true ∧ PySem.W.typeIn K (.ref (He.ga K "NotClosed")) = some (.type "type")
  e_NotClosed : ExcC K (He.ga K "NotClosed")
  pk_NotClosed : PySem.W.kitOne K (.ref (He.ga K "NotClosed")) (.ref (He.ga K "PlotError")) = some true
  vk_NotClosed : PySem.W.kitOne K (.ref (He.ga K "NotClosed")) (.type "ValueError") = some true
  x_Nothing : PySem.W.excIn K (He.ga K "Nothing") He.veBase "ValueError.__new__" = true ∧ PySem.W.keepIn K (.ref (He.ga K "Nothing")) = true ∧ PySem.W.subIn K (.ref (He.ga K "Nothing")) (.type "BaseException") = some true ∧ PySem.W.typeIn K (.ref (He.ga K "Nothing")) = some (.type "type")
  e_Nothing : ExcC K (He.ga K "Nothing")
  pk_Nothing : PySem.W.kitOne K (.ref (He.ga K "Nothing")) (.ref (He.ga K "PlotError")) = some true
  vk_Nothing : PySem.W.kitOne K (.ref (He.ga K "Nothing")) (.type "ValueError") = some true
  x_InvalidIntervals : PySem.W.excIn K (He.ga K "InvalidIntervals") He.veBase "ValueError.__new__" = true ∧ PySem.W.keepIn K (.ref (He.ga K "InvalidIntervals")) = true ∧ PySem.W.subIn K (.ref (He.ga K "InvalidIntervals")) (.type "BaseException") = some true ∧ PySem.W.typeIn K (.ref (He.ga K "InvalidIntervals")) = some (.type "type")
  e_InvalidIntervals : ExcC K (He.ga K "InvalidIntervals")
  pk_InvalidIntervals : PySem.W.kitOne K (.ref (He.ga K "InvalidIntervals")) (.ref (He.ga K "PlotError")) = some true
  vk_InvalidIntervals : PySem.W.kitOne K (.ref (He.ga K "InvalidIntervals")) (.type "ValueError") = some true
  x_InvalidPlace : PySem.W.excIn K (He.ga K "InvalidPlace") He.veBase "ValueError.__new__" = true ∧ PySem.W.keepIn K (.ref (He.ga K "InvalidPlace")) = true ∧ PySem.W.subIn K (.ref (He.ga K "InvalidPlace")) (.type "BaseException") = some true ∧ PySem.W.typeIn K (.ref (He.ga K "InvalidPlace")) = some (.type "type")
  e_InvalidPlace : ExcC K (He.ga K "InvalidPlace")
  pk_InvalidPlace : PySem.W.kitOne K (.ref (He.ga K "InvalidPlace")) (.ref (He.ga K "PlotError")) = some true
  vk_InvalidPlace : PySem.W.kitOne K (.ref (He.ga K "InvalidPlace")) (.type "ValueError") = some true
  x_NotDrifting : PySem.W.excIn K (He.ga K "NotDrifting") He.veBase "ValueError.__new__" = true ∧ PySem.W.keepIn K (.ref (He.ga K "NotDrifting")) = true ∧ PySem.W.subIn K (.ref (He.ga K "NotDrifting")) (.type "BaseException") = some true ∧ PySem.W.typeIn K (.ref (He.ga K "NotDrifting")) = some (.type "type")
  e_NotDrifting : ExcC K (He.ga K "NotDrifting")
  pk_NotDrifting : PySem.W.kitOne K (.ref (He.ga K "NotDrifting")) (.ref (He.ga K "PlotError")) = some true
  vk_NotDrifting : PySem.W.kitOne K (.ref (He.ga K "NotDrifting")) (.type "ValueError") = some true
  x_InvalidCount : PySem.W.excIn K (He.ga K "InvalidCount") He.veBase "ValueError.__new__" = true ∧ PySem.W.keepIn K (.ref (He.ga K "InvalidCount")) = true ∧ PySem.W.subIn K (.ref (He.ga K "InvalidCount")) (.type "BaseException") = some true ∧ PySem.W.typeIn K (.ref (He.ga K "InvalidCount")) = some (.type "type")
  e_InvalidCount : ExcC K (He.ga K "InvalidCount")
  pk_InvalidCount : PySem.W.kitOne K (.ref (He.ga K "InvalidCount")) (.ref (He.ga K "PlotError")) = some true
  vk_InvalidCount : PySem.W.kitOne K (.ref (He.ga K "InvalidCount")) (.type "ValueError") = some true
  x_NoSteps : PySem.W.excIn K (He.ga K "NoSteps") He.veBase "ValueError.__new__" = true ∧ PySem.W.keepIn K (.ref (He.ga K "NoSteps")) = true ∧ PySem.W.subIn K (.ref (He.ga K "NoSteps")) (.type "BaseException") = some true ∧ PySem.W.typeIn K (.ref (He.ga K "NoSteps")) = some (.type "type")
  e_NoSteps : ExcC K (He.ga K "NoSteps")
  pk_NoSteps : PySem.W.kitOne K (.ref (He.ga K "NoSteps")) (.ref (He.ga K "PlotError")) = some true
  vk_NoSteps : PySem.W.kitOne K (.ref (He.ga K "NoSteps")) (.type "ValueError") = some true
  x_InvalidOperation : PySem.W.excIn K (He.ga K "InvalidOperation") He.veBase "ValueError.__new__" = true ∧ PySem.W.keepIn K (.ref (He.ga K "InvalidOperation")) = true ∧ PySem.W.subIn K (.ref (He.ga K "InvalidOperation")) (.type "BaseException") = some true ∧ PySem.W.typeIn K (.ref (He.ga K "InvalidOperation")) = some (.type "type")
  e_InvalidOperation : ExcC K (He.ga K "InvalidOperation")
  pk_InvalidOperation : PySem.W.kitOne K (.ref (He.ga K "InvalidOperation")) (.ref (He.ga K "PlotError")) = some true
  vk_InvalidOperation : PySem.W.kitOne K (.ref (He.ga K "InvalidOperation")) (.type "ValueError") = some true
  x_InvalidArt : PySem.W.excIn K (He.ga K "InvalidArt") He.veBase "ValueError.__new__" = true ∧ PySem.W.keepIn K (.ref (He.ga K "InvalidArt")) = true ∧ PySem.W.subIn K (.ref (He.ga K "InvalidArt")) (.type "BaseException") = some true ∧ PySem.W.typeIn K (.ref (He.ga K "InvalidArt")) = some (.type "type")
  e_InvalidArt : ExcC K (He.ga K "InvalidArt")
  pk_InvalidArt : PySem.W.kitOne K (.ref (He.ga K "InvalidArt")) (.ref (He.ga K "PlotError")) = some true
  vk_InvalidArt : PySem.W.kitOne K (.ref (He.ga K "InvalidArt")) (.type "ValueError") = some true
  x_InvalidCommand : PySem.W.excIn K (He.ga K "InvalidCommand") He.veBase "ValueError.__new__" = true ∧ PySem.W.keepIn K (.ref (He.ga K "InvalidCommand")) = true ∧ PySem.W.subIn K (.ref (He.ga K "InvalidCommand")) (.type "BaseException") = some true ∧ PySem.W.typeIn K (.ref (He.ga K "InvalidCommand")) = some (.type "type")
  e_InvalidCommand : ExcC K (He.ga K "InvalidCommand")
  pk_InvalidCommand : PySem.W.kitOne K (.ref (He.ga K "InvalidCommand")) (.ref (He.ga K "PlotError")) = some true
  vk_InvalidCommand : PySem.W.kitOne K (.ref (He.ga K "InvalidCommand")) (.type "ValueError") = some true
  ox_InvalidText : OexC K (He.ga K "InvalidText")
  oi_InvalidText : PySem.W.findIn K (.ref (He.ga K "InvalidText")) "__init__" = some (some (.ref (He.fAd K ("InvalidText", some "__init__")))) ∧ PySem.W.typeIn K (.ref (He.fAd K ("InvalidText", some "__init__"))) = some (.type "function")
  no_InvalidText_index : PySem.W.findIn K (.ref (He.ga K "InvalidText")) "index" = some none
  e_InvalidText : ExcC K (He.ga K "InvalidText")
  pk_InvalidText : PySem.W.kitOne K (.ref (He.ga K "InvalidText")) (.ref (He.ga K "PlotError")) = some true
  vk_InvalidText : PySem.W.kitOne K (.ref (He.ga K "InvalidText")) (.type "ValueError") = some true
  ox_InvalidSource : OexC K (He.ga K "InvalidSource")
  oi_InvalidSource : PySem.W.findIn K (.ref (He.ga K "InvalidSource")) "__init__" = some (some (.ref (He.fAd K ("InvalidSource", some "__init__")))) ∧ PySem.W.typeIn K (.ref (He.fAd K ("InvalidSource", some "__init__"))) = some (.type "function")
  no_InvalidSource_line : PySem.W.findIn K (.ref (He.ga K "InvalidSource")) "line" = some none
  no_InvalidSource_index : PySem.W.findIn K (.ref (He.ga K "InvalidSource")) "index" = some none
  e_InvalidSource : ExcC K (He.ga K "InvalidSource")
  pk_InvalidSource : PySem.W.kitOne K (.ref (He.ga K "InvalidSource")) (.ref (He.ga K "PlotError")) = some true
  vk_InvalidSource : PySem.W.kitOne K (.ref (He.ga K "InvalidSource")) (.type "ValueError") = some true
  pk_TooDeep : PySem.W.kitOne K (.ref (He.ga K "TooDeep")) (.ref (He.ga K "PlotError")) = some true
  vk_TooDeep : PySem.W.kitOne K (.ref (He.ga K "TooDeep")) (.type "ValueError") = some true
  pk_TooLarge : PySem.W.kitOne K (.ref (He.ga K "TooLarge")) (.ref (He.ga K "PlotError")) = some true
  vk_TooLarge : PySem.W.kitOne K (.ref (He.ga K "TooLarge")) (.type "ValueError") = some true
  x_PlotError : PySem.W.excIn K (He.ga K "PlotError") He.veBase "ValueError.__new__" = true ∧ PySem.W.keepIn K (.ref (He.ga K "PlotError")) = true ∧ PySem.W.subIn K (.ref (He.ga K "PlotError")) (.type "BaseException") = some true ∧ PySem.W.typeIn K (.ref (He.ga K "PlotError")) = some (.type "type")
  e_PlotError : ExcC K (He.ga K "PlotError")
  qm_PlotError : PySem.W.kitAny K (.ref (He.ga K "PlotError")) ((["InvalidText", "HasPen"] : List Str).map fun x => .ref (He.ga K x)) = some false
  kp_NoneType : PySem.W.kitOne K (.type "NoneType") (.ref (He.ga K "Program")) = some false
  kp_int : PySem.W.kitOne K (.type "int") (.ref (He.ga K "Program")) = some false
  kp_bool : PySem.W.kitOne K (.type "bool") (.ref (He.ga K "Program")) = some false
  kp_str : PySem.W.kitOne K (.type "str") (.ref (He.ga K "Program")) = some false
  kp_list : PySem.W.kitOne K (.type "list") (.ref (He.ga K "Program")) = some false
  kp_tuple : PySem.W.kitOne K (.type "tuple") (.ref (He.ga K "Program")) = some false
  kp_dict : PySem.W.kitOne K (.type "dict") (.ref (He.ga K "Program")) = some false
  q_Program_int : PySem.W.kitOne K (.ref (He.ga K "Program")) (.type "int") = some false
  q_Program_bool : PySem.W.kitOne K (.ref (He.ga K "Program")) (.type "bool") = some false
  q_Program_str : PySem.W.kitOne K (.ref (He.ga K "Program")) (.type "str") = some false
  g_UNDONE : mg "UNDONE" = some (.ref (He.ga K "UNDONE"))
  has_UNDONE_f : ∃ u, PySem.W.nsIn K (He.ga K "UNDONE") "f" = some (some u) ∧ RelV (.str "b") u
  has_UNDONE_b : ∃ u, PySem.W.nsIn K (He.ga K "UNDONE") "b" = some (some u) ∧ RelV (.str "f") u
  has_UNDONE_l : ∃ u, PySem.W.nsIn K (He.ga K "UNDONE") "l" = some (some u) ∧ RelV (.str "r") u
  has_UNDONE_r : ∃ u, PySem.W.nsIn K (He.ga K "UNDONE") "r" = some (some u) ∧ RelV (.str "l") u
  mis_UNDONE_u : PySem.W.nsIn K (He.ga K "UNDONE") "u" = some none
  mis_UNDONE_d : PySem.W.nsIn K (He.ga K "UNDONE") "d" = some none
  f_Program : PySem.W.selfFirst K (He.ga K "Program") = true
  r_Add_NoneType : RT.RightT K (He.ga K "Program") .Add "NoneType"
  r_Add_int : RT.RightT K (He.ga K "Program") .Add "int"
  r_Add_bool : RT.RightT K (He.ga K "Program") .Add "bool"
  r_Add_str : RT.RightT K (He.ga K "Program") .Add "str"
  r_Add_list : RT.RightT K (He.ga K "Program") .Add "list"
  r_Add_tuple : RT.RightT K (He.ga K "Program") .Add "tuple"
  r_Add_dict : RT.RightT K (He.ga K "Program") .Add "dict"
  r_Mult_NoneType : RT.RightT K (He.ga K "Program") .Mult "NoneType"
  r_Mult_int : RT.RightT K (He.ga K "Program") .Mult "int"
  r_Mult_bool : RT.RightT K (He.ga K "Program") .Mult "bool"
  r_Mult_str : RT.RightT K (He.ga K "Program") .Mult "str"
  r_Mult_list : RT.RightT K (He.ga K "Program") .Mult "list"
  r_Mult_tuple : RT.RightT K (He.ga K "Program") .Mult "tuple"
  r_Mult_dict : RT.RightT K (He.ga K "Program") .Mult "dict"
structure Ds (K : PySem.W.Frag) where
  fd_InvalidText_init : FuncData
  F_InvalidText_init : FunD K "__init__" "InvalidText.__init__" (defArgs sInvalidText_init) (defBody sInvalidText_init) (defScope sInvalidText_init) [] [] (dInvalidText_init.adr K) fd_InvalidText_init
  fd_InvalidSource_init : FuncData
  F_InvalidSource_init : FunD K "__init__" "InvalidSource.__init__" (defArgs sInvalidSource_init) (defBody sInvalidSource_init) (defScope sInvalidSource_init) [] [] (dInvalidSource_init.adr K) fd_InvalidSource_init
  fd_TooDeep_init : FuncData
  F_TooDeep_init : FunD K "__init__" "TooDeep.__init__" (defArgs sTooDeep_init) (defBody sTooDeep_init) (defScope sTooDeep_init) [] [] (dTooDeep_init.adr K) fd_TooDeep_init
  fd_TooLarge_init : FuncData
  F_TooLarge_init : FunD K "__init__" "TooLarge.__init__" (defArgs sTooLarge_init) (defBody sTooLarge_init) (defScope sTooLarge_init) [] [] (dTooLarge_init.adr K) fd_TooLarge_init
  fd_is_integer : FuncData
  F_is_integer : FunD K "is_integer" "is_integer" (defArgs sis_integer) (defBody sis_integer) (defScope sis_integer) [] [] (dis_integer.adr K) fd_is_integer
  fd_is_integer_within : FuncData
  F_is_integer_within : FunD K "is_integer_within" "is_integer_within" (defArgs sis_integer_within) (defBody sis_integer_within) (defScope sis_integer_within) [] [] (dis_integer_within.adr K) fd_is_integer_within
  fd_is_decimal : FuncData
  F_is_decimal : FunD K "is_decimal" "is_decimal" (defArgs sis_decimal) (defBody sis_decimal) (defScope sis_decimal) [] [] (dis_decimal.adr K) fd_is_decimal
  fd_check_times : FuncData
  F_check_times : FunD K "check_times" "check_times" (defArgs scheck_times) (defBody scheck_times) (defScope scheck_times) [] [] (dcheck_times.adr K) fd_check_times
  fd_words_of : FuncData
  F_words_of : FunD K "words_of" "words_of" (defArgs swords_of) (defBody swords_of) (defScope swords_of) [] [] (dwords_of.adr K) fd_words_of
  fd_is_letter : FuncData
  F_is_letter : FunD K "is_letter" "is_letter" (defArgs sis_letter) (defBody sis_letter) (defScope sis_letter) [] [] (dis_letter.adr K) fd_is_letter
  fd_number_of : FuncData
  F_number_of : FunD K "number_of" "number_of" (defArgs snumber_of) (defBody snumber_of) (defScope snumber_of) [] [] (dnumber_of.adr K) fd_number_of
  fd_wrong_word : FuncData
  F_wrong_word : FunD K "wrong_word" "wrong_word" (defArgs swrong_word) (defBody swrong_word) (defScope swrong_word) [] [] (dwrong_word.adr K) fd_wrong_word
  fd_mirrored : FuncData
  F_mirrored : FunD K "mirrored" "mirrored" (defArgs smirrored) (defBody smirrored) (defScope smirrored) [] [] (dmirrored.adr K) fd_mirrored
  fd_backward : FuncData
  F_backward : FunD K "backward" "backward" (defArgs sbackward) (defBody sbackward) (defScope sbackward) [] [] (dbackward.adr K) fd_backward
  fd__is_counted : FuncData
  F__is_counted : FunD K "_is_counted" "_is_counted" (defArgs s_is_counted) (defBody s_is_counted) (defScope s_is_counted) [] [] (d_is_counted.adr K) fd__is_counted
  fd__is_number : FuncData
  F__is_number : FunD K "_is_number" "_is_number" (defArgs s_is_number) (defBody s_is_number) (defScope s_is_number) [] [] (d_is_number.adr K) fd__is_number
  fd_Part_init : FuncData
  F_Part_init : FunD K "__init__" "Part.__init__" (defArgs sPart_init) (defBody sPart_init) (defScope sPart_init) [] [] (dPart_init.adr K) fd_Part_init
  fd_size_of : FuncData
  F_size_of : FunD K "size_of" "size_of" (defArgs ssize_of) (defBody ssize_of) (defScope ssize_of) [] [] (dsize_of.adr K) fd_size_of
  fd_levels_of : FuncData
  F_levels_of : FunD K "levels_of" "levels_of" (defArgs slevels_of) (defBody slevels_of) (defScope slevels_of) [] [] (dlevels_of.adr K) fd_levels_of
  fd_parts_of_words : FuncData
  F_parts_of_words : FunD K "parts_of_words" "parts_of_words" (defArgs sparts_of_words) (defBody sparts_of_words) (defScope sparts_of_words) [] [] (dparts_of_words.adr K) fd_parts_of_words
  fd__parts_from : FuncData
  F__parts_from : FunD K "_parts_from" "_parts_from" (defArgs s_parts_from) (defBody s_parts_from) (defScope s_parts_from) [] [] (d_parts_from.adr K) fd__parts_from
  fd_count_in : FuncData
  F_count_in : FunD K "count_in" "count_in" (defArgs scount_in) (defBody scount_in) (defScope scount_in) [] [] (dcount_in.adr K) fd_count_in
  fd_Program_init : FuncData
  F_Program_init : FunD K "__init__" "Program.__init__" (defArgs sProgram_init) (defBody sProgram_init) (defScope sProgram_init) [] [] (dProgram_init.adr K) fd_Program_init
  fd_Program_text : FuncData
  F_Program_text : FunD K "text" "Program.text" (defArgs sProgram_text) (defBody sProgram_text) (defScope sProgram_text) [] [] (dProgram_text.adr K) fd_Program_text
  fd_Program_length : FuncData
  F_Program_length : FunD K "length" "Program.length" (defArgs sProgram_length) (defBody sProgram_length) (defScope sProgram_length) [] [] (dProgram_length.adr K) fd_Program_length
  fd_Program_depth : FuncData
  F_Program_depth : FunD K "depth" "Program.depth" (defArgs sProgram_depth) (defBody sProgram_depth) (defScope sProgram_depth) [] [] (dProgram_depth.adr K) fd_Program_depth
  fd_Program_len : FuncData
  F_Program_len : FunD K "__len__" "Program.__len__" (defArgs sProgram_len) (defBody sProgram_len) (defScope sProgram_len) [] [] (dProgram_len.adr K) fd_Program_len
  fd_Program_eq : FuncData
  F_Program_eq : FunD K "__eq__" "Program.__eq__" (defArgs sProgram_eq) (defBody sProgram_eq) (defScope sProgram_eq) [] [] (dProgram_eq.adr K) fd_Program_eq
  fd_Program_contains : FuncData
  F_Program_contains : FunD K "__contains__" "Program.__contains__" (defArgs sProgram_contains) (defBody sProgram_contains) (defScope sProgram_contains) [] [] (dProgram_contains.adr K) fd_Program_contains
  fd_Program_add : FuncData
  F_Program_add : FunD K "__add__" "Program.__add__" (defArgs sProgram_add) (defBody sProgram_add) (defScope sProgram_add) [] [] (dProgram_add.adr K) fd_Program_add
  fd_Program_mul : FuncData
  F_Program_mul : FunD K "__mul__" "Program.__mul__" (defArgs sProgram_mul) (defBody sProgram_mul) (defScope sProgram_mul) [] [] (dProgram_mul.adr K) fd_Program_mul
  fd_Program_neg : FuncData
  F_Program_neg : FunD K "__neg__" "Program.__neg__" (defArgs sProgram_neg) (defBody sProgram_neg) (defScope sProgram_neg) [] [] (dProgram_neg.adr K) fd_Program_neg
  fd_Program_invert : FuncData
  F_Program_invert : FunD K "__invert__" "Program.__invert__" (defArgs sProgram_invert) (defBody sProgram_invert) (defScope sProgram_invert) [] [] (dProgram_invert.adr K) fd_Program_invert
  fd_check_text : FuncData
  F_check_text : FunD K "check_text" "check_text" (defArgs scheck_text) (defBody scheck_text) (defScope scheck_text) [] [] (dcheck_text.adr K) fd_check_text
  fd_check_program : FuncData
  F_check_program : FunD K "check_program" "check_program" (defArgs scheck_program) (defBody scheck_program) (defScope scheck_program) [] [] (dcheck_program.adr K) fd_check_program
  fd__law_bag : FuncData
  F__law_bag : FunD K "_law_bag" "_law_bag" (defArgs s_law_bag) (defBody s_law_bag) (defScope s_law_bag) [] [] (d_law_bag.adr K) fd__law_bag
  fd__law_pick : FuncData
  F__law_pick : FunD K "_law_pick" "_law_pick" (defArgs s_law_pick) (defBody s_law_pick) (defScope s_law_pick) [] [] (d_law_pick.adr K) fd__law_pick
  fd__law_number : FuncData
  F__law_number : FunD K "_law_number" "_law_number" (defArgs s_law_number) (defBody s_law_number) (defScope s_law_number) [] [] (d_law_number.adr K) fd__law_number
  fd__law_words : FuncData
  F__law_words : FunD K "_law_words" "_law_words" (defArgs s_law_words) (defBody s_law_words) (defScope s_law_words) [] [] (d_law_words.adr K) fd__law_words
  fd__law_length : FuncData
  F__law_length : FunD K "_law_length" "_law_length" (defArgs s_law_length) (defBody s_law_length) (defScope s_law_length) [] [] (d_law_length.adr K) fd__law_length
  fd__law_steps : FuncData
  F__law_steps : FunD K "_law_steps" "_law_steps" (defArgs s_law_steps) (defBody s_law_steps) (defScope s_law_steps) [] [] (d_law_steps.adr K) fd__law_steps
  fd__law_short : FuncData
  F__law_short : FunD K "_law_short" "_law_short" (defArgs s_law_short) (defBody s_law_short) (defScope s_law_short) [] [] (d_law_short.adr K) fd__law_short
  fd__law_class : FuncData
  F__law_class : FunD K "_law_class" "_law_class" (defArgs s_law_class) (defBody s_law_class) (defScope s_law_class) [] [] (d_law_class.adr K) fd__law_class
  fd__law_told : FuncData
  F__law_told : FunD K "_law_told" "_law_told" (defArgs s_law_told) (defBody s_law_told) (defScope s_law_told) [] [] (d_law_told.adr K) fd__law_told
  fd__law_made_right : FuncData
  F__law_made_right : FunD K "_law_made_right" "_law_made_right" (defArgs s_law_made_right) (defBody s_law_made_right) (defScope s_law_made_right) [] [] (d_law_made_right.adr K) fd__law_made_right
  fd__law_sizes_right : FuncData
  F__law_sizes_right : FunD K "_law_sizes_right" "_law_sizes_right" (defArgs s_law_sizes_right) (defBody s_law_sizes_right) (defScope s_law_sizes_right) [] [] (d_law_sizes_right.adr K) fd__law_sizes_right
  fd_law : FuncData
  F_law : FunD K "law" "law" (defArgs slaw) (defBody slaw) (defScope slaw) [] [] (dlaw.adr K) fd_law
theorem tx_of {K : PySem.W.Frag} {h : Heap} {mg : Str → Option Value} (X : K.In h) (G : h.Ns mainGlobals mg) (c : HP.SaysA facts fns K) : Tx K mg where
  g_is_integer := He.glo_ok X G (c.fact 0 rfl)
  g_is_integer_within := He.glo_ok X G (c.fact 1 rfl)
  g_is_decimal := He.glo_ok X G (c.fact 2 rfl)
  g_check_times := He.glo_ok X G (c.fact 3 rfl)
  g_words_of := He.glo_ok X G (c.fact 4 rfl)
  g_is_letter := He.glo_ok X G (c.fact 5 rfl)
  g_number_of := He.glo_ok X G (c.fact 6 rfl)
  g_wrong_word := He.glo_ok X G (c.fact 7 rfl)
  g_mirrored := He.glo_ok X G (c.fact 8 rfl)
  g_backward := He.glo_ok X G (c.fact 9 rfl)
  g__is_counted := He.glo_ok X G (c.fact 10 rfl)
  g__is_number := He.glo_ok X G (c.fact 11 rfl)
  g_size_of := He.glo_ok X G (c.fact 12 rfl)
  g_levels_of := He.glo_ok X G (c.fact 13 rfl)
  g_parts_of_words := He.glo_ok X G (c.fact 14 rfl)
  g__parts_from := He.glo_ok X G (c.fact 15 rfl)
  g_count_in := He.glo_ok X G (c.fact 16 rfl)
  p_Program_text := HP.propB_ok (c.fact 17 rfl)
  p_Program_length := HP.propB_ok (c.fact 18 rfl)
  p_Program_depth := HP.propB_ok (c.fact 19 rfl)
  m_Program_len := He.meth_ok (c.fact 20 rfl)
  m_Program_eq := He.meth_ok (c.fact 21 rfl)
  m_Program_contains := He.meth_ok (c.fact 22 rfl)
  m_Program_add := He.meth_ok (c.fact 23 rfl)
  m_Program_mul := He.meth_ok (c.fact 24 rfl)
  m_Program_neg := He.meth_ok (c.fact 25 rfl)
  m_Program_invert := He.meth_ok (c.fact 26 rfl)
  g_check_text := He.glo_ok X G (c.fact 27 rfl)
  g_check_program := He.glo_ok X G (c.fact 28 rfl)
  g__law_bag := He.glo_ok X G (c.fact 29 rfl)
  g__law_pick := He.glo_ok X G (c.fact 30 rfl)
  g__law_number := He.glo_ok X G (c.fact 31 rfl)
  g__law_words := He.glo_ok X G (c.fact 32 rfl)
  g__law_length := He.glo_ok X G (c.fact 33 rfl)
  g__law_steps := He.glo_ok X G (c.fact 34 rfl)
  g__law_short := He.glo_ok X G (c.fact 35 rfl)
  g__law_class := He.glo_ok X G (c.fact 36 rfl)
  g__law_told := He.glo_ok X G (c.fact 37 rfl)
  g__law_made_right := He.glo_ok X G (c.fact 38 rfl)
  g__law_sizes_right := He.glo_ok X G (c.fact 39 rfl)
  g_law := He.glo_ok X G (c.fact 40 rfl)
  g_PlotError := He.glo_ok X G (c.fact 41 rfl)
  g_InvalidText := He.glo_ok X G (c.fact 42 rfl)
  g_InvalidSource := He.glo_ok X G (c.fact 43 rfl)
  g_TooDeep := He.glo_ok X G (c.fact 44 rfl)
  g_TooLarge := He.glo_ok X G (c.fact 45 rfl)
  g_InvalidProgram := He.glo_ok X G (c.fact 46 rfl)
  g_InvalidTimes := He.glo_ok X G (c.fact 47 rfl)
  g_InvalidIndex := He.glo_ok X G (c.fact 48 rfl)
  g_InvalidLetter := He.glo_ok X G (c.fact 49 rfl)
  g_InvalidName := He.glo_ok X G (c.fact 50 rfl)
  g_HasPen := He.glo_ok X G (c.fact 51 rfl)
  g_InvalidMotion := He.glo_ok X G (c.fact 52 rfl)
  g_InvalidPose := He.glo_ok X G (c.fact 53 rfl)
  g_InvalidPoint := He.glo_ok X G (c.fact 54 rfl)
  g_InvalidEdge := He.glo_ok X G (c.fact 55 rfl)
  g_InvalidPicture := He.glo_ok X G (c.fact 56 rfl)
  g_InvalidTurn := He.glo_ok X G (c.fact 57 rfl)
  g_InvalidFace := He.glo_ok X G (c.fact 58 rfl)
  g_InvalidFaces := He.glo_ok X G (c.fact 59 rfl)
  g_NotEven := He.glo_ok X G (c.fact 60 rfl)
  g_NotClosed := He.glo_ok X G (c.fact 61 rfl)
  g_InvalidIntervals := He.glo_ok X G (c.fact 62 rfl)
  g_InvalidPlace := He.glo_ok X G (c.fact 63 rfl)
  g_NotDrifting := He.glo_ok X G (c.fact 64 rfl)
  g_InvalidCount := He.glo_ok X G (c.fact 65 rfl)
  g_NoSteps := He.glo_ok X G (c.fact 66 rfl)
  g_InvalidOperation := He.glo_ok X G (c.fact 67 rfl)
  g_Nothing := He.glo_ok X G (c.fact 68 rfl)
  g_InvalidArt := He.glo_ok X G (c.fact 69 rfl)
  g_InvalidCommand := He.glo_ok X G (c.fact 70 rfl)
  g_Part := He.glo_ok X G (c.fact 71 rfl)
  c_Part := He.cls_ok (c.fact 72 rfl)
  k_Part := He.mkr_ok (c.fact 73 rfl)
  i_Part := HP.isiB_ok (c.fact 74 rfl)
  t_Part := of_decide_eq_true (c.fact 75 rfl)
  n_Part_letter := He.noat_ok (c.fact 76 rfl)
  n_Part_times := He.noat_ok (c.fact 77 rfl)
  n_Part_inner := He.noat_ok (c.fact 78 rfl)
  n_Part_unit := He.noat_ok (c.fact 79 rfl)
  n_Part_size := He.noat_ok (c.fact 80 rfl)
  n_Part_levels := He.noat_ok (c.fact 81 rfl)
  g_Program := He.glo_ok X G (c.fact 82 rfl)
  c_Program := He.cls_ok (c.fact 83 rfl)
  k_Program := He.mkr_ok (c.fact 84 rfl)
  i_Program := HP.isiB_ok (c.fact 85 rfl)
  t_Program := of_decide_eq_true (c.fact 86 rfl)
  n_Program__text := He.noat_ok (c.fact 87 rfl)
  n_Program__words := He.noat_ok (c.fact 88 rfl)
  n_Program__parts := He.noat_ok (c.fact 89 rfl)
  n_Program__length := He.noat_ok (c.fact 90 rfl)
  n_Program__depth := He.noat_ok (c.fact 91 rfl)
  z_ValueError := He.free_ok X G (c.fact 92 rfl)
  z_bool := He.free_ok X G (c.fact 93 rfl)
  z_enumerate := He.free_ok X G (c.fact 94 rfl)
  z_int := He.free_ok X G (c.fact 95 rfl)
  z_isinstance := He.free_ok X G (c.fact 96 rfl)
  z_len := He.free_ok X G (c.fact 97 rfl)
  z_max := He.free_ok X G (c.fact 98 rfl)
  z_property := He.free_ok X G (c.fact 99 rfl)
  z_repr := He.free_ok X G (c.fact 100 rfl)
  z_reversed := He.free_ok X G (c.fact 101 rfl)
  z_str := He.free_ok X G (c.fact 102 rfl)
  z_sum := He.free_ok X G (c.fact 103 rfl)
  z_tuple := He.free_ok X G (c.fact 104 rfl)
  v_MOST_TIMES := He.int_ok X G (c.fact 105 rfl)
  v_MOST_DIGITS := He.int_ok X G (c.fact 106 rfl)
  v_MOST_WORDS := He.int_ok X G (c.fact 107 rfl)
  v_MOST_DEPTH := He.int_ok X G (c.fact 108 rfl)
  g_LETTERS := He.glo_ok X G (c.fact 109 rfl)
  l_LETTERS := HP.tupB_ok (c.fact 110 rfl)
  x_InvalidProgram := He.exc_ok (c.fact 111 rfl)
  e_InvalidProgram := HP.excCB_ok (c.fact 112 rfl)
  pe_InvalidProgram := He.exm_ok (c.fact 113 rfl)
  q_InvalidProgram_InvalidText := of_decide_eq_true (c.fact 114 rfl)
  q_InvalidProgram_InvalidSource := of_decide_eq_true (c.fact 115 rfl)
  q_InvalidProgram_InvalidProgram := of_decide_eq_true (c.fact 116 rfl)
  q_InvalidProgram_InvalidTimes := of_decide_eq_true (c.fact 117 rfl)
  q_InvalidProgram_InvalidIndex := of_decide_eq_true (c.fact 118 rfl)
  q_InvalidProgram_InvalidLetter := of_decide_eq_true (c.fact 119 rfl)
  q_InvalidProgram_InvalidName := of_decide_eq_true (c.fact 120 rfl)
  q_InvalidProgram_HasPen := of_decide_eq_true (c.fact 121 rfl)
  q_InvalidProgram_TooDeep := of_decide_eq_true (c.fact 122 rfl)
  q_InvalidProgram_TooLarge := of_decide_eq_true (c.fact 123 rfl)
  q_InvalidProgram_VE := of_decide_eq_true (c.fact 124 rfl)
  qa0_InvalidProgram := of_decide_eq_true (c.fact 125 rfl)
  qa1_InvalidProgram := of_decide_eq_true (c.fact 126 rfl)
  qa2_InvalidProgram := of_decide_eq_true (c.fact 127 rfl)
  x_InvalidTimes := He.exc_ok (c.fact 128 rfl)
  e_InvalidTimes := HP.excCB_ok (c.fact 129 rfl)
  pe_InvalidTimes := He.exm_ok (c.fact 130 rfl)
  q_InvalidTimes_InvalidText := of_decide_eq_true (c.fact 131 rfl)
  q_InvalidTimes_InvalidSource := of_decide_eq_true (c.fact 132 rfl)
  q_InvalidTimes_InvalidProgram := of_decide_eq_true (c.fact 133 rfl)
  q_InvalidTimes_InvalidTimes := of_decide_eq_true (c.fact 134 rfl)
  q_InvalidTimes_InvalidIndex := of_decide_eq_true (c.fact 135 rfl)
  q_InvalidTimes_InvalidLetter := of_decide_eq_true (c.fact 136 rfl)
  q_InvalidTimes_InvalidName := of_decide_eq_true (c.fact 137 rfl)
  q_InvalidTimes_HasPen := of_decide_eq_true (c.fact 138 rfl)
  q_InvalidTimes_TooDeep := of_decide_eq_true (c.fact 139 rfl)
  q_InvalidTimes_TooLarge := of_decide_eq_true (c.fact 140 rfl)
  q_InvalidTimes_VE := of_decide_eq_true (c.fact 141 rfl)
  qa0_InvalidTimes := of_decide_eq_true (c.fact 142 rfl)
  qa1_InvalidTimes := of_decide_eq_true (c.fact 143 rfl)
  qa2_InvalidTimes := of_decide_eq_true (c.fact 144 rfl)
  x_HasPen := He.exc_ok (c.fact 145 rfl)
  e_HasPen := HP.excCB_ok (c.fact 146 rfl)
  pe_HasPen := He.exm_ok (c.fact 147 rfl)
  q_HasPen_InvalidText := of_decide_eq_true (c.fact 148 rfl)
  q_HasPen_InvalidSource := of_decide_eq_true (c.fact 149 rfl)
  q_HasPen_InvalidProgram := of_decide_eq_true (c.fact 150 rfl)
  q_HasPen_InvalidTimes := of_decide_eq_true (c.fact 151 rfl)
  q_HasPen_InvalidIndex := of_decide_eq_true (c.fact 152 rfl)
  q_HasPen_InvalidLetter := of_decide_eq_true (c.fact 153 rfl)
  q_HasPen_InvalidName := of_decide_eq_true (c.fact 154 rfl)
  q_HasPen_HasPen := of_decide_eq_true (c.fact 155 rfl)
  q_HasPen_TooDeep := of_decide_eq_true (c.fact 156 rfl)
  q_HasPen_TooLarge := of_decide_eq_true (c.fact 157 rfl)
  q_HasPen_VE := of_decide_eq_true (c.fact 158 rfl)
  qa0_HasPen := of_decide_eq_true (c.fact 159 rfl)
  qa1_HasPen := of_decide_eq_true (c.fact 160 rfl)
  qa2_HasPen := of_decide_eq_true (c.fact 161 rfl)
  ox_TooDeep := HX.oexB_ok (c.fact 162 rfl)
  oi_TooDeep := HX.oinB_ok (c.fact 163 rfl)
  no_TooDeep_limit := HX.noB_ok (c.fact 164 rfl)
  e_TooDeep := HP.excCB_ok (c.fact 165 rfl)
  pe_TooDeep := He.exm_ok (c.fact 166 rfl)
  q_TooDeep_InvalidText := of_decide_eq_true (c.fact 167 rfl)
  q_TooDeep_InvalidSource := of_decide_eq_true (c.fact 168 rfl)
  q_TooDeep_InvalidProgram := of_decide_eq_true (c.fact 169 rfl)
  q_TooDeep_InvalidTimes := of_decide_eq_true (c.fact 170 rfl)
  q_TooDeep_InvalidIndex := of_decide_eq_true (c.fact 171 rfl)
  q_TooDeep_InvalidLetter := of_decide_eq_true (c.fact 172 rfl)
  q_TooDeep_InvalidName := of_decide_eq_true (c.fact 173 rfl)
  q_TooDeep_HasPen := of_decide_eq_true (c.fact 174 rfl)
  q_TooDeep_TooDeep := of_decide_eq_true (c.fact 175 rfl)
  q_TooDeep_TooLarge := of_decide_eq_true (c.fact 176 rfl)
  q_TooDeep_VE := of_decide_eq_true (c.fact 177 rfl)
  qa0_TooDeep := of_decide_eq_true (c.fact 178 rfl)
  qa1_TooDeep := of_decide_eq_true (c.fact 179 rfl)
  qa2_TooDeep := of_decide_eq_true (c.fact 180 rfl)
  ox_TooLarge := HX.oexB_ok (c.fact 181 rfl)
  oi_TooLarge := HX.oinB_ok (c.fact 182 rfl)
  no_TooLarge_limit := HX.noB_ok (c.fact 183 rfl)
  e_TooLarge := HP.excCB_ok (c.fact 184 rfl)
  pe_TooLarge := He.exm_ok (c.fact 185 rfl)
  q_TooLarge_InvalidText := of_decide_eq_true (c.fact 186 rfl)
  q_TooLarge_InvalidSource := of_decide_eq_true (c.fact 187 rfl)
  q_TooLarge_InvalidProgram := of_decide_eq_true (c.fact 188 rfl)
  q_TooLarge_InvalidTimes := of_decide_eq_true (c.fact 189 rfl)
  q_TooLarge_InvalidIndex := of_decide_eq_true (c.fact 190 rfl)
  q_TooLarge_InvalidLetter := of_decide_eq_true (c.fact 191 rfl)
  q_TooLarge_InvalidName := of_decide_eq_true (c.fact 192 rfl)
  q_TooLarge_HasPen := of_decide_eq_true (c.fact 193 rfl)
  q_TooLarge_TooDeep := of_decide_eq_true (c.fact 194 rfl)
  q_TooLarge_TooLarge := of_decide_eq_true (c.fact 195 rfl)
  q_TooLarge_VE := of_decide_eq_true (c.fact 196 rfl)
  qa0_TooLarge := of_decide_eq_true (c.fact 197 rfl)
  qa1_TooLarge := of_decide_eq_true (c.fact 198 rfl)
  qa2_TooLarge := of_decide_eq_true (c.fact 199 rfl)
  ce_PlotError := HX.ceB_ok (c.fact 200 rfl)
  sm := DQ.sysB_ok (c.fact 201 rfl)
  pk_InvalidProgram := of_decide_eq_true (c.fact 202 rfl)
  vk_InvalidProgram := of_decide_eq_true (c.fact 203 rfl)
  pk_InvalidTimes := of_decide_eq_true (c.fact 204 rfl)
  vk_InvalidTimes := of_decide_eq_true (c.fact 205 rfl)
  x_InvalidIndex := He.exc_ok (c.fact 206 rfl)
  e_InvalidIndex := HP.excCB_ok (c.fact 207 rfl)
  pk_InvalidIndex := of_decide_eq_true (c.fact 208 rfl)
  vk_InvalidIndex := of_decide_eq_true (c.fact 209 rfl)
  x_InvalidLetter := He.exc_ok (c.fact 210 rfl)
  e_InvalidLetter := HP.excCB_ok (c.fact 211 rfl)
  pk_InvalidLetter := of_decide_eq_true (c.fact 212 rfl)
  vk_InvalidLetter := of_decide_eq_true (c.fact 213 rfl)
  x_InvalidName := He.exc_ok (c.fact 214 rfl)
  e_InvalidName := HP.excCB_ok (c.fact 215 rfl)
  pk_InvalidName := of_decide_eq_true (c.fact 216 rfl)
  vk_InvalidName := of_decide_eq_true (c.fact 217 rfl)
  pk_HasPen := of_decide_eq_true (c.fact 218 rfl)
  vk_HasPen := of_decide_eq_true (c.fact 219 rfl)
  x_InvalidMotion := He.exc_ok (c.fact 220 rfl)
  e_InvalidMotion := HP.excCB_ok (c.fact 221 rfl)
  pk_InvalidMotion := of_decide_eq_true (c.fact 222 rfl)
  vk_InvalidMotion := of_decide_eq_true (c.fact 223 rfl)
  x_InvalidPose := He.exc_ok (c.fact 224 rfl)
  e_InvalidPose := HP.excCB_ok (c.fact 225 rfl)
  pk_InvalidPose := of_decide_eq_true (c.fact 226 rfl)
  vk_InvalidPose := of_decide_eq_true (c.fact 227 rfl)
  x_InvalidPoint := He.exc_ok (c.fact 228 rfl)
  e_InvalidPoint := HP.excCB_ok (c.fact 229 rfl)
  pk_InvalidPoint := of_decide_eq_true (c.fact 230 rfl)
  vk_InvalidPoint := of_decide_eq_true (c.fact 231 rfl)
  x_InvalidEdge := He.exc_ok (c.fact 232 rfl)
  e_InvalidEdge := HP.excCB_ok (c.fact 233 rfl)
  pk_InvalidEdge := of_decide_eq_true (c.fact 234 rfl)
  vk_InvalidEdge := of_decide_eq_true (c.fact 235 rfl)
  x_InvalidPicture := He.exc_ok (c.fact 236 rfl)
  e_InvalidPicture := HP.excCB_ok (c.fact 237 rfl)
  pk_InvalidPicture := of_decide_eq_true (c.fact 238 rfl)
  vk_InvalidPicture := of_decide_eq_true (c.fact 239 rfl)
  x_InvalidTurn := He.exc_ok (c.fact 240 rfl)
  e_InvalidTurn := HP.excCB_ok (c.fact 241 rfl)
  pk_InvalidTurn := of_decide_eq_true (c.fact 242 rfl)
  vk_InvalidTurn := of_decide_eq_true (c.fact 243 rfl)
  x_InvalidFace := He.exc_ok (c.fact 244 rfl)
  e_InvalidFace := HP.excCB_ok (c.fact 245 rfl)
  pk_InvalidFace := of_decide_eq_true (c.fact 246 rfl)
  vk_InvalidFace := of_decide_eq_true (c.fact 247 rfl)
  x_InvalidFaces := He.exc_ok (c.fact 248 rfl)
  e_InvalidFaces := HP.excCB_ok (c.fact 249 rfl)
  pk_InvalidFaces := of_decide_eq_true (c.fact 250 rfl)
  vk_InvalidFaces := of_decide_eq_true (c.fact 251 rfl)
  x_NotEven := He.exc_ok (c.fact 252 rfl)
  e_NotEven := HP.excCB_ok (c.fact 253 rfl)
  pk_NotEven := of_decide_eq_true (c.fact 254 rfl)
  vk_NotEven := of_decide_eq_true (c.fact 255 rfl)
  x_NotClosed := He.exc_ok (c.fact 256 rfl)
  e_NotClosed := HP.excCB_ok (c.fact 257 rfl)
  pk_NotClosed := of_decide_eq_true (c.fact 258 rfl)
  vk_NotClosed := of_decide_eq_true (c.fact 259 rfl)
  x_Nothing := He.exc_ok (c.fact 260 rfl)
  e_Nothing := HP.excCB_ok (c.fact 261 rfl)
  pk_Nothing := of_decide_eq_true (c.fact 262 rfl)
  vk_Nothing := of_decide_eq_true (c.fact 263 rfl)
  x_InvalidIntervals := He.exc_ok (c.fact 264 rfl)
  e_InvalidIntervals := HP.excCB_ok (c.fact 265 rfl)
  pk_InvalidIntervals := of_decide_eq_true (c.fact 266 rfl)
  vk_InvalidIntervals := of_decide_eq_true (c.fact 267 rfl)
  x_InvalidPlace := He.exc_ok (c.fact 268 rfl)
  e_InvalidPlace := HP.excCB_ok (c.fact 269 rfl)
  pk_InvalidPlace := of_decide_eq_true (c.fact 270 rfl)
  vk_InvalidPlace := of_decide_eq_true (c.fact 271 rfl)
  x_NotDrifting := He.exc_ok (c.fact 272 rfl)
  e_NotDrifting := HP.excCB_ok (c.fact 273 rfl)
  pk_NotDrifting := of_decide_eq_true (c.fact 274 rfl)
  vk_NotDrifting := of_decide_eq_true (c.fact 275 rfl)
  x_InvalidCount := He.exc_ok (c.fact 276 rfl)
  e_InvalidCount := HP.excCB_ok (c.fact 277 rfl)
  pk_InvalidCount := of_decide_eq_true (c.fact 278 rfl)
  vk_InvalidCount := of_decide_eq_true (c.fact 279 rfl)
  x_NoSteps := He.exc_ok (c.fact 280 rfl)
  e_NoSteps := HP.excCB_ok (c.fact 281 rfl)
  pk_NoSteps := of_decide_eq_true (c.fact 282 rfl)
  vk_NoSteps := of_decide_eq_true (c.fact 283 rfl)
  x_InvalidOperation := He.exc_ok (c.fact 284 rfl)
  e_InvalidOperation := HP.excCB_ok (c.fact 285 rfl)
  pk_InvalidOperation := of_decide_eq_true (c.fact 286 rfl)
  vk_InvalidOperation := of_decide_eq_true (c.fact 287 rfl)
  x_InvalidArt := He.exc_ok (c.fact 288 rfl)
  e_InvalidArt := HP.excCB_ok (c.fact 289 rfl)
  pk_InvalidArt := of_decide_eq_true (c.fact 290 rfl)
  vk_InvalidArt := of_decide_eq_true (c.fact 291 rfl)
  x_InvalidCommand := He.exc_ok (c.fact 292 rfl)
  e_InvalidCommand := HP.excCB_ok (c.fact 293 rfl)
  pk_InvalidCommand := of_decide_eq_true (c.fact 294 rfl)
  vk_InvalidCommand := of_decide_eq_true (c.fact 295 rfl)
  ox_InvalidText := HX.oexB_ok (c.fact 296 rfl)
  oi_InvalidText := HX.oinB_ok (c.fact 297 rfl)
  no_InvalidText_index := HX.noB_ok (c.fact 298 rfl)
  e_InvalidText := HP.excCB_ok (c.fact 299 rfl)
  pk_InvalidText := of_decide_eq_true (c.fact 300 rfl)
  vk_InvalidText := of_decide_eq_true (c.fact 301 rfl)
  ox_InvalidSource := HX.oexB_ok (c.fact 302 rfl)
  oi_InvalidSource := HX.oinB_ok (c.fact 303 rfl)
  no_InvalidSource_line := HX.noB_ok (c.fact 304 rfl)
  no_InvalidSource_index := HX.noB_ok (c.fact 305 rfl)
  e_InvalidSource := HP.excCB_ok (c.fact 306 rfl)
  pk_InvalidSource := of_decide_eq_true (c.fact 307 rfl)
  vk_InvalidSource := of_decide_eq_true (c.fact 308 rfl)
  pk_TooDeep := of_decide_eq_true (c.fact 309 rfl)
  vk_TooDeep := of_decide_eq_true (c.fact 310 rfl)
  pk_TooLarge := of_decide_eq_true (c.fact 311 rfl)
  vk_TooLarge := of_decide_eq_true (c.fact 312 rfl)
  x_PlotError := He.exc_ok (c.fact 313 rfl)
  e_PlotError := HP.excCB_ok (c.fact 314 rfl)
  qm_PlotError := of_decide_eq_true (c.fact 315 rfl)
  kp_NoneType := of_decide_eq_true (c.fact 316 rfl)
  kp_int := of_decide_eq_true (c.fact 317 rfl)
  kp_bool := of_decide_eq_true (c.fact 318 rfl)
  kp_str := of_decide_eq_true (c.fact 319 rfl)
  kp_list := of_decide_eq_true (c.fact 320 rfl)
  kp_tuple := of_decide_eq_true (c.fact 321 rfl)
  kp_dict := of_decide_eq_true (c.fact 322 rfl)
  q_Program_int := of_decide_eq_true (c.fact 323 rfl)
  q_Program_bool := of_decide_eq_true (c.fact 324 rfl)
  q_Program_str := of_decide_eq_true (c.fact 325 rfl)
  g_UNDONE := He.glo_ok X G (c.fact 326 rfl)
  has_UNDONE_f := HQ.hasB_ok (c.fact 327 rfl)
  has_UNDONE_b := HQ.hasB_ok (c.fact 328 rfl)
  has_UNDONE_l := HQ.hasB_ok (c.fact 329 rfl)
  has_UNDONE_r := HQ.hasB_ok (c.fact 330 rfl)
  mis_UNDONE_u := of_decide_eq_true (c.fact 331 rfl)
  mis_UNDONE_d := of_decide_eq_true (c.fact 332 rfl)
  f_Program := (c.fact 333 rfl)
  r_Add_NoneType := HP.rightB_ok (c.fact 334 rfl)
  r_Add_int := HP.rightB_ok (c.fact 335 rfl)
  r_Add_bool := HP.rightB_ok (c.fact 336 rfl)
  r_Add_str := HP.rightB_ok (c.fact 337 rfl)
  r_Add_list := HP.rightB_ok (c.fact 338 rfl)
  r_Add_tuple := HP.rightB_ok (c.fact 339 rfl)
  r_Add_dict := HP.rightB_ok (c.fact 340 rfl)
  r_Mult_NoneType := HP.rightB_ok (c.fact 341 rfl)
  r_Mult_int := HP.rightB_ok (c.fact 342 rfl)
  r_Mult_bool := HP.rightB_ok (c.fact 343 rfl)
  r_Mult_str := HP.rightB_ok (c.fact 344 rfl)
  r_Mult_list := HP.rightB_ok (c.fact 345 rfl)
  r_Mult_tuple := HP.rightB_ok (c.fact 346 rfl)
  r_Mult_dict := HP.rightB_ok (c.fact 347 rfl)
theorem ds_of {K : PySem.W.Frag} (c : HP.SaysA facts fns K) : Nonempty (Ds K) := by
  obtain ⟨f0, p0⟩ := c.def_ 0 (d := dInvalidText_init) rfl
  obtain ⟨f1, p1⟩ := c.def_ 1 (d := dInvalidSource_init) rfl
  obtain ⟨f2, p2⟩ := c.def_ 2 (d := dTooDeep_init) rfl
  obtain ⟨f3, p3⟩ := c.def_ 3 (d := dTooLarge_init) rfl
  obtain ⟨f4, p4⟩ := c.def_ 4 (d := dis_integer) rfl
  obtain ⟨f5, p5⟩ := c.def_ 5 (d := dis_integer_within) rfl
  obtain ⟨f6, p6⟩ := c.def_ 6 (d := dis_decimal) rfl
  obtain ⟨f7, p7⟩ := c.def_ 7 (d := dcheck_times) rfl
  obtain ⟨f8, p8⟩ := c.def_ 8 (d := dwords_of) rfl
  obtain ⟨f9, p9⟩ := c.def_ 9 (d := dis_letter) rfl
  obtain ⟨f10, p10⟩ := c.def_ 10 (d := dnumber_of) rfl
  obtain ⟨f11, p11⟩ := c.def_ 11 (d := dwrong_word) rfl
  obtain ⟨f12, p12⟩ := c.def_ 12 (d := dmirrored) rfl
  obtain ⟨f13, p13⟩ := c.def_ 13 (d := dbackward) rfl
  obtain ⟨f14, p14⟩ := c.def_ 14 (d := d_is_counted) rfl
  obtain ⟨f15, p15⟩ := c.def_ 15 (d := d_is_number) rfl
  obtain ⟨f16, p16⟩ := c.def_ 16 (d := dPart_init) rfl
  obtain ⟨f17, p17⟩ := c.def_ 17 (d := dsize_of) rfl
  obtain ⟨f18, p18⟩ := c.def_ 18 (d := dlevels_of) rfl
  obtain ⟨f19, p19⟩ := c.def_ 19 (d := dparts_of_words) rfl
  obtain ⟨f20, p20⟩ := c.def_ 20 (d := d_parts_from) rfl
  obtain ⟨f21, p21⟩ := c.def_ 21 (d := dcount_in) rfl
  obtain ⟨f22, p22⟩ := c.def_ 22 (d := dProgram_init) rfl
  obtain ⟨f23, p23⟩ := c.def_ 23 (d := dProgram_text) rfl
  obtain ⟨f24, p24⟩ := c.def_ 24 (d := dProgram_length) rfl
  obtain ⟨f25, p25⟩ := c.def_ 25 (d := dProgram_depth) rfl
  obtain ⟨f26, p26⟩ := c.def_ 26 (d := dProgram_len) rfl
  obtain ⟨f27, p27⟩ := c.def_ 27 (d := dProgram_eq) rfl
  obtain ⟨f28, p28⟩ := c.def_ 28 (d := dProgram_contains) rfl
  obtain ⟨f29, p29⟩ := c.def_ 29 (d := dProgram_add) rfl
  obtain ⟨f30, p30⟩ := c.def_ 30 (d := dProgram_mul) rfl
  obtain ⟨f31, p31⟩ := c.def_ 31 (d := dProgram_neg) rfl
  obtain ⟨f32, p32⟩ := c.def_ 32 (d := dProgram_invert) rfl
  obtain ⟨f33, p33⟩ := c.def_ 33 (d := dcheck_text) rfl
  obtain ⟨f34, p34⟩ := c.def_ 34 (d := dcheck_program) rfl
  obtain ⟨f35, p35⟩ := c.def_ 35 (d := d_law_bag) rfl
  obtain ⟨f36, p36⟩ := c.def_ 36 (d := d_law_pick) rfl
  obtain ⟨f37, p37⟩ := c.def_ 37 (d := d_law_number) rfl
  obtain ⟨f38, p38⟩ := c.def_ 38 (d := d_law_words) rfl
  obtain ⟨f39, p39⟩ := c.def_ 39 (d := d_law_length) rfl
  obtain ⟨f40, p40⟩ := c.def_ 40 (d := d_law_steps) rfl
  obtain ⟨f41, p41⟩ := c.def_ 41 (d := d_law_short) rfl
  obtain ⟨f42, p42⟩ := c.def_ 42 (d := d_law_class) rfl
  obtain ⟨f43, p43⟩ := c.def_ 43 (d := d_law_told) rfl
  obtain ⟨f44, p44⟩ := c.def_ 44 (d := d_law_made_right) rfl
  obtain ⟨f45, p45⟩ := c.def_ 45 (d := d_law_sizes_right) rfl
  obtain ⟨f46, p46⟩ := c.def_ 46 (d := dlaw) rfl
  exact ⟨⟨f0, p0, f1, p1, f2, p2, f3, p3, f4, p4, f5, p5, f6, p6, f7, p7, f8, p8, f9, p9, f10, p10, f11, p11, f12, p12, f13, p13, f14, p14, f15, p15, f16, p16, f17, p17, f18, p18, f19, p19, f20, p20, f21, p21, f22, p22, f23, p23, f24, p24, f25, p25, f26, p26, f27, p27, f28, p28, f29, p29, f30, p30, f31, p31, f32, p32, f33, p33, f34, p34, f35, p35, f36, p36, f37, p37, f38, p38, f39, p39, f40, p40, f41, p41, f42, p42, f43, p43, f44, p44, f45, p45, f46, p46⟩⟩
theorem b_InvalidText_init {K : PySem.W.Frag} (D : Ds K) : Binds K D.fd_InvalidText_init ["self", "index"] [] := D.F_InvalidText_init.bindsN fun _ _ _ _ _ _ us hl => match us, hl with | [_, _], _ => rfl
theorem b_InvalidSource_init {K : PySem.W.Frag} (D : Ds K) : Binds K D.fd_InvalidSource_init ["self", "line", "index"] [] := D.F_InvalidSource_init.bindsN fun _ _ _ _ _ _ us hl => match us, hl with | [_, _, _], _ => rfl
theorem b_TooDeep_init {K : PySem.W.Frag} (D : Ds K) : Binds K D.fd_TooDeep_init ["self", "limit"] [] := D.F_TooDeep_init.bindsN fun _ _ _ _ _ _ us hl => match us, hl with | [_, _], _ => rfl
theorem b_TooLarge_init {K : PySem.W.Frag} (D : Ds K) : Binds K D.fd_TooLarge_init ["self", "limit"] [] := D.F_TooLarge_init.bindsN fun _ _ _ _ _ _ us hl => match us, hl with | [_, _], _ => rfl
theorem b_is_integer {K : PySem.W.Frag} (D : Ds K) : Binds K D.fd_is_integer ["value"] [] := D.F_is_integer.bindsN fun _ _ _ _ _ _ us hl => match us, hl with | [_], _ => rfl
theorem b_is_integer_within {K : PySem.W.Frag} (D : Ds K) : Binds K D.fd_is_integer_within ["value", "least", "most"] [] := D.F_is_integer_within.bindsN fun _ _ _ _ _ _ us hl => match us, hl with | [_, _, _], _ => rfl
theorem b_is_decimal {K : PySem.W.Frag} (D : Ds K) : Binds K D.fd_is_decimal ["word"] [] := D.F_is_decimal.bindsN fun _ _ _ _ _ _ us hl => match us, hl with | [_], _ => rfl
theorem b_check_times {K : PySem.W.Frag} (D : Ds K) : Binds K D.fd_check_times ["times"] [] := D.F_check_times.bindsN fun _ _ _ _ _ _ us hl => match us, hl with | [_], _ => rfl
theorem b_words_of {K : PySem.W.Frag} (D : Ds K) : Binds K D.fd_words_of ["text"] [] := D.F_words_of.bindsN fun _ _ _ _ _ _ us hl => match us, hl with | [_], _ => rfl
theorem b_is_letter {K : PySem.W.Frag} (D : Ds K) : Binds K D.fd_is_letter ["value"] [] := D.F_is_letter.bindsN fun _ _ _ _ _ _ us hl => match us, hl with | [_], _ => rfl
theorem b_number_of {K : PySem.W.Frag} (D : Ds K) : Binds K D.fd_number_of ["word"] [] := D.F_number_of.bindsN fun _ _ _ _ _ _ us hl => match us, hl with | [_], _ => rfl
theorem b_wrong_word {K : PySem.W.Frag} (D : Ds K) : Binds K D.fd_wrong_word ["words", "names"] [] := D.F_wrong_word.bindsN fun _ _ _ _ _ _ us hl => match us, hl with | [_, _], _ => rfl
theorem b_mirrored {K : PySem.W.Frag} (D : Ds K) : Binds K D.fd_mirrored ["words"] [] := D.F_mirrored.bindsN fun _ _ _ _ _ _ us hl => match us, hl with | [_], _ => rfl
theorem b_backward {K : PySem.W.Frag} (D : Ds K) : Binds K D.fd_backward ["words"] [] := D.F_backward.bindsN fun _ _ _ _ _ _ us hl => match us, hl with | [_], _ => rfl
theorem b__is_counted {K : PySem.W.Frag} (D : Ds K) : Binds K D.fd__is_counted ["word"] [] := D.F__is_counted.bindsN fun _ _ _ _ _ _ us hl => match us, hl with | [_], _ => rfl
theorem b__is_number {K : PySem.W.Frag} (D : Ds K) : Binds K D.fd__is_number ["digits"] [] := D.F__is_number.bindsN fun _ _ _ _ _ _ us hl => match us, hl with | [_], _ => rfl
theorem b_Part_init {K : PySem.W.Frag} (D : Ds K) : Binds K D.fd_Part_init ["self", "letter", "times", "inner"] [] := D.F_Part_init.bindsN fun _ _ _ _ _ _ us hl => match us, hl with | [_, _, _, _], _ => rfl
theorem b_size_of {K : PySem.W.Frag} (D : Ds K) : Binds K D.fd_size_of ["parts"] [] := D.F_size_of.bindsN fun _ _ _ _ _ _ us hl => match us, hl with | [_], _ => rfl
theorem b_levels_of {K : PySem.W.Frag} (D : Ds K) : Binds K D.fd_levels_of ["parts"] [] := D.F_levels_of.bindsN fun _ _ _ _ _ _ us hl => match us, hl with | [_], _ => rfl
theorem b_parts_of_words {K : PySem.W.Frag} (D : Ds K) : Binds K D.fd_parts_of_words ["words"] [] := D.F_parts_of_words.bindsN fun _ _ _ _ _ _ us hl => match us, hl with | [_], _ => rfl
theorem b__parts_from {K : PySem.W.Frag} (D : Ds K) : Binds K D.fd__parts_from ["words", "start"] [] := D.F__parts_from.bindsN fun _ _ _ _ _ _ us hl => match us, hl with | [_, _], _ => rfl
theorem b_count_in {K : PySem.W.Frag} (D : Ds K) : Binds K D.fd_count_in ["parts", "letter"] [] := D.F_count_in.bindsN fun _ _ _ _ _ _ us hl => match us, hl with | [_, _], _ => rfl
theorem b_Program_init {K : PySem.W.Frag} (D : Ds K) : Binds K D.fd_Program_init ["self", "text"] [] := D.F_Program_init.bindsN fun _ _ _ _ _ _ us hl => match us, hl with | [_, _], _ => rfl
theorem b_Program_text {K : PySem.W.Frag} (D : Ds K) : Binds K D.fd_Program_text ["self"] [] := D.F_Program_text.bindsN fun _ _ _ _ _ _ us hl => match us, hl with | [_], _ => rfl
theorem b_Program_length {K : PySem.W.Frag} (D : Ds K) : Binds K D.fd_Program_length ["self"] [] := D.F_Program_length.bindsN fun _ _ _ _ _ _ us hl => match us, hl with | [_], _ => rfl
theorem b_Program_depth {K : PySem.W.Frag} (D : Ds K) : Binds K D.fd_Program_depth ["self"] [] := D.F_Program_depth.bindsN fun _ _ _ _ _ _ us hl => match us, hl with | [_], _ => rfl
theorem b_Program_len {K : PySem.W.Frag} (D : Ds K) : Binds K D.fd_Program_len ["self"] [] := D.F_Program_len.bindsN fun _ _ _ _ _ _ us hl => match us, hl with | [_], _ => rfl
theorem b_Program_eq {K : PySem.W.Frag} (D : Ds K) : Binds K D.fd_Program_eq ["self", "other"] [] := D.F_Program_eq.bindsN fun _ _ _ _ _ _ us hl => match us, hl with | [_, _], _ => rfl
theorem b_Program_contains {K : PySem.W.Frag} (D : Ds K) : Binds K D.fd_Program_contains ["self", "x"] [] := D.F_Program_contains.bindsN fun _ _ _ _ _ _ us hl => match us, hl with | [_, _], _ => rfl
theorem b_Program_add {K : PySem.W.Frag} (D : Ds K) : Binds K D.fd_Program_add ["self", "other"] [] := D.F_Program_add.bindsN fun _ _ _ _ _ _ us hl => match us, hl with | [_, _], _ => rfl
theorem b_Program_mul {K : PySem.W.Frag} (D : Ds K) : Binds K D.fd_Program_mul ["self", "other"] [] := D.F_Program_mul.bindsN fun _ _ _ _ _ _ us hl => match us, hl with | [_, _], _ => rfl
theorem b_Program_neg {K : PySem.W.Frag} (D : Ds K) : Binds K D.fd_Program_neg ["self"] [] := D.F_Program_neg.bindsN fun _ _ _ _ _ _ us hl => match us, hl with | [_], _ => rfl
theorem b_Program_invert {K : PySem.W.Frag} (D : Ds K) : Binds K D.fd_Program_invert ["self"] [] := D.F_Program_invert.bindsN fun _ _ _ _ _ _ us hl => match us, hl with | [_], _ => rfl
theorem b_check_text {K : PySem.W.Frag} (D : Ds K) : Binds K D.fd_check_text ["text"] [] := D.F_check_text.bindsN fun _ _ _ _ _ _ us hl => match us, hl with | [_], _ => rfl
theorem b_check_program {K : PySem.W.Frag} (D : Ds K) : Binds K D.fd_check_program ["program"] [] := D.F_check_program.bindsN fun _ _ _ _ _ _ us hl => match us, hl with | [_], _ => rfl
theorem b__law_bag {K : PySem.W.Frag} (D : Ds K) : Binds K D.fd__law_bag ["cell"] [] := D.F__law_bag.bindsN fun _ _ _ _ _ _ us hl => match us, hl with | [_], _ => rfl
theorem b__law_pick {K : PySem.W.Frag} (D : Ds K) : Binds K D.fd__law_pick ["bag", "many"] [] := D.F__law_pick.bindsN fun _ _ _ _ _ _ us hl => match us, hl with | [_, _], _ => rfl
theorem b__law_number {K : PySem.W.Frag} (D : Ds K) : Binds K D.fd__law_number ["bag", "far"] [] := D.F__law_number.bindsN fun _ _ _ _ _ _ us hl => match us, hl with | [_, _], _ => rfl
theorem b__law_words {K : PySem.W.Frag} (D : Ds K) : Binds K D.fd__law_words ["bag", "most", "deep", "letters", "far"] [] := D.F__law_words.bindsN fun _ _ _ _ _ _ us hl => match us, hl with | [_, _, _, _, _], _ => rfl
theorem b__law_length {K : PySem.W.Frag} (D : Ds K) : Binds K D.fd__law_length ["words"] [] := D.F__law_length.bindsN fun _ _ _ _ _ _ us hl => match us, hl with | [_], _ => rfl
theorem b__law_steps {K : PySem.W.Frag} (D : Ds K) : Binds K D.fd__law_steps ["words"] [] := D.F__law_steps.bindsN fun _ _ _ _ _ _ us hl => match us, hl with | [_], _ => rfl
theorem b__law_short {K : PySem.W.Frag} (D : Ds K) : Binds K D.fd__law_short ["bag", "most", "letters", "size"] [] := D.F__law_short.bindsN fun _ _ _ _ _ _ us hl => match us, hl with | [_, _, _, _], _ => rfl
theorem b__law_class {K : PySem.W.Frag} (D : Ds K) : Binds K D.fd__law_class ["caught"] [] := D.F__law_class.bindsN fun _ _ _ _ _ _ us hl => match us, hl with | [_], _ => rfl
theorem b__law_told {K : PySem.W.Frag} (D : Ds K) : Binds K D.fd__law_told ["way", "one", "other"] [] := D.F__law_told.bindsN fun _ _ _ _ _ _ us hl => match us, hl with | [_, _, _], _ => rfl
theorem b__law_made_right {K : PySem.W.Frag} (D : Ds K) : Binds K D.fd__law_made_right [] [] := D.F__law_made_right.bindsN fun _ _ _ _ _ _ us hl => match us, hl with | [], _ => rfl
theorem b__law_sizes_right {K : PySem.W.Frag} (D : Ds K) : Binds K D.fd__law_sizes_right ["bag"] [] := D.F__law_sizes_right.bindsN fun _ _ _ _ _ _ us hl => match us, hl with | [_], _ => rfl
theorem b_law {K : PySem.W.Frag} (D : Ds K) : Binds K D.fd_law ["script"] [] := D.F_law.bindsN fun _ _ _ _ _ _ us hl => match us, hl with | [_], _ => rfl
abbrev Rw : PySem.W.OpenRow := PySem.W.OpenLaw.row PySem.Challenge.rw_plotpens_k04_operator_errors
def tabs : List He.Tab := [(fun K => He.ga K "UNDONE", ["f", "b", "l", "r"])]
def as0 : List Addr := [3, 6, 4, 21, 31, 51, 70, 89, 108, 120, 132, 144, 156, 168, 180, 192, 204, 216, 228, 240, 252, 264, 276, 288, 300, 312, 324, 336, 348, 360, 372, 384, 396, 408, 417, 424, 431, 438, 439, 440, 441, 448, 455, 462, 469, 474, 481, 488, 495, 512, 521, 526, 533, 540, 547, 637, 648, 655, 662, 669, 676, 683, 690, 697, 704, 711, 718, 725, 732, 739, 0, 20, 30, 50, 69, 88, 107, 119, 131, 143, 155, 167, 179, 191, 203, 215, 227, 239, 251, 263, 275, 287, 299, 311, 323, 335, 347, 359, 371, 383]
def as1 : List Addr := [395, 407, 416, 423, 430, 437, 447, 454, 461, 468, 473, 480, 487, 494, 511, 520, 525, 532, 539, 546, 636, 647, 654, 661, 668, 675, 682, 689, 696, 703, 710, 717, 724, 731, 738, 15, 16, 17, 18, 19, 29, 32, 48, 49, 67, 68, 86, 87, 105, 106, 118, 130, 142, 154, 166, 178, 190, 202, 214, 226, 238, 250, 262, 274, 286, 298, 310, 322, 334, 346, 358, 370, 382, 394, 406, 411, 412, 413, 414, 415, 418, 419, 420, 421, 422, 425, 426, 427, 428, 429, 432, 433, 434, 435, 436, 442, 443, 444, 445, 446]
def as2 : List Addr := [449, 450, 451, 452, 453, 456, 457, 458, 459, 460, 463, 464, 465, 466, 467, 470, 471, 472, 475, 476, 477, 478, 479, 482, 483, 484, 485, 486, 489, 490, 491, 492, 493, 509, 510, 513, 514, 517, 518, 519, 522, 523, 524, 527, 528, 529, 530, 531, 534, 535, 536, 537, 538, 541, 542, 543, 544, 545, 561, 569, 577, 585, 592, 599, 606, 613, 620, 627, 634, 635, 638, 639, 642, 643, 644, 645, 646, 649, 650, 651, 652, 653, 656, 657, 658, 659, 660, 663, 664, 665, 666, 667, 670, 671, 672, 673, 674, 677, 678, 679]
def as3 : List Addr := [680, 681, 684, 685, 686, 687, 688, 691, 692, 693, 694, 695, 698, 699, 700, 701, 702, 705, 706, 707, 708, 709, 712, 713, 714, 715, 716, 719, 720, 721, 722, 723, 726, 727, 728, 729, 730, 733, 734, 735, 736, 737, 47, 66, 85, 104, 508, 560, 568, 576, 584, 591, 598, 605, 612, 619, 626, 633, 42, 43, 44, 45, 46, 61, 62, 63, 64, 65, 80, 81, 82, 83, 84, 99, 100, 101, 102, 103, 503, 504, 505, 506, 507, 555, 556, 557, 558, 559, 567, 575, 583, 586, 587, 588, 589, 590, 593, 594, 595, 596]
def as4 : List Addr := [597, 600, 601, 602, 603, 604, 607, 608, 609, 610, 611, 614, 615, 616, 617, 618, 621, 622, 623, 624, 625, 628, 629, 630, 631, 632, 562, 563, 564, 565, 566, 570, 571, 572, 573, 574, 578, 579, 580, 581, 582, 1, 2]
def as_ : List Addr := as0 ++ as1 ++ as2 ++ as3 ++ as4
abbrev hk : PySem.W.Hook := HQ.hookLQ as_ facts fns tabs
def ob (s : PySem.W.SharedT) : HQ.AlQ := HQ.obsLQ as_ facts fns tabs (HandSHeadRun.getT s)
theorem ob_eq (s : PySem.W.SharedT) : ob s = hk.obs s.abs := HQ.obsLQ_eq (HandSHeadRun.getT_eq s)
end K04

set_option Elab.async false
set_option linter.all false
set_option maxRecDepth 100000
set_option maxHeartbeats 0
namespace K04
open PySem PySem.Spec PyProof.Rows L2
theorem rb0 (w : World) : HP.BaseEq Rw (PySem.W.view Rw.prog [76]) 12000 names (w.withFollow "special-get-raises" false) := by
  intro os
  kernel_rfl
theorem rp0_0 (w : World) : HP.PartEq Rw 12000 as_ (fa0 ++ fa1 ++ fa2 ++ fa3) [] (w.withFollow "special-get-raises" false) := by
  intro os
  kernel_rfl
theorem rp0_1 (w : World) : HP.PartEq Rw 12000 as_ (fa4 ++ fa5 ++ fa6 ++ fa7) [] (w.withFollow "special-get-raises" false) := by
  intro os
  kernel_rfl
theorem rp0_2 (w : World) : HP.PartEq Rw 12000 as_ (fa8 ++ fa9 ++ fa10 ++ fa11) [] (w.withFollow "special-get-raises" false) := by
  intro os
  kernel_rfl
theorem rp0_3 (w : World) : HP.PartEq Rw 12000 as_ (fa12 ++ fa13) fns (w.withFollow "special-get-raises" false) := by
  intro os
  kernel_rfl
theorem rt0 (w : World) : HQ.TabEq Rw 12000 as_ tabs (w.withFollow "special-get-raises" false) := by
  intro os
  kernel_rfl
theorem run0 (w : World) : HandSHeadRun.RunEq Rw (PySem.W.view Rw.prog [76]) hk ob 12000 names (w.withFollow "special-get-raises" false) := HQ.run_joinQ (rb0 w) (by
  have e := (((rp0_0 w).app (rp0_1 w)).app (rp0_2 w)).app (rp0_3 w)
  simp only [List.append_assoc, List.nil_append] at e
  unfold facts
  simp only [List.append_assoc]
  exact e) (rt0 w)
theorem rb1 (w : World) : HP.BaseEq Rw (PySem.W.view Rw.prog [76]) 12000 names (w.withFollow "special-get-raises" true) := by
  intro os
  kernel_rfl
theorem rp1_0 (w : World) : HP.PartEq Rw 12000 as_ (fa0 ++ fa1 ++ fa2 ++ fa3) [] (w.withFollow "special-get-raises" true) := by
  intro os
  kernel_rfl
theorem rp1_1 (w : World) : HP.PartEq Rw 12000 as_ (fa4 ++ fa5 ++ fa6 ++ fa7) [] (w.withFollow "special-get-raises" true) := by
  intro os
  kernel_rfl
theorem rp1_2 (w : World) : HP.PartEq Rw 12000 as_ (fa8 ++ fa9 ++ fa10 ++ fa11) [] (w.withFollow "special-get-raises" true) := by
  intro os
  kernel_rfl
theorem rp1_3 (w : World) : HP.PartEq Rw 12000 as_ (fa12 ++ fa13) fns (w.withFollow "special-get-raises" true) := by
  intro os
  kernel_rfl
theorem rt1 (w : World) : HQ.TabEq Rw 12000 as_ tabs (w.withFollow "special-get-raises" true) := by
  intro os
  kernel_rfl
theorem run1 (w : World) : HandSHeadRun.RunEq Rw (PySem.W.view Rw.prog [76]) hk ob 12000 names (w.withFollow "special-get-raises" true) := HQ.run_joinQ (rb1 w) (by
  have e := (((rp1_0 w).app (rp1_1 w)).app (rp1_2 w)).app (rp1_3 w)
  simp only [List.append_assoc, List.nil_append] at e
  unfold facts
  simp only [List.append_assoc]
  exact e) (rt1 w)
theorem run (w : World) : HandSHeadRun.RunEq Rw (PySem.W.view Rw.prog [76]) hk ob 12000 names w := PySem.W.byRow2 "special-get-raises" (P := fun w => HandSHeadRun.RunEq Rw (PySem.W.view Rw.prog [76]) hk ob 12000 names w) run0 run1 w
end K04

set_option linter.all false
set_option maxRecDepth 100000
set_option maxHeartbeats 4000000
/-! words of program texts: signs -/
namespace WM
open PySem PySem.Spec PyProof.Rows L2 TL PySem.Builtin PySem.Builtin.Str PySem.StrLaws
/-- a word: an opening bracket, a closing one with its number, a letter so many times -/
inductive Wd where
  | op
  | cl (n : Nat)
  | lt (c : Nat) (n : Nat)
  deriving DecidableEq
def six : List Nat := [102, 98, 108, 114, 117, 100]
abbrev T30 : Nat := 1000000000000000000000000000000
def Wd.ok : Wd → Prop
  | .op => True
  | .cl n => 2 ≤ n ∧ n ≤ T30
  | .lt c n => c ∈ six ∧ 1 ≤ n ∧ n ≤ T30
def Wd.cps : Wd → List Nat
  | .op => [40]
  | .cl n => 41 :: numL n
  | .lt c n => if n = 1 then [c] else c :: numL n
def Wd.str (x : Wd) : Str := ⟨x.cps.toArray⟩
theorem tl_str (x : Wd) : tl x.str = x.cps := rfl
theorem len_tl (x : Str) : x.length = (tl x).length := by
  show x.cps.size = x.cps.toList.length
  rw [Array.length_toList]
theorem cps_len {x : Wd} (h : x.ok) : x.cps.length ≤ 32 := by
  cases x with
  | op => decide
  | cl n =>
    have := numL_len (n := n) (k := 31) (by decide) (by have h2 : n ≤ 1000000000000000000000000000000 := h.2; omega)
    simp only [Wd.cps, List.length_cons]
    omega
  | lt c n =>
    have := numL_len (n := n) (k := 31) (by decide) (by have h2 : n ≤ 1000000000000000000000000000000 := h.2.2; omega)
    simp only [Wd.cps]
    split
    · show 1 ≤ 32
      decide
    · simp only [List.length_cons]
      omega
theorem numL_head {n : Nat} (h : 1 ≤ n) : ∃ d r, numL n = d :: r ∧ 49 ≤ d ∧ d ≤ 57 := by
  induction n using Nat.strongRecOn with
  | ind n ih =>
    by_cases h10 : n < 10
    · exact ⟨48 + n, [], numL_lt h10, by omega, by omega⟩
    · obtain ⟨d, r, e, h1, h2⟩ := ih (n / 10) (by omega) (by omega)
      exact ⟨d, r ++ [48 + n % 10], by rw [numL_step (by omega), e]; rfl, h1, h2⟩
/-- the digits of a number, as a text -/
def dgS (n : Nat) : Str := ⟨(numL n).toArray⟩
theorem dgS_eq (n : Nat) : Str.ofString (toString ((n : Nat) : Int)) = dgS n := ext_tl (tl_num n)
theorem dg_len {n : Nat} (h : n ≤ T30) : (dgS n).length ≤ 31 := by
  rw [len_tl]
  exact numL_len (by decide) (by have h2 : n ≤ 1000000000000000000000000000000 := h; omega)
theorem dg_ascii (n : Nat) : Txt.isascii (dgS n) = true := by
  show (dgS n).cps.all (· < 128) = true
  rw [← Array.all_toList]
  refine List.all_eq_true.mpr fun c hc => ?_
  have := numL_digits n c hc
  simp only [decide_eq_true_eq]
  omega
theorem uni_digit : ∀ c, 48 ≤ c → c ≤ 57 → Unicode.isDigit c = true := by
  intro c h1 h2
  have : c = 48 ∨ c = 49 ∨ c = 50 ∨ c = 51 ∨ c = 52 ∨ c = 53 ∨ c = 54 ∨ c = 55 ∨ c = 56 ∨ c = 57 := by omega
  rcases this with rfl | rfl | rfl | rfl | rfl | rfl | rfl | rfl | rfl | rfl <;> decide +kernel
theorem dg_digit (n : Nat) : Txt.isdigit (dgS n) = true := by
  show (decide ((dgS n).length > 0) && (dgS n).cps.all Unicode.isDigit) = true
  have h1 : 0 < (dgS n).length := by
    rw [len_tl]
    exact List.length_pos_iff.mpr (numL_ne n)
  rw [decide_eq_true h1, Bool.true_and, ← Array.all_toList]
  refine List.all_eq_true.mpr fun c hc => ?_
  have := numL_digits n c hc
  exact uni_digit c this.1 this.2
theorem dg_int {n : Nat} (h : n ≤ T30) : intText? (dgS n) = some (n : Int) := by
  rw [← dgS_eq]
  refine int_num ?_
  have := dg_len h
  rw [len_tl] at this
  exact Nat.le_trans this (by decide)
/-- startswith of one sign -/
theorem starts1 (x : Str) (c : Nat) : Txt.startswith x ⟨#[c]⟩ = (match tl x with | [] => false | d :: _ => decide (d = c)) := by
  show (decide (0 + 1 ≤ x.length) && subAt x ⟨#[c]⟩ 0) = _
  rw [subAt_eq]
  have e1 : (⟨#[c]⟩ : Str).cps.toList = [c] := rfl
  have e2 : (⟨#[c]⟩ : Str).length = 1 := rfl
  have e3 : x.length = (tl x).length := len_tl x
  rw [e1, e2, e3]
  show (decide (0 + 1 ≤ (tl x).length) && (List.take 1 (List.drop 0 (tl x)) == [c])) = _
  cases tl x with
  | nil => rfl
  | cons d r =>
    show (decide (0 + 1 ≤ r.length + 1) && ([d] == [c])) = decide (d = c)
    rw [decide_eq_true (by omega), Bool.true_and]
    by_cases h : d = c
    · subst h
      simp
    · rw [decide_eq_false h]
      simp [h]
theorem dg_no0 {n : Nat} (h : 1 ≤ n) : Txt.startswith (dgS n) ⟨#[48]⟩ = false := by
  obtain ⟨d, r, e, h1, h2⟩ := numL_head h
  rw [starts1]
  have e2 : tl (dgS n) = d :: r := e
  rw [e2]
  exact decide_eq_false (by omega)
def sixB (x : Str) : Bool := inV (.str x) [.str "f", .str "b", .str "l", .str "r", .str "u", .str "d"]
theorem sixB_eq (x : Str) : sixB x = six.any fun c => decide (tl x = [c]) := by
  have e : ∀ (y : Str) (c : Nat), tl y = [c] → (y == x) = decide (tl x = [c]) := by
    intro y c h
    by_cases z : y = x
    · subst z
      rw [decide_eq_true h]
      exact beq_self_eq_true y
    · rw [decide_eq_false (fun w => z (ext_tl (h.trans w.symm)))]
      exact beq_false_of_ne z
  show ((("f" : Str) == x) || ((("b" : Str) == x) || ((("l" : Str) == x) || ((("r" : Str) == x) || ((("u" : Str) == x) || ((("d" : Str) == x) || false)))))) = _
  rw [e "f" 102 (by decide), e "b" 98 (by decide), e "l" 108 (by decide), e "r" 114 (by decide), e "u" 117 (by decide), e "d" 100 (by decide)]
  rfl
theorem six_one {c : Nat} (h : c ∈ six) : sixB ⟨#[c]⟩ = true := by
  rw [sixB_eq]
  exact List.any_eq_true.mpr ⟨c, h, decide_eq_true rfl⟩
theorem six_not {x : Str} (h : ∀ c ∈ six, tl x ≠ [c]) : sixB x = false := by
  rw [sixB_eq]
  exact List.any_eq_false.mpr fun c hc => by rw [decide_eq_false (h c hc)]; decide
/-- the first sign, the rest -/
theorem cut_first (d : Nat) (r : List Nat) : cutS ⟨(d :: r).toArray⟩ none (some 1) = ⟨#[d]⟩ := by
  refine ext_tl ?_
  have e2 : HT.sIx (d :: r).length (d :: r).length (some 1) = 1 := by
    have := HT.sIx_nat (d :: r).length (d :: r).length 1
    rw [show ((1 : Nat) : Int) = 1 from rfl] at this
    rw [this, List.length_cons]
    omega
  show ((d :: r).drop 0).take (HT.sIx (d :: r).length (d :: r).length (some 1) - 0) = [d]
  rw [e2]
  rfl
theorem cut_rest (d : Nat) (r : List Nat) : cutS ⟨(d :: r).toArray⟩ (some 1) none = ⟨r.toArray⟩ := by
  refine ext_tl ?_
  have e2 : HT.sIx (d :: r).length 0 (some 1) = 1 := by
    have := HT.sIx_nat (d :: r).length 0 1
    rw [show ((1 : Nat) : Int) = 1 from rfl] at this
    rw [this, List.length_cons]
    omega
  show ((d :: r).drop (HT.sIx (d :: r).length 0 (some 1))).take ((d :: r).length - HT.sIx (d :: r).length 0 (some 1)) = r
  rw [e2]
  show List.take (r.length + 1 - 1) r = r
  rw [Nat.add_sub_cancel, List.take_length]
theorem cl_cut (n : Nat) : cutS (Wd.cl n).str none (some 1) = ⟨#[41]⟩ ∧ cutS (Wd.cl n).str (some 1) none = dgS n := ⟨cut_first 41 (numL n), cut_rest 41 (numL n)⟩
theorem lt_cut (c : Nat) {n : Nat} (h : n ≠ 1) : cutS (Wd.lt c n).str none (some 1) = ⟨#[c]⟩ ∧ cutS (Wd.lt c n).str (some 1) none = dgS n := by
  have e : (Wd.lt c n).str = ⟨(c :: numL n).toArray⟩ := by
    show (⟨(if n = 1 then [c] else c :: numL n).toArray⟩ : Str) = _
    rw [if_neg h]
  rw [e]
  exact ⟨cut_first c (numL n), cut_rest c (numL n)⟩
theorem lt1_str (c : Nat) : (Wd.lt c 1).str = ⟨#[c]⟩ := rfl
theorem six_cl (n : Nat) : sixB (Wd.cl n).str = false := six_not fun c hc e => by
  have e : 41 :: numL n = [c] := e
  injection e with e1 e2
  exact numL_ne n e2
theorem six_lt (c : Nat) {n : Nat} (h : n ≠ 1) : sixB (Wd.lt c n).str = false := six_not fun d hd e => by
  have e : (if n = 1 then [c] else c :: numL n) = [d] := e
  rw [if_neg h] at e
  injection e with e1 e2
  exact numL_ne n e2
theorem six_41 : sixB ⟨#[41]⟩ = false := by decide
theorem op_starts : Txt.startswith Wd.op.str ⟨#[41]⟩ = false := by decide
theorem cl_starts (n : Nat) : Txt.startswith (Wd.cl n).str ⟨#[41]⟩ = true := by
  rw [starts1]
  show (match 41 :: numL n with | [] => false | d :: _ => decide (d = 41)) = true
  rfl
theorem six_ne {c : Nat} (h : c ∈ six) : c ≠ 41 ∧ c ≠ 40 ∧ c ≠ 32 := by
  simp only [six, List.mem_cons, List.not_mem_nil, or_false] at h
  omega
theorem lt_starts {c n : Nat} (h : c ∈ six) : Txt.startswith (Wd.lt c n).str ⟨#[41]⟩ = false := by
  rw [starts1]
  have e : tl (Wd.lt c n).str = if n = 1 then [c] else c :: numL n := rfl
  rw [e]
  have := (six_ne h).1
  by_cases h1 : n = 1
  · rw [if_pos h1]
    exact decide_eq_false this
  · rw [if_neg h1]
    exact decide_eq_false this
theorem is_op (x : Wd) (hx : x.ok) : (x.str = Wd.op.str) ↔ x = .op := by
  constructor
  · intro h
    have e : x.cps = [40] := congrArg tl h
    cases x with
    | op => rfl
    | cl n => cases e
    | lt c n =>
      have h6 := (six_ne hx.1).2.1
      simp only [Wd.cps] at e
      split at e
      · injection e with e1
        exact absurd e1 h6
      · injection e with e1
        exact absurd e1 h6
  · intro h
    rw [h]
theorem free_sp (x : Wd) (hx : x.ok) : 32 ∉ tl x.str := by
  have e : tl x.str = x.cps := rfl
  rw [e]
  cases x with
  | op => decide
  | cl n =>
    simp only [Wd.cps, List.mem_cons, not_or]
    exact ⟨by decide, numL_free (.inl (by decide))⟩
  | lt c n =>
    have h6 := (six_ne hx.1).2.2
    simp only [Wd.cps]
    split
    · simp only [List.mem_cons, List.not_mem_nil, or_false]
      exact fun z => h6 z.symm
    · simp only [List.mem_cons, not_or]
      exact ⟨fun z => h6 z.symm, numL_free (.inl (by decide))⟩
end WM

set_option Elab.async false
set_option linter.all false
set_option maxRecDepth 100000
set_option maxHeartbeats 4000000
namespace K04P
open PySem PySem.Spec PyProof.Rows L2 RT WM K04
section
variable {P : Program} {w : World} {K : PySem.W.Frag} {mg : Str → Option Value} {base : Heap}
theorem kit_ss {K : PySem.W.Frag} : PySem.W.kitOne K (.type "str") (.type "str") = some true := kit_ty (by decide +kernel)
def spLetter : Sp := fun vs H Q _ => ∃ x : Str, vs = [.str x] ∧ Q (.bl (sixB x)) H
theorem ok_letter (D : Ds K) (T : Tx K mg) : FnOk P w K mg base CX0 1 (dis_letter.adr K) D.fd_is_letter ["value"] spLetter := by
  refine D.F_is_letter.ok scis_letter (fun vs H Q E h => ?_) (fun cdv A outer s H vs Q E hr h => ?_)
  · obtain ⟨x, rfl, _⟩ := h
    rfl
  · obtain ⟨x, rfl, q⟩ := h
    refine ⟨_, PSs.nox (pss_one (ps_ret (pe_and (pe_callB call_isiY (by rfl) T.z_isinstance (by decide +kernel) (pa_cons (pv 0) (pa_cons (pe_bltn (v := .ty "str") (by rfl) T.z_str (by decide +kernel) rfl) pa_nil)))
      (pe_one (pe_cmpR op_in_seq (pv 0) (pe_glob (v := .ref (He.ga K "LETTERS")) rfl T.g_LETTERS rfl) (by rfl)))))), ?_⟩
    refine ⟨_, rfl, _, .ty "str", _, _, true, rfl, .ty "str", .base (.base (.str x)), kit_ss, true, rfl, iteT ?_⟩
    exact ⟨_, rfl, _, _, rfl, .inr (T.l_LETTERS H), rfl, rfl, q⟩
def spDec : Sp := fun vs H Q _ => ∃ n : Nat, vs = [.str (dgS n)] ∧ 2 ≤ n ∧ n ≤ T30 ∧ Q (.bl true) H
theorem dg_ne0 {n : Nat} (h : 2 ≤ n) : dgS n ≠ "0" := fun z => by
  have h1 := dg_no0 (n := n) (by omega)
  rw [z] at h1
  revert h1
  decide
theorem ok_dec (D : Ds K) (T : Tx K mg) : FnOk P w K mg base CX0 1 (dis_decimal.adr K) D.fd_is_decimal ["word"] spDec := by
  refine D.F_is_decimal.ok scis_decimal (fun vs H Q E h => ?_) (fun cdv A outer s H vs Q E hr h => ?_)
  · obtain ⟨n, rfl, _⟩ := h
    rfl
  · obtain ⟨n, rfl, h2, h30, q⟩ := h
    obtain ⟨tD, vD⟩ := T.v_MOST_DIGITS
    refine ⟨_, PSs.nox (pss_cons (ps_if (PW.pt (pw_or (pt_cmpR op_gt (pe_callB call_len_str (by rfl) T.z_len PySem.boot_len (pa_cons (pv 0) pa_nil)) (pe_glob (v := .int 31) rfl vD ⟨_, rfl⟩) (nomark _))
        (pw_or (pt_not (pt_val (pe_m0 PySem.F.slot_str_isascii PySem.F.type_str_isascii mt_isascii (pv 0)))) (pw_or1 (pt_not (pt_val (pe_m0 PySem.F.slot_str_isdigit PySem.F.type_str_isdigit mt_isdigit (pv 0))))))))
        (pss_one (ps_ret pe_bl)) pss_nil)
      (pss_one (ps_ret (pe_or (pe_cmpR op_eq (pv 0) pe_str (nomark _)) (pe_one (pe_not (pe_m1 PySem.F.slot_str_startswith PySem.F.type_str_startswith mt_startswith (pv 0) pe_str))))))), ?_⟩
    have hl := dg_len h30
    have h31 : ((dgS n).length : Int) ≤ 31 := by omega
    have hz : (dgS n).length ≤ sizeLine := Nat.le_trans hl (by decide)
    refine ⟨_, rfl, _, rfl, hz, _, _, rfl, rfl, _, rfl, ?_⟩
    rw [decide_eq_false (show ¬ ((dgS n).length : Int) > 31 by omega)]
    refine iteF ⟨_, rfl, ⟨_, rfl⟩, _, rfl, rfl, trivial, true, by rw [dg_ascii], iteF ⟨_, rfl, ⟨_, rfl⟩, _, rfl, rfl, trivial, true, by rw [dg_digit], iteF ?_⟩⟩
    refine ⟨_, rfl, rfl, false, congrArg V.bl (decide_eq_false fun z => by injection z with z; exact dg_ne0 h2 z), iteF ?_⟩
    refine ⟨_, rfl, ⟨_, rfl⟩, _, _, rfl, rfl, false, by rw [show Txt.startswith (dgS n) ("0" : Str) = false from dg_no0 (by omega)], q⟩
def spNumb : Sp := fun vs H Q _ => ∃ n : Nat, vs = [.str (dgS n)] ∧ 2 ≤ n ∧ n ≤ T30 ∧ Q (.bl true) H
theorem ok_numb (D : Ds K) (T : Tx K mg) : FnOk P w K mg base CX0 2 (d_is_number.adr K) D.fd__is_number ["digits"] spNumb := by
  have GD : FnOk P w K mg base CX0 1 _ _ _ spDec := ok_dec D T
  refine D.F__is_number.ok sc_is_number (fun vs H Q E h => ?_) (fun cdv A outer s H vs Q E hr h => ?_)
  · obtain ⟨n, rfl, _⟩ := h
    rfl
  · obtain ⟨n, rfl, h2, h30, q⟩ := h
    obtain ⟨tM, vM⟩ := T.v_MOST_TIMES
    refine ⟨_, PSs.nox (pss_one (ps_ret (pe_and (pe_call GD hr (by rfl) T.g_is_decimal D.F_is_decimal.kp (b_is_decimal D) .nil pass0 (pa_cons (pv 0) pa_nil))
        (pe_one (pe_chain op_le op_le pe_int (pe_callTy call_int_str (by rfl) T.z_int (by decide +kernel) (pa_cons (pv 0) pa_nil)) (pe_glob (v := .int 1000000000000000000000000000000) rfl vM ⟨_, rfl⟩)))))), ?_⟩
    have hl := dg_len h30
    have h30' : (n : Int) ≤ 1000000000000000000000000000000 := by
      have : n ≤ 1000000000000000000000000000000 := h30
      omega
    refine ⟨_, rfl, n, rfl, h2, h30, true, rfl, iteT ?_⟩
    refine ⟨_, rfl, _, _, rfl, dg_int h30, Nat.le_trans hl (by decide), _, _, rfl, rfl, true, by show V.bl (decide ((2 : Int) ≤ (n : Int))) = _; rw [decide_eq_true (show (2 : Int) ≤ (n : Int) by omega)], iteT ⟨_, _, rfl, rfl, ?_⟩⟩
    show Q (.bl (decide ((n : Int) ≤ 1000000000000000000000000000000))) H
    rw [decide_eq_true h30']
    exact q
def spCounted : Sp := fun vs H Q _ => ∃ x : Wd, vs = [.str x.str] ∧ x.ok ∧ x ≠ .op ∧ Q (.bl true) H
theorem ok_counted (D : Ds K) (T : Tx K mg) : FnOk P w K mg base CX0 3 (d_is_counted.adr K) D.fd__is_counted ["word"] spCounted := by
  have GL : FnOk P w K mg base CX0 1 _ _ _ spLetter := ok_letter D T
  have GN : FnOk P w K mg base CX0 2 _ _ _ spNumb := ok_numb D T
  refine D.F__is_counted.ok sc_is_counted (fun vs H Q E h => ?_) (fun cdv A outer s H vs Q E hr h => ?_)
  · obtain ⟨x, rfl, _⟩ := h
    rfl
  · obtain ⟨x, rfl, hx, hn, q⟩ := h
    have hz : x.str.length ≤ sizeLine := by
      rw [len_tl]
      exact Nat.le_trans (cps_len hx) (by decide)
    refine ⟨_, PSs.nox (pss_cons (ps_if (pt_val (pe_call GL (hr.mono (by decide)) (by rfl) T.g_is_letter D.F_is_letter.kp (b_is_letter D) .nil pass0 (pa_cons (pv 0) pa_nil))) (pss_one (ps_ret pe_bl)) pss_nil)
      (pss_one (ps_ret (pe_and (pe_or (pe_call GL (hr.mono (by decide)) (by rfl) T.g_is_letter D.F_is_letter.kp (b_is_letter D) .nil pass0 (pa_cons (pe_slice sl_str (pv 0) po_none (po_some pe_int)) pa_nil)) (pe_one (pe_m1 PySem.F.slot_str_startswith PySem.F.type_str_startswith mt_startswith (pv 0) pe_str)))
        (pe_one (pe_call GN hr (by rfl) T.g__is_number D.F__is_number.kp (b__is_number D) .nil pass0 (pa_cons (pe_slice sl_str (pv 0) (po_some pe_int) po_none) pa_nil))))))), ?_⟩
    refine ⟨_, rfl, _, rfl, _, rfl, ?_⟩
    cases x with
    | op => exact absurd rfl hn
    | cl n =>
      rw [six_cl]
      refine iteF ⟨_, rfl, 1, rfl, _, rfl, hz, _, rfl, ?_⟩
      rw [(cl_cut n).1, six_41]
      refine ⟨false, rfl, iteF ⟨_, rfl, ⟨_, rfl⟩, _, _, rfl, rfl, true, by rw [show Txt.startswith (Wd.cl n).str (")" : Str) = true from cl_starts n], iteT ?_⟩⟩
      exact ⟨_, rfl, 1, rfl, _, rfl, hz, n, by rw [(cl_cut n).2]; rfl, hx.1, hx.2, q⟩
    | lt c n =>
      by_cases h1 : n = 1
      · subst h1
        rw [show sixB (Wd.lt c 1).str = true from six_one hx.1]
        exact iteT q
      · rw [six_lt c h1]
        refine iteF ⟨_, rfl, 1, rfl, _, rfl, hz, _, rfl, ?_⟩
        rw [(lt_cut c h1).1, six_one hx.1]
        refine ⟨true, rfl, iteT ?_⟩
        refine ⟨true, rfl, iteT ?_⟩
        exact ⟨_, rfl, 1, rfl, _, rfl, hz, n, by rw [(lt_cut c h1).2]; rfl, by have := hx.2.1; omega, hx.2.2, q⟩
end
end K04P

set_option linter.all false
set_option maxRecDepth 100000
set_option maxHeartbeats 4000000
/-! rows of words -/
namespace WM
open PySem PySem.Spec PyProof.Rows L2 TL
def isOp : Wd → Bool
  | .op => true
  | _ => false
def isCl : Wd → Bool
  | .cl _ => true
  | _ => false
def b2 (b : Bool) : Int := if b then 1 else 0
def step (x : Wd) : Int := b2 (isOp x) - b2 (isCl x)
/-- how deep it is behind i words -/
def dep (ws : List Wd) (i : Nat) : Int := ((ws.take i).map step).sum
theorem dep_succ {ws : List Wd} {i : Nat} {x : Wd} (h : ws[i]? = some x) : dep ws (i + 1) = dep ws i + b2 (isOp x) - b2 (isCl x) := by
  unfold dep
  rw [List.take_succ, h, List.map_append, List.sum_append]
  show _ + (step x + 0) = _
  unfold step
  omega
/-- the words of a program text -/
structure OkW (ws : List Wd) : Prop where
  ok : ∀ x ∈ ws, x.ok
  most : ws.length ≤ 1000
  cl : ∀ (i n : Nat), ws[i]? = some (.cl n) → 0 < dep ws i ∧ ∀ j : Nat, j + 1 = i → ws[j]? ≠ some .op
  up : ∀ i : Nat, i ≤ ws.length → 0 ≤ dep ws i ∧ dep ws i ≤ 12
  need : ∀ (i : Nat) (x : Wd), ws[i]? = some x → (i : Int) + 1 + (dep ws (i + 1) + b2 (isOp x)) ≤ 1000
  shut : dep ws ws.length = 0
def wstrs (ws : List Wd) : List V := ws.map fun x => V.str x.str
def textOf (ws : List Wd) : Str := Str.join " " (ws.map Wd.str)
theorem joinL_len (S : List Nat) (B : Nat) : ∀ ps : List (List Nat), (∀ p ∈ ps, p.length ≤ B) → (joinL S ps).length ≤ ps.length * (B + S.length)
  | [], _ => by simp [joinL]
  | [p], h => by
    have := h p (List.mem_singleton.mpr rfl)
    simp only [joinL, List.length_singleton, Nat.one_mul]
    omega
  | p :: q :: r, h => by
    have h1 := h p (List.mem_cons_self ..)
    have h2 := joinL_len S B (q :: r) fun z hz => h z (List.mem_cons_of_mem _ hz)
    simp only [joinL, List.length_append, List.length_cons] at h2 ⊢
    rw [Nat.add_mul (r.length + 1) 1, Nat.one_mul]
    omega
theorem text_len {ws : List Wd} (h : OkW ws) : (textOf ws).length ≤ 33000 := by
  rw [len_tl]
  unfold textOf
  rw [tl_join]
  have h1 := joinL_len (tl " ") 32 ((ws.map Wd.str).map tl) (by
    intro p hp
    obtain ⟨s, hs, rfl⟩ := List.mem_map.mp hp
    obtain ⟨x, hx, rfl⟩ := List.mem_map.mp hs
    exact cps_len (h.ok x hx))
  have e : (tl (" " : Str)).length = 1 := rfl
  rw [List.length_map, List.length_map, e] at h1
  have := h.most
  omega
theorem text_ne {ws : List Wd} (hn : ws ≠ []) : (textOf ws : Str) ≠ "" := by
  intro e
  have e2 : tl (textOf ws) = [] := by rw [e]; rfl
  unfold textOf at e2
  rw [tl_join] at e2
  cases ws with
  | nil => exact hn rfl
  | cons x r =>
    have hx : x.cps ≠ [] := by
      cases x with
      | op => simp [Wd.cps]
      | cl n => simp [Wd.cps]
      | lt c n =>
        simp only [Wd.cps]
        split <;> simp
    cases r with
    | nil => exact hx e2
    | cons y r =>
      have e3 : x.cps ++ (tl (" " : Str) ++ _) = [] := e2
      exact hx (List.append_eq_nil_iff.mp e3).1
theorem split_text {ws : List Wd} (h : OkW ws) (hn : ws ≠ []) : Txt.split (textOf ws) " " = ws.map Wd.str := by
  have := split_join (y := " ") (s := 32) (S := []) rfl (by decide +kernel) (parts := ws.map Wd.str) (fun e => hn (List.map_eq_nil_iff.mp e)) (fun p hp => by
    obtain ⟨x, hx, rfl⟩ := List.mem_map.mp hp
    exact free_sp x (h.ok x hx))
  rw [join_eq] at this
  exact this
theorem for_enum {K : PySem.W.Frag} {a : Addr} {xs : List V} {g : TG} {tb : TS} {D : Ends} {σ : L2.St} {H : Hp} (Pv : Nat → L2.St → Hp → Prop) (h0 : Pv 0 σ H) (hl : ∀ i σ H, i ≤ xs.length → Pv i σ H → SqL K H a xs)
    (hs : ∀ i x σ H T, xs[i]? = some x → Pv i σ H → H T = none → g (.ref T) σ (upd H T (.tup [.int (i : Nat), x])) fun σ2 H2 => tb { D with nx := Pv (i + 1), ct := Pv (i + 1), bk := D.nx } σ2 H2) (hd : ∀ σ H, Pv xs.length σ H → D.nx σ H) :
    ∃ W : Nat → Nat → L2.St → Hp → Prop, (∃ m, W 0 m σ H) ∧ ∀ i m σ H, W i m σ H →
      ((Ite K a).stop i H ∧ D.nx σ H) ∨ ((Ite K a).go i H ∧ ∃ N : L2.St → Hp → Prop, (∀ σ' H', N σ' H' → ∃ m', m' < m ∧ W (i + 1) m' σ' H') ∧ ∀ x H', (Ite K a).yld i H x H' → g x σ H' fun σ2 H2 => tb { D with nx := N, ct := N, bk := D.nx } σ2 H2) := by
  refine ⟨fun i m σ H => m = xs.length - i ∧ i ≤ xs.length ∧ Pv i σ H, ⟨xs.length, by simp, Nat.zero_le _, h0⟩, ?_⟩
  rintro i m σ H ⟨rfl, hi, p⟩
  have q := hl i σ H hi p
  by_cases hlt : i < xs.length
  · refine .inr ⟨⟨xs, xs[i], q, by simp [hlt]⟩, Pv (i + 1), fun σ' H' p' => ⟨xs.length - (i + 1), by omega, rfl, hlt, p'⟩, fun x H' y => ?_⟩
    obtain ⟨T, v, rfl, hT, rfl, y⟩ := y
    exact hs i v σ _ T (y xs q) p hT
  · have e : i = xs.length := by omega
    subst e
    exact .inl ⟨⟨xs, q, Nat.le_refl _⟩, hd σ H p⟩
end WM

set_option Elab.async false
set_option linter.all false
set_option maxRecDepth 100000
set_option maxHeartbeats 4000000
namespace K04P
open PySem PySem.Spec PyProof.Rows L2 RT WM K04 TL
theorem same_new {H : Hp} {p : Addr} {o : HO} (h : H p = none) : Same H (upd H p o) := fun b x e => by
  rw [upd_ne (ne_of_none e h)]
  exact e
theorem Same.sql {K : PySem.W.Frag} {H H' : Hp} {a : Addr} {xs : List V} (e : Same H H') (h : SqL K H a xs) : SqL K H' a xs := by
  rcases h with (h | ⟨o, h⟩) | h
  · exact .inl (.inl (e _ _ h))
  · exact .inl (.inr ⟨o, e _ _ h⟩)
  · exact .inr h
theorem Same.sqt {K : PySem.W.Frag} {H H' : Hp} {a : Addr} {xs : List V} (e : Same H H') (h : SqT K H a xs) : SqT K H' a xs := by
  rcases h with (h | ⟨o, h⟩) | h
  · exact .inl (.inl (e _ _ h))
  · exact .inl (.inr ⟨o, e _ _ h⟩)
  · exact .inr h
theorem tupT {K : PySem.W.Frag} {H : Hp} {a : Addr} {xs : List V} (h : H a = some (.tup xs)) : SqT K H a xs := .inl (.inl h)
theorem lstL {K : PySem.W.Frag} {H : Hp} {a : Addr} {xs : List V} (h : H a = some (.lst xs)) : SqL K H a xs := .inl (.inl h)
section
variable {P : Program} {w : World} {K : PySem.W.Frag} {mg : Str → Option Value} {base : Heap}
def spWords : Sp := fun vs H Q _ => ∃ ws, vs = [.str (textOf ws)] ∧ OkW ws ∧ ∀ r H', Same H H' → H r = none → H' r = some (.lst (wstrs ws)) → Q (.ref r) H'
theorem ok_words (D : Ds K) (T : Tx K mg) : FnOk P w K mg base CX0 1 (dwords_of.adr K) D.fd_words_of ["text"] spWords := by
  refine D.F_words_of.ok scwords_of (fun vs H Q E h => ?_) (fun cdv A outer s H vs Q E hr h => ?_)
  · obtain ⟨x, rfl, _⟩ := h
    rfl
  · obtain ⟨ws, rfl, ok, q⟩ := h
    refine ⟨_, PSs.nox (pss_cons (ps_if (pt_cmpR op_eq (pv 0) pe_str (nomark _)) (pss_one (ps_ret (pe_lst pa_nil))) pss_nil)
      (pss_one (ps_ret (pe_split (pv 0) pe_str)))), ?_⟩
    have hl := text_len ok
    by_cases hn : ws = []
    · subst hn
      refine ⟨_, rfl, rfl, true, rfl, iteT ⟨by show 0 ≤ sizeLine; decide, fun l hl => q l _ (same_new hl) hl upd_same⟩⟩
    · refine ⟨_, rfl, rfl, false, by rw [decide_eq_false]; intro z; injection z with z; exact text_ne hn z, iteF ?_⟩
      refine ⟨_, rfl, ⟨_, rfl⟩, _, _, rfl, rfl, rfl, Nat.le_trans (Nat.add_le_add_right hl 2) (by decide), fun l hl => ?_⟩
      refine q l _ (same_new hl) hl ?_
      rw [upd_same, split_text ok hn, List.map_map]
      rfl
def numOf : Wd → Nat
  | .op => 1
  | .cl n => n
  | .lt _ n => n
def spNumOf : Sp := fun vs H Q _ => ∃ x : Wd, vs = [.str x.str] ∧ x.ok ∧ Q (.int (numOf x : Int)) H
theorem ok_numof (D : Ds K) (T : Tx K mg) : FnOk P w K mg base CX0 1 (dnumber_of.adr K) D.fd_number_of ["word"] spNumOf := by
  refine D.F_number_of.ok scnumber_of (fun vs H Q E h => ?_) (fun cdv A outer s H vs Q E hr h => ?_)
  · obtain ⟨x, rfl, _⟩ := h
    rfl
  · obtain ⟨x, rfl, hx, q⟩ := h
    have hz : x.str.length ≤ sizeLine := by
      rw [WM.len_tl]
      exact Nat.le_trans (cps_len hx) (by decide)
    refine ⟨_, PSs.nox (pss_cons (ps_if (pt_cmpR op_eq (pe_callB call_len_str (by rfl) T.z_len PySem.boot_len (pa_cons (pv 0) pa_nil)) pe_int (nomark _)) (pss_one (ps_ret pe_int)) pss_nil)
      (pss_one (ps_ret (pe_callTy call_int_str (by rfl) T.z_int (by decide +kernel) (pa_cons (pe_slice sl_str (pv 0) (po_some pe_int) po_none) pa_nil))))), ?_⟩
    refine ⟨_, rfl, _, rfl, hz, rfl, ?_⟩
    have big : ∀ n : Nat, (numL n).length ≠ 0 := fun n z => numL_ne n (List.length_eq_zero_iff.mp z)
    cases x with
    | op => exact ⟨true, rfl, iteT q⟩
    | cl n =>
      refine ⟨false, ?_, iteF ⟨_, rfl, 1, rfl, _, rfl, hz, _, n, rfl, ?_, ?_, q⟩⟩
      · rw [decide_eq_false]
        intro z
        injection z with z
        have z : (((numL n).length + 1 : Nat) : Int) = 1 := z
        have := big n
        omega
      · rw [(cl_cut n).2]
        exact dg_int hx.2
      · rw [(cl_cut n).2]
        exact Nat.le_trans (dg_len hx.2) (by decide)
    | lt c n =>
      by_cases h1 : n = 1
      · subst h1
        exact ⟨true, rfl, iteT q⟩
      · refine ⟨false, ?_, iteF ⟨_, rfl, 1, rfl, _, rfl, hz, _, n, rfl, ?_, ?_, q⟩⟩
        · rw [decide_eq_false]
          intro z
          injection z with z
          have e : (Wd.lt c n).str = ⟨(c :: numL n).toArray⟩ := by
            show (⟨(if n = 1 then [c] else c :: numL n).toArray⟩ : Str) = _
            rw [if_neg h1]
          rw [e] at z
          have z : (((numL n).length + 1 : Nat) : Int) = 1 := z
          have := big n
          omega
        · rw [(lt_cut c h1).2]
          exact dg_int hx.2.2
        · rw [(lt_cut c h1).2]
          exact Nat.le_trans (dg_len hx.2.2) (by decide)
def spWrong (K : PySem.W.Frag) : Sp := fun vs H Q _ => ∃ a b ws, vs = [.ref a, .ref b] ∧ SqL K H a (wstrs ws) ∧ SqT K H b [] ∧ OkW ws ∧ ∀ H', Same H H' → Q .non H'
theorem ok_wrong (D : Ds K) (T : Tx K mg) : FnOk P w K mg base CX0 4 (dwrong_word.adr K) D.fd_wrong_word ["words", "names"] (spWrong K) := by
  have GC : FnOk P w K mg base CX0 3 _ _ _ spCounted := ok_counted D T
  refine D.F_wrong_word.ok scwrong_word (fun vs H Q E h => ?_) (fun cdv A outer s H vs Q E hr h => ?_)
  · obtain ⟨a, b, ws, rfl, _⟩ := h
    rfl
  · obtain ⟨a, b, ws, rfl, ha, hb, ok, q⟩ := h
    have nd := scwrong_word.nd
    obtain ⟨tD, vD⟩ := T.v_MOST_DEPTH
    obtain ⟨tW, vW⟩ := T.v_MOST_WORDS
    refine ⟨_, PSs.nox (pss_cons (ps_set (i := 2) nd rfl (.inl rfl) pe_int)
      (pss_cons (ps_for PassesOwn.never rfl (pi_enum (by rfl) T.z_enumerate (pa_cons (pv 0) pa_nil)) (pg_tup (by rfl) (pgs_cons (pg_name (i := 3) nd rfl (.inl rfl)) (pgs_cons (pg_name (i := 4) nd rfl (.inl rfl)) pgs_nil)))
        (pss_cons (ps_set (i := 5) nd rfl (.inl rfl) (pe_cmpR op_eq (pv 4) pe_str (nomark _)))
        (pss_cons (ps_set (i := 6) nd rfl (.inl rfl) (pe_m1 PySem.F.slot_str_startswith PySem.F.type_str_startswith mt_startswith (pv 4) pe_str))
        (pss_cons (ps_if (pt_not (PW.pt (pw_or (pt_val (pv 5)) (pw_or (pt_cmpR op_in_seq (pv 4) (pv 1) (by rfl)) (pw_or1 (pt_val (pe_call GC hr (by rfl) T.g__is_counted D.F__is_counted.kp (b__is_counted D) .nil pass0 (pa_cons (pv 4) pa_nil)))))))) (pss_one (ps_ret (pv 3))) pss_nil)
        (pss_cons (ps_if (PW.pt (pw_and (pt_val (pv 6)) (pw_and1 (PW.pt (pw_or (pt_cmpR op_eq (pv 2) pe_int (nomark _)) (pw_or1 (pt_cmpR op_eq (pe_ix ix_list (pv 0) (pe_op op_sub (pv 3) pe_int) (fun _ _ => rfl)) pe_str (nomark _)))))))) (pss_one (ps_ret (pv 3))) pss_nil)
        (pss_cons (ps_set (i := 2) nd rfl (.inl rfl) (pe_op op_sub (pe_op op_add (pv 2) (pe_callTy call_int1 (by rfl) T.z_int (by decide +kernel) (pa_cons (pv 5) pa_nil))) (pe_callTy call_int1 (by rfl) T.z_int (by decide +kernel) (pa_cons (pv 6) pa_nil))))
        (pss_cons (ps_set (i := 7) nd rfl (.inl rfl) (pe_op op_add (pv 2) (pe_callTy call_int1 (by rfl) T.z_int (by decide +kernel) (pa_cons (pv 5) pa_nil))))
        (pss_one (ps_if (PW.pt (pw_or (pt_cmpR op_gt (pv 2) (pe_glob (v := .int 12) rfl vD ⟨_, rfl⟩) (nomark _)) (pw_or1 (pt_cmpR op_gt (pe_op op_add (pe_op op_add (pv 3) pe_int) (pv 7)) (pe_glob (v := .int 1000) rfl vW ⟨_, rfl⟩) (nomark _))))) (pss_one (ps_ret (pv 3))) pss_nil)))))))))
      (pss_cons (ps_if (pt_cmpR op_gt (pv 2) pe_int (nomark _)) (pss_one (ps_ret (pe_callB call_len_seq (by rfl) T.z_len PySem.boot_len (pa_cons (pv 0) pa_nil)))) pss_nil)
      (pss_one (ps_ret pe_non))))), ?_⟩
    have len : (wstrs ws).length = ws.length := List.length_map ..
    refine ⟨_, rfl, a, _, rfl, ha, ?_⟩
    refine for_enum (xs := wstrs ws) (fun i σ H' => ∃ z3 z4 z5 z6 z7, Same H H' ∧ σ = [some (.ref a), some (.ref b), some (.int (dep ws i)), z3, z4, z5, z6, z7]) ⟨none, none, none, none, none, fun _ _ e => e, rfl⟩
      (fun i σ H' hi hp => by obtain ⟨_, _, _, _, _, sm, _⟩ := hp; exact Same.sql sm ha) (fun i x σ H1 Tp hx hp hT => ?_) fun σ H' hp => ?_
    · obtain ⟨z3, z4, z5, z6, z7, sm, rfl⟩ := hp
      obtain ⟨y, hy, rfl⟩ : ∃ y, ws[i]? = some y ∧ x = .str y.str := by
        unfold wstrs at hx
        rw [List.getElem?_map] at hx
        cases e : ws[i]? with
        | none => rw [e] at hx; cases hx
        | some y =>
          rw [e] at hx
          injection hx with hx
          exact ⟨y, rfl, hx.symm⟩
      have hyo := ok.ok y (List.mem_of_getElem? hy)
      have sm1 := sm.trans (same_new (o := .tup [.int (i : Nat), .str y.str]) hT)
      have il : i < ws.length := (List.getElem?_eq_some_iff.mp hy).1
      refine ⟨Tp, _, rfl, tupT upd_same, rfl, _, _, rfl, _, _, rfl, rfl, ?_⟩
      have ho : decide (V.str y.str = V.str "(") = isOp y := by
        have e := is_op y hyo
        cases y with
        | op => exact decide_eq_true rfl
        | cl n => exact decide_eq_false fun z => by injection z with z; cases e.mp z
        | lt c n => exact decide_eq_false fun z => by injection z with z; cases e.mp z
      have hc : Txt.startswith y.str (")" : Str) = isCl y := by
        cases y with
        | op => exact op_starts
        | cl n => exact cl_starts n
        | lt c n => exact lt_starts hyo.1
      refine ⟨_, rfl, rfl, ?_⟩
      rw [ho]
      refine ⟨_, rfl, ⟨_, rfl⟩, _, _, rfl, rfl, ?_⟩
      rw [hc]
      dsimp only [List.set_cons_zero, List.set_cons_succ]
      have hd := dep_succ hy
      have hup := ok.up (i + 1) il
      have hne := ok.need i y hy
      have b1 : b2 (isOp y) = if isOp y = true then 1 else 0 := rfl
      have b2' : b2 (isCl y) = if isCl y = true then 1 else 0 := rfl
      cases y with
      | op =>
        refine ⟨_, rfl, true, rfl, iteT (iteF ?_)⟩
        refine ⟨_, rfl, false, rfl, iteF ?_⟩
        refine ⟨_, rfl, _, rfl, .inr ⟨_, rfl, _, _, rfl, rfl, _, rfl, .inr ⟨_, rfl, _, _, rfl, rfl, ?_⟩⟩⟩
        dsimp only [List.set_cons_zero, List.set_cons_succ]
        rw [← b1, ← b2', ← hd]
        refine ⟨_, rfl, _, rfl, .inr ⟨_, rfl, _, _, rfl, rfl, ?_⟩⟩
        dsimp only [List.set_cons_zero, List.set_cons_succ]
        rw [← b1]
        refine ⟨_, rfl, _, _, rfl, rfl, false, ?_, iteF ⟨_, rfl, _, _, rfl, rfl, _, rfl, _, _, rfl, rfl, _, _, rfl, rfl, false, ?_, iteF ⟨_, _, _, _, _, sm1, rfl⟩⟩⟩
        · exact congrArg V.bl (decide_eq_false (by omega))
        · exact congrArg V.bl (decide_eq_false (by omega))
      | cl n =>
        refine ⟨_, rfl, false, rfl, iteF ⟨_, rfl, _, rfl, b, _, rfl, .inr (Same.sqt sm1 hb), rfl, rfl, false, rfl, iteF ⟨_, rfl, _, rfl, hyo, nofun, true, rfl, iteF ?_⟩⟩⟩
        obtain ⟨hd0, hpre⟩ := ok.cl i n hy
        have i0 : i ≠ 0 := by
          intro z
          rw [z] at hd0
          exact absurd hd0 (by show ¬ (0 : Int) < 0; decide)
        obtain ⟨j, rfl⟩ : ∃ j, i = j + 1 := ⟨i - 1, by omega⟩
        obtain ⟨u, hu⟩ : ∃ u, ws[j]? = some u := ⟨_, List.getElem?_eq_getElem (by omega)⟩
        have hun : u ≠ .op := fun z => hpre j rfl (by rw [hu, z])
        have huo := ok.ok u (List.mem_of_getElem? hu)
        have gx : (wstrs ws)[j]? = some (.str u.str) := by
          unfold wstrs
          rw [List.getElem?_map, hu]
          rfl
        refine ⟨_, rfl, true, rfl, iteT ⟨_, rfl, rfl, false, ?_, iteF ⟨_, rfl, _, rfl, _, _, rfl, rfl, a, _, _, .str u.str, rfl, rfl, Same.sql sm1 ha, ?_, rfl, false, ?_, iteF ?_⟩⟩⟩
        · exact congrArg V.bl (decide_eq_false fun z => by injection z with z; omega)
        · show atI (wstrs ws) (((j + 1 : Nat) : Int) - 1) = _
          rw [show ((j + 1 : Nat) : Int) - 1 = (j : Int) by omega]
          exact atI_nat gx
        · exact congrArg V.bl (decide_eq_false fun z => by injection z with z; exact hun ((is_op u huo).mp z))
        refine ⟨_, rfl, _, rfl, .inr ⟨_, rfl, _, _, rfl, rfl, _, rfl, .inr ⟨_, rfl, _, _, rfl, rfl, ?_⟩⟩⟩
        dsimp only [List.set_cons_zero, List.set_cons_succ]
        rw [← b1, ← b2', ← hd]
        refine ⟨_, rfl, _, rfl, .inr ⟨_, rfl, _, _, rfl, rfl, ?_⟩⟩
        dsimp only [List.set_cons_zero, List.set_cons_succ]
        rw [← b1]
        refine ⟨_, rfl, _, _, rfl, rfl, false, ?_, iteF ⟨_, rfl, _, _, rfl, rfl, _, rfl, _, _, rfl, rfl, _, _, rfl, rfl, false, ?_, iteF ⟨_, _, _, _, _, sm1, rfl⟩⟩⟩
        · exact congrArg V.bl (decide_eq_false (by omega))
        · exact congrArg V.bl (decide_eq_false (by omega))
      | lt c n =>
        refine ⟨_, rfl, false, rfl, iteF ⟨_, rfl, _, rfl, b, _, rfl, .inr (Same.sqt sm1 hb), rfl, rfl, false, rfl, iteF ⟨_, rfl, _, rfl, hyo, nofun, true, rfl, iteF ?_⟩⟩⟩
        refine ⟨_, rfl, false, rfl, iteF ?_⟩
        refine ⟨_, rfl, _, rfl, .inr ⟨_, rfl, _, _, rfl, rfl, _, rfl, .inr ⟨_, rfl, _, _, rfl, rfl, ?_⟩⟩⟩
        dsimp only [List.set_cons_zero, List.set_cons_succ]
        rw [← b1, ← b2', ← hd]
        refine ⟨_, rfl, _, rfl, .inr ⟨_, rfl, _, _, rfl, rfl, ?_⟩⟩
        dsimp only [List.set_cons_zero, List.set_cons_succ]
        rw [← b1]
        refine ⟨_, rfl, _, _, rfl, rfl, false, ?_, iteF ⟨_, rfl, _, _, rfl, rfl, _, rfl, _, _, rfl, rfl, _, _, rfl, rfl, false, ?_, iteF ⟨_, _, _, _, _, sm1, rfl⟩⟩⟩
        · exact congrArg V.bl (decide_eq_false (by omega))
        · exact congrArg V.bl (decide_eq_false (by omega))
    · obtain ⟨z3, z4, z5, z6, z7, sm, rfl⟩ := hp
      have h0 : dep ws (wstrs ws).length = 0 := by rw [len]; exact ok.shut
      refine ⟨_, rfl, _, _, rfl, rfl, false, ?_, iteF (q H' sm)⟩
      show V.bl (decide (dep ws (wstrs ws).length > 0)) = _
      rw [h0]
      rfl
end
end K04P

set_option linter.all false
set_option maxRecDepth 100000
set_option maxHeartbeats 4000000
set_option exponentiation.threshold 3000
/-! programs as trees -/
namespace WM
open PySem PySem.Spec PyProof.Rows L2 TL
/-- the parts of a program: a letter so many times and the rest; inner parts so many times and the rest -/
inductive Ps where
  | nil
  | lf (c n : Nat) (r : Ps)
  | rp (b : Ps) (n : Nat) (r : Ps)
def Ps.app : Ps → Ps → Ps
  | .nil, q => q
  | .lf c n r, q => .lf c n (r.app q)
  | .rp b n r, q => .rp b n (r.app q)
def Ps.words : Ps → List Wd
  | .nil => []
  | .lf c n r => .lt c n :: r.words
  | .rp b n r => .op :: (b.words ++ .cl n :: r.words)
def Ps.size : Ps → Nat
  | .nil => 0
  | .lf _ n r => n + r.size
  | .rp b n r => b.size * n + r.size
def Ps.lev : Ps → Nat
  | .nil => 0
  | .lf _ _ r => r.lev
  | .rp b _ r => max (1 + b.lev) r.lev
def Ps.ok : Ps → Prop
  | .nil => True
  | .lf c n r => (c ∈ six ∧ 1 ≤ n ∧ n ≤ T30) ∧ r.ok
  | .rp b n r => b ≠ .nil ∧ b.ok ∧ (2 ≤ n ∧ n ≤ T30) ∧ r.ok
def Ps.sizes : Ps → List Int
  | .nil => []
  | .lf _ n r => (n : Int) :: r.sizes
  | .rp b n r => ((b.size * n : Nat) : Int) :: r.sizes
def Ps.levs : Ps → List Int
  | .nil => []
  | .lf _ _ r => 0 :: r.levs
  | .rp b _ r => ((1 + b.lev : Nat) : Int) :: r.levs
theorem sizes_sum : ∀ p : Ps, p.sizes.sum = (p.size : Int)
  | .nil => rfl
  | .lf c n r => by
    have := sizes_sum r
    simp only [Ps.sizes, Ps.size, List.sum_cons, this]
    omega
  | .rp b n r => by
    have := sizes_sum r
    simp only [Ps.sizes, Ps.size, List.sum_cons, this]
    omega
theorem levs_fold : ∀ (p : Ps) (a : Int), p.levs.foldl max a = max a (p.lev : Int) ∨ p = .nil
  | .nil, _ => .inr rfl
  | .lf c n r, a => by
    refine .inl ?_
    show r.levs.foldl max (max a 0) = max a (r.lev : Int)
    rcases levs_fold r (max a 0) with h | h
    · rw [h]
      omega
    · subst h
      show max a 0 = max a ((0 : Nat) : Int)
      rfl
  | .rp b n r, a => by
    refine .inl ?_
    show r.levs.foldl max (max a ((1 + b.lev : Nat) : Int)) = max a ((max (1 + b.lev) r.lev : Nat) : Int)
    rcases levs_fold r (max a ((1 + b.lev : Nat) : Int)) with h | h
    · rw [h]
      omega
    · subst h
      show max a _ = max a ((max (1 + b.lev) 0 : Nat) : Int)
      omega
theorem levs_max (p : Ps) : RT.maxI 0 p.levs = (p.lev : Int) := by
  cases p with
  | nil => rfl
  | lf c n r =>
    show r.levs.foldl max 0 = (r.lev : Int)
    rcases levs_fold r 0 with h | h
    · rw [h]; omega
    · subst h; rfl
  | rp b n r =>
    show r.levs.foldl max ((1 + b.lev : Nat) : Int) = ((max (1 + b.lev) r.lev : Nat) : Int)
    rcases levs_fold r ((1 + b.lev : Nat) : Int) with h | h
    · rw [h]; omega
    · subst h
      show ((1 + b.lev : Nat) : Int) = ((max (1 + b.lev) 0 : Nat) : Int)
      omega
theorem sizes_len (p : Ps) : p.sizes.length = p.levs.length := by
  induction p with
  | nil => rfl
  | lf c n r ih => simp [Ps.sizes, Ps.levs, ih]
  | rp b n r _ ih => simp [Ps.sizes, Ps.levs, ih]
theorem app_words (p q : Ps) : (p.app q).words = p.words ++ q.words := by
  induction p with
  | nil => rfl
  | lf c n r ih => simp [Ps.app, Ps.words, ih]
  | rp b n r _ ih => simp [Ps.app, Ps.words, ih]
theorem app_nil (p : Ps) : p.app .nil = p := by
  induction p with
  | nil => rfl
  | lf c n r ih => simp [Ps.app, ih]
  | rp b n r _ ih => simp [Ps.app, ih]
theorem app_assoc (p q r : Ps) : (p.app q).app r = p.app (q.app r) := by
  induction p with
  | nil => rfl
  | lf c n r ih => simp [Ps.app, ih]
  | rp b n r _ ih => simp [Ps.app, ih]
/-- a program of so many words has only so many steps -/
theorem size_le (p : Ps) (h : p.ok) : p.size ≤ p.words.length * 2 ^ (100 * (p.lev + 1)) := by
  have t : T30 ≤ 2 ^ 100 := by decide
  induction p with
  | nil => exact Nat.zero_le _
  | lf c n r ih =>
    have h1 := ih h.2
    have h2 : n ≤ 2 ^ 100 := Nat.le_trans h.1.2.2 t
    have h3 : (2 : Nat) ^ 100 ≤ 2 ^ (100 * (r.lev + 1)) := Nat.pow_le_pow_right (by decide) (by omega)
    simp only [Ps.size, Ps.words, Ps.lev, List.length_cons, Nat.add_mul, Nat.one_mul]
    omega
  | rp b n r ihb ihr =>
    obtain ⟨_, hb, hn, hr⟩ := h
    have h1 := ihb hb
    have h2 := ihr hr
    have h3 : n ≤ 2 ^ 100 := Nat.le_trans hn.2 t
    have e1 : b.size * n ≤ (b.words.length * 2 ^ (100 * (b.lev + 1))) * 2 ^ 100 := Nat.mul_le_mul h1 h3
    rw [Nat.mul_assoc, ← Nat.pow_add] at e1
    have h4 : (2 : Nat) ^ (100 * (b.lev + 1) + 100) ≤ 2 ^ (100 * (max (1 + b.lev) r.lev + 1)) := Nat.pow_le_pow_right (by decide) (by omega)
    have h5 : (2 : Nat) ^ (100 * (r.lev + 1)) ≤ 2 ^ (100 * (max (1 + b.lev) r.lev + 1)) := Nat.pow_le_pow_right (by decide) (by omega)
    have e2 := Nat.le_trans e1 (Nat.mul_le_mul_left b.words.length h4)
    have e3 := Nat.le_trans h2 (Nat.mul_le_mul_left r.words.length h5)
    simp only [Ps.size, Ps.words, Ps.lev, List.length_cons, List.length_append, Nat.add_mul, Nat.one_mul]
    generalize 2 ^ (100 * (max (1 + b.lev) r.lev + 1)) = X at *
    omega
section
variable (K : PySem.W.Frag) (C : Addr)
/-- the objects of the parts -/
inductive PartsAt (H : Hp) : List V → Ps → Prop
  | nil : PartsAt H [] .nil
  | lf {a d e : Addr} {c n : Nat} {vs : List V} {r : Ps} : H a = some (.ins C d [("letter", .str ⟨#[c]⟩), ("times", .int (n : Int)), ("inner", .ref e), ("unit", .int 1), ("size", .int (n : Int)), ("levels", .int 0)]) → H e = some (.tup []) → PartsAt H vs r → PartsAt H (.ref a :: vs) (.lf c n r)
  | rp {a d e : Addr} {n : Nat} {us vs : List V} {b r : Ps} : H a = some (.ins C d [("letter", .str ""), ("times", .int (n : Int)), ("inner", .ref e), ("unit", .int (b.size : Int)), ("size", .int ((b.size * n : Nat) : Int)), ("levels", .int ((1 + b.lev : Nat) : Int))]) → H e = some (.tup us) → PartsAt H us b → PartsAt H vs r → PartsAt H (.ref a :: vs) (.rp b n r)
variable {K C}
theorem PartsAt.same {H H' : Hp} {vs : List V} {p : Ps} (h : PartsAt C H vs p) (s : ∀ b o, H b = some o → H' b = some o) : PartsAt C H' vs p := by
  induction h with
  | nil => exact .nil
  | lf h1 h2 _ ih => exact .lf (s _ _ h1) (s _ _ h2) ih
  | rp h1 h2 _ _ ih1 ih2 => exact .rp (s _ _ h1) (s _ _ h2) ih1 ih2
theorem PartsAt.app {H : Hp} {vs us : List V} {p q : Ps} (h : PartsAt C H vs p) (k : PartsAt C H us q) : PartsAt C H (vs ++ us) (p.app q) := by
  induction h with
  | nil => exact k
  | lf h1 h2 _ ih => exact .lf h1 h2 ih
  | rp h1 h2 h3 _ _ ih2 => exact .rp h1 h2 h3 ih2
theorem PartsAt.len {H : Hp} {vs : List V} {p : Ps} (h : PartsAt C H vs p) : vs.length = p.sizes.length := by
  induction h with
  | nil => rfl
  | lf _ _ _ ih => simp [Ps.sizes, ih]
  | rp _ _ _ _ _ ih => simp [Ps.sizes, ih]
/-- what a part's fields tell -/
theorem PartsAt.get {H : Hp} {vs : List V} {p : Ps} (h : PartsAt C H vs p) : ∀ (i : Nat) (x : V), vs[i]? = some x → ∃ a d fs z l, x = .ref a ∧ H a = some (.ins C d fs) ∧ fs.lookup ("size" : Str) = some (.int z) ∧ p.sizes[i]? = some z ∧ fs.lookup ("levels" : Str) = some (.int l) ∧ p.levs[i]? = some l := by
  induction h with
  | nil => intro i x e; cases e
  | lf h1 h2 _ ih =>
    intro i x e
    cases i with
    | zero => cases e; exact ⟨_, _, _, _, _, rfl, h1, rfl, rfl, rfl, rfl⟩
    | succ i => exact ih i x e
  | rp h1 h2 _ _ _ ih =>
    intro i x e
    cases i with
    | zero => cases e; exact ⟨_, _, _, _, _, rfl, h1, rfl, rfl, rfl, rfl⟩
    | succ i => exact ih i x e
end
theorem sizes_le (p : Ps) : p.sizes.length ≤ p.words.length := by
  induction p with
  | nil => exact Nat.le_refl _
  | lf c n r ih => simp only [Ps.sizes, Ps.words, List.length_cons]; omega
  | rp b n r _ ih => simp only [Ps.sizes, Ps.words, List.length_cons, List.length_append]; omega
end WM

set_option Elab.async false
set_option linter.all false
set_option maxRecDepth 100000
set_option maxHeartbeats 4000000
namespace K04P
open PySem PySem.Spec PyProof.Rows L2 RT WM K04 TL
abbrev NSz : List Str := Nsize_of ++ [("part" : Str)]
theorem scSz : FnScope NSz ["parts"] (defScope ssize_of) := ⟨rfl, rfl, rfl, by decide +kernel, rfl, by decide +kernel, by decide +kernel⟩
abbrev NLv : List Str := Nlevels_of ++ [("part" : Str)]
theorem scLv : FnScope NLv ["parts"] (defScope slevels_of) := ⟨rfl, rfl, rfl, by decide +kernel, rfl, by decide +kernel, by decide +kernel⟩
section
variable {P : Program} {w : World} {K : PySem.W.Frag} {mg : Str → Option Value} {base : Heap}
def spSize (K : PySem.W.Frag) : Sp := fun vs H Q _ => ∃ a us p, vs = [.ref a] ∧ SqT K H a us ∧ PartsAt (He.ga K "Part") H us p ∧ p.sizes.length ≤ 1000 ∧ ∀ H', Same H H' → Q (.int (p.size : Int)) H'
theorem ok_size (D : Ds K) (T : Tx K mg) : FnOk P w K mg base CX0 1 (dsize_of.adr K) D.fd_size_of ["parts"] (spSize K) := by
  refine D.F_size_of.ok scSz (fun vs H Q E h => ?_) (fun cdv A outer s H vs Q E hr h => ?_)
  · obtain ⟨a, us, p, rfl, _⟩ := h
    rfl
  · obtain ⟨a, us, p, rfl, ha, hp, hl, q⟩ := h
    have nd := scSz.nd
    refine ⟨_, PSs.nox (pss_one (ps_ret (pe_callB (cr_sum rfl) (by rfl) T.z_sum (by decide +kernel) (pa_cons (pe_lc (own := [(("part" : Str), 1)]) (g := gName 1) (tt := tYes) (te := tFld K (tVar 1) "size") rfl nd (pi_tup (pv 0)) (blkOk_by (own := [(("part" : Str), 1)]) (N := NSz) (sc := defScope ssize_of) (by decide +kernel))
      (fun _ _ _ _ _ => pg_name (i := 1) nd rfl (Or.inl rfl)) (fun _ _ _ _ _ => pts_nil) (fun _ _ _ _ _ => pe_fld (pv 1) rfl)) pa_nil)))), ?_⟩
    refine ⟨_, rfl, a, rfl, ⟨_, ha⟩, fun Dd hD => ?_⟩
    have s0 := same_new (o := .lst []) hD
    have lz : p.sizes.length ≤ sizeLine := Nat.le_trans hl (by decide)
    refine lc_tup (K := K) (a := a) (xs := us) (fun i H' => Same H H' ∧ H' Dd = some (.lst ((p.sizes.take i).map V.int))) ⟨s0, upd_same⟩ (fun i H' hi hp' => Same.sqt hp'.1 ha) (fun i x H' hx hp' => ?_) fun H' hp' => ?_
    · obtain ⟨sm, eD⟩ := hp'
      obtain ⟨b, d, fs, z, l, rfl, eb, ez, gz, _, _⟩ := hp.get i x hx
      refine ⟨rfl, _, rfl, b, _, d, fs, .int z, rfl, sm _ _ eb, T.c_Part, T.n_Part_size, ez, _, eD, ?_, ?_, ?_⟩
      · rw [List.length_map, List.length_take]
        have : i < p.sizes.length := (List.getElem?_eq_some_iff.mp gz).1
        omega
      · intro b' o' e'
        have := sm _ _ e'
        rw [upd_ne (ne_of_none e' hD)]
        exact this
      · rw [upd_same, List.take_succ, gz, List.map_append]
        rfl
    · obtain ⟨sm, eD⟩ := hp'
      have e : us.length = p.sizes.length := hp.len
      rw [e, List.take_length] at eD
      refine ⟨Dd, p.sizes, rfl, lstL eD, ?_⟩
      rw [sizes_sum]
      exact q _ sm
def spLevs (K : PySem.W.Frag) : Sp := fun vs H Q _ => ∃ a us p, vs = [.ref a] ∧ SqT K H a us ∧ PartsAt (He.ga K "Part") H us p ∧ p.sizes.length ≤ 1000 ∧ ∀ H', Same H H' → Q (.int (p.lev : Int)) H'
theorem ok_levs (D : Ds K) (T : Tx K mg) : FnOk P w K mg base CX0 1 (dlevels_of.adr K) D.fd_levels_of ["parts"] (spLevs K) := by
  refine D.F_levels_of.ok scLv (fun vs H Q E h => ?_) (fun cdv A outer s H vs Q E hr h => ?_)
  · obtain ⟨a, us, p, rfl, _⟩ := h
    rfl
  · obtain ⟨a, us, p, rfl, ha, hp, hl, q⟩ := h
    have nd := scLv.nd
    refine ⟨_, PSs.nox (pss_one (ps_ret (pe_callBK (crk_maxD rfl hr.units) (by rfl) T.z_max (by decide +kernel) (pa_cons (pe_lc (own := [(("part" : Str), 1)]) (g := gName 1) (tt := tYes) (te := tFld K (tVar 1) "levels") rfl nd (pi_tup (pv 0)) (blkOk_by (own := [(("part" : Str), 1)]) (N := NLv) (sc := defScope slevels_of) (by decide +kernel))
      (fun _ _ _ _ _ => pg_name (i := 1) nd rfl (Or.inl rfl)) (fun _ _ _ _ _ => pts_nil) (fun _ _ _ _ _ => pe_fld (pv 1) rfl)) pa_nil) (pk_cons pe_int pk_nil)))), ?_⟩
    refine ⟨_, rfl, a, rfl, ⟨_, ha⟩, fun Dd hD => ?_⟩
    have s0 := same_new (o := .lst []) hD
    have lz : p.sizes.length ≤ sizeLine := Nat.le_trans hl (by decide)
    refine lc_tup (K := K) (a := a) (xs := us) (fun i H' => Same H H' ∧ H' Dd = some (.lst ((p.levs.take i).map V.int))) ⟨s0, upd_same⟩ (fun i H' hi hp' => Same.sqt hp'.1 ha) (fun i x H' hx hp' => ?_) fun H' hp' => ?_
    · obtain ⟨sm, eD⟩ := hp'
      obtain ⟨b, d, fs, z, l, rfl, eb, _, _, ez, gz⟩ := hp.get i x hx
      refine ⟨rfl, _, rfl, b, _, d, fs, .int l, rfl, sm _ _ eb, T.c_Part, T.n_Part_levels, ez, _, eD, ?_, ?_, ?_⟩
      · rw [List.length_map, List.length_take]
        have : i < p.levs.length := (List.getElem?_eq_some_iff.mp gz).1
        rw [sizes_len] at lz
        omega
      · intro b' o' e'
        have := sm _ _ e'
        rw [upd_ne (ne_of_none e' hD)]
        exact this
      · rw [upd_same, List.take_succ, gz, List.map_append]
        rfl
    · obtain ⟨sm, eD⟩ := hp'
      have e : us.length = p.levs.length := hp.len.trans (sizes_len p)
      rw [e, List.take_length] at eD
      refine ⟨Dd, p.levs, 0, rfl, rfl, lstL eD, ?_⟩
      rw [levs_max]
      exact q _ sm
end
end K04P

set_option Elab.async false
set_option linter.all false
set_option maxRecDepth 100000
set_option maxHeartbeats 4000000
set_option exponentiation.threshold 3000
namespace K04P
open PySem PySem.Spec PyProof.Rows L2 RT WM K04 TL
def unitOf : Ps → Nat
  | .nil => 1
  | p => p.size
def levOf : Ps → Nat
  | .nil => 0
  | p => 1 + p.lev
theorem partsKeep {C a d : Addr} {H H' : Hp} {us : List V} {p : Ps} (h : PartsAt C H us p) (ea : H a = some (.ins C d [])) (k : ∀ b o, b ≠ a → H b = some o → H' b = some o) : PartsAt C H' us p := by
  induction h with
  | nil => exact .nil
  | lf h1 h2 _ ih =>
    refine .lf (k _ _ (fun z => ?_) h1) (k _ _ (fun z => ?_) h2) ih
    · rw [z, ea] at h1; cases h1
    · rw [z, ea] at h2; cases h2
  | rp h1 h2 _ _ ih1 ih2 =>
    refine .rp (k _ _ (fun z => ?_) h1) (k _ _ (fun z => ?_) h2) ih1 ih2
    · rw [z, ea] at h1; cases h1
    · rw [z, ea] at h2; cases h2
theorem isE_false {us : List V} {C : Addr} {H : Hp} {p : Ps} (h : PartsAt C H us p) : (!us.isEmpty) = (match p with | .nil => false | _ => true) := by
  cases h <;> rfl
section
variable {P : Program} {w : World} {K : PySem.W.Frag} {mg : Str → Option Value} {base : Heap}
def spPart (K : PySem.W.Frag) : Sp := fun vs H Q _ => ∃ (a d e : Addr) (l : Str) (n : Nat) (us : List V) (b : Ps), vs = [.ref a, .str l, .int (n : Int), .ref e] ∧ n ≤ T30 ∧ H a = some (.ins (He.ga K "Part") d []) ∧ H e = some (.tup us) ∧ PartsAt (He.ga K "Part") H us b ∧ b.sizes.length ≤ 1000 ∧ b.size < 2 ^ 2000 ∧
  ∀ H', (∀ x o, x ≠ a → H x = some o → H' x = some o) → H' a = some (.ins (He.ga K "Part") d [("letter", .str l), ("times", .int (n : Int)), ("inner", .ref e), ("unit", .int (unitOf b : Int)), ("size", .int ((unitOf b * n : Nat) : Int)), ("levels", .int (levOf b : Int))]) → Q .non H'
theorem ok_part (D : Ds K) (T : Tx K mg) : FnOk P w K mg base CX0 2 (dPart_init.adr K) D.fd_Part_init ["self", "letter", "times", "inner"] (spPart K) := by
  have GS : FnOk P w K mg base CX0 1 _ _ _ (spSize K) := ok_size D T
  have GL : FnOk P w K mg base CX0 1 _ _ _ (spLevs K) := ok_levs D T
  refine D.F_Part_init.ok scPart_init (fun vs H Q E h => ?_) (fun cdv A outer s H vs Q E hr h => ?_)
  · obtain ⟨a, d, e, l, n, us, b, rfl, _⟩ := h
    rfl
  · obtain ⟨a, d, e, l, n, us, b, rfl, hn, ea, ee, hp, hl, hs, q⟩ := h
    refine ⟨_, PSs.nox (pss_cons (ps_fld (pv 0) (pv 1) rfl) (pss_cons (ps_fld (pv 0) (pv 2) rfl) (pss_cons (ps_fld (pv 0) (pv 3) rfl)
      (pss_cons (ps_fld (pv 0) (pe_ifExp (pt_truth (pv 3) (by intro _; rfl)) (pe_call GS hr (by rfl) T.g_size_of D.F_size_of.kp (b_size_of D) .nil pass0 (pa_cons (pv 3) pa_nil)) pe_int) rfl)
      (pss_cons (ps_fld (pv 0) (pe_op op_mulW (pe_fld (pv 0) rfl) (pv 2)) rfl)
      (pss_one (ps_fld (pv 0) (pe_ifExp (pt_truth (pv 3) (by intro _; rfl)) (pe_op op_add pe_int (pe_call GL hr (by rfl) T.g_levels_of D.F_levels_of.kp (b_levels_of D) .nil pass0 (pa_cons (pv 3) pa_nil))) pe_int) rfl))))))), ?_⟩
    have nea : e ≠ a := fun z => by
      rw [z, ea] at ee
      cases ee
    refine ⟨_, rfl, _, rfl, a, _, d, _, rfl, ea, T.c_Part, T.n_Part_letter, by show 0 < 1000; decide, ?_⟩
    refine ⟨_, rfl, _, rfl, a, _, d, _, rfl, upd_same, T.c_Part, T.n_Part_times, by show 1 < 1000; decide, ?_⟩
    refine ⟨_, rfl, _, rfl, a, _, d, _, rfl, upd_same, T.c_Part, T.n_Part_inner, by show 2 < 1000; decide, ?_⟩
    have k3 : ∀ x o, x ≠ a → H x = some o → (upd (upd (upd H a (.ins (He.ga K "Part") d [("letter", .str l)])) a (.ins (He.ga K "Part") d [("letter", .str l), ("times", .int (n : Int))])) a (.ins (He.ga K "Part") d [("letter", .str l), ("times", .int (n : Int)), ("inner", .ref e)])) x = some o := fun x o hx h => by
      rw [upd_ne hx, upd_ne hx, upd_ne hx]
      exact h
    have a3 : (upd (upd (upd H a (.ins (He.ga K "Part") d [("letter", .str l)])) a (.ins (He.ga K "Part") d [("letter", .str l), ("times", .int (n : Int))])) a (.ins (He.ga K "Part") d [("letter", .str l), ("times", .int (n : Int)), ("inner", .ref e)])) a = some (.ins (He.ga K "Part") d [("letter", .str l), ("times", .int (n : Int)), ("inner", .ref e)]) := upd_same
    have p3 := partsKeep hp ea k3
    have e3 := k3 e _ nea ee
    have n100 : ((n : Int)).natAbs < 2 ^ 101 := by
      have t : T30 ≤ 2 ^ 100 := by decide
      have t2 : (2 : Nat) ^ 100 < 2 ^ 101 := by decide
      omega
    have isE := isE_false p3
    by_cases hb : b = .nil
    · subst hb
      have ie : (!us.isEmpty) = false := isE
      refine ⟨_, rfl, false, .inr (.inl ⟨us, tupT e3, ie.symm⟩), iteF ⟨_, rfl, a, _, d, _, rfl, upd_same, T.c_Part, T.n_Part_unit, by show 3 < 1000; decide, ?_⟩⟩
      refine ⟨_, rfl, a, _, d, _, .int 1, rfl, upd_same, T.c_Part, T.n_Part_unit, rfl, _, rfl, _, _, rfl, rfl, wide_mul (a := 10) (b := 101) (by decide) n100 (by decide) (by decide) (by decide), _, rfl, a, _, d, _, rfl, upd_same, T.c_Part, T.n_Part_size, by show 4 < 1000; decide, ?_⟩
      have e5 : ∀ o4 o5, upd (upd (upd (upd (upd H a (.ins (He.ga K "Part") d [("letter", .str l)])) a (.ins (He.ga K "Part") d [("letter", .str l), ("times", .int (n : Int))])) a (.ins (He.ga K "Part") d [("letter", .str l), ("times", .int (n : Int)), ("inner", .ref e)])) a o4) a o5 e = some (.tup us) := fun o4 o5 => by
        rw [upd_ne nea, upd_ne nea]
        exact e3
      refine ⟨_, rfl, false, .inr (.inl ⟨us, tupT (e5 _ _), ie.symm⟩), iteF ⟨_, rfl, a, _, d, _, rfl, upd_same, T.c_Part, T.n_Part_levels, by show 5 < 1000; decide, ?_⟩⟩
      refine q _ (fun x o hx h => ?_) ?_
      · rw [upd_ne hx, upd_ne hx, upd_ne hx]
        exact k3 x o hx h
      · rw [upd_same]
        show some (HO.ins _ d [_, _, _, _, ("size", .int (1 * (n : Int))), _]) = some (HO.ins _ d [_, _, _, _, ("size", .int ((1 * n : Nat) : Int)), _])
        rw [Int.one_mul, Nat.one_mul]
        rfl
    · have ie : (!us.isEmpty) = true := by
        rw [isE]
        cases b with
        | nil => exact absurd rfl hb
        | lf c m r => rfl
        | rp b m r => rfl
      have hu : unitOf b = b.size := by
        cases b with
        | nil => exact absurd rfl hb
        | lf c m r => rfl
        | rp b m r => rfl
      have hv : levOf b = 1 + b.lev := by
        cases b with
        | nil => exact absurd rfl hb
        | lf c m r => rfl
        | rp b m r => rfl
      refine ⟨_, rfl, true, .inr (.inl ⟨us, tupT e3, ie.symm⟩), iteT ⟨_, rfl, e, us, b, rfl, tupT e3, p3, hl, fun H4 s4 => ?_⟩⟩
      have a4 := s4 _ _ a3
      refine ⟨_, rfl, a, _, d, _, rfl, a4, T.c_Part, T.n_Part_unit, by show 3 < 1000; decide, ?_⟩
      refine ⟨_, rfl, a, _, d, _, .int (b.size : Int), rfl, upd_same, T.c_Part, T.n_Part_unit, rfl, _, rfl, _, _, rfl, rfl, wide_mul (a := 2000) (b := 101) (by omega) n100 (by decide) (by decide) (by decide), _, rfl, a, _, d, _, rfl, upd_same, T.c_Part, T.n_Part_size, by show 4 < 1000; decide, ?_⟩
      have k5 : ∀ o4 o5 x o, x ≠ a → H x = some o → upd (upd H4 a o4) a o5 x = some o := fun o4 o5 x o hx h => by
        rw [upd_ne hx, upd_ne hx]
        exact s4 _ _ (k3 x o hx h)
      refine ⟨_, rfl, true, .inr (.inl ⟨us, tupT (k5 _ _ e _ nea ee), ie.symm⟩), iteT ⟨_, rfl, e, us, b, rfl, tupT (k5 _ _ e _ nea ee), partsKeep hp ea (k5 _ _), hl, fun H6 s6 => ?_⟩⟩
      refine ⟨_, _, rfl, rfl, _, rfl, a, _, d, _, rfl, s6 _ _ upd_same, T.c_Part, T.n_Part_levels, by show 5 < 1000; decide, ?_⟩
      refine q _ (fun x o hx h => ?_) ?_
      · rw [upd_ne hx]
        exact s6 _ _ (k5 _ _ x o hx h)
      · rw [upd_same, hu, hv]
        show some (HO.ins _ d [_, _, _, _, ("size", .int ((b.size : Int) * (n : Int))), ("levels", .int (1 + (b.lev : Int)))]) = some (HO.ins _ d [_, _, _, _, ("size", .int ((b.size * n : Nat) : Int)), ("levels", .int ((1 + b.lev : Nat) : Int))])
        rw [Int.natCast_mul, Int.natCast_add]
        rfl
end
end K04P

set_option Elab.async false
set_option linter.all false
set_option maxRecDepth 100000
set_option maxHeartbeats 4000000
set_option exponentiation.threshold 3000
namespace K04P
open PySem PySem.Spec PyProof.Rows L2 RT WM K04 TL
theorem getAt {A B t : List Wd} {y : Wd} (h : B = y :: t) : (wstrs (A ++ B))[A.length]? = some (.str y.str) := by
  subst h
  unfold wstrs
  rw [List.getElem?_map, List.getElem?_append_right (Nat.le_refl _), Nat.sub_self]
  rfl
theorem lt_head (c n : Nat) : ((Wd.lt c n).str.cps.toList)[0]? = some c := by
  show (if n = 1 then [c] else c :: numL n)[0]? = some c
  split <;> rfl
theorem partsUpd {C l : Addr} {H : Hp} {us ys : List V} {o : HO} {p : Ps} (h : PartsAt C H us p) (el : H l = some (.lst ys)) : PartsAt C (upd H l o) us p := by
  have k : ∀ b u, (∀ zs, u ≠ .lst zs) → H b = some u → upd H l o b = some u := fun b u hu h => by
    rw [upd_ne]
    · exact h
    · intro z
      rw [z, el] at h
      exact hu ys (Option.some.inj h).symm
  induction h with
  | nil => exact .nil
  | lf h1 h2 _ ih => exact .lf (k _ _ (fun _ => nofun) h1) (k _ _ (fun _ => nofun) h2) ih
  | rp h1 h2 _ _ ih1 ih2 => exact .rp (k _ _ (fun _ => nofun) h1) (k _ _ (fun _ => nofun) h2) ih1 ih2
theorem app_ok {p q : Ps} (hp : p.ok) (hq : q.ok) : (p.app q).ok := by
  induction p with
  | nil => exact hq
  | lf c n r ih => exact ⟨hp.1, ih hp.2⟩
  | rp b n r _ ih => exact ⟨hp.1, hp.2.1, hp.2.2.1, ih hp.2.2.2⟩
theorem app_lev (p q : Ps) : (p.app q).lev = max p.lev q.lev := by
  induction p with
  | nil => exact (Nat.zero_max _).symm
  | lf c n r ih => exact ih
  | rp b n r _ ih =>
    show max (1 + b.lev) (r.app q).lev = max (max (1 + b.lev) r.lev) q.lev
    rw [ih, Nat.max_assoc]
theorem size_bd {p : Ps} (h : p.ok) (hl : p.lev ≤ 12) (hw : p.words.length ≤ 1000) : p.size < 2 ^ 2000 := by
  have h1 := size_le p h
  have h2 : (2 : Nat) ^ (100 * (p.lev + 1)) ≤ 2 ^ 1300 := Nat.pow_le_pow_right (by decide) (by omega)
  have h3 : p.words.length * 2 ^ (100 * (p.lev + 1)) ≤ 1000 * 2 ^ 1300 := Nat.mul_le_mul hw h2
  have h4 : 1000 * (2 : Nat) ^ 1300 < 2 ^ 2000 := by decide +kernel
  omega
section
variable {P : Program} {w : World} {K : PySem.W.Frag} {mg : Str → Option Value} {base : Heap}
def spPF (K : PySem.W.Frag) (d : Nat) : Sp := fun vs H Q _ => ∃ (a : Addr) (pre rest : List Wd) (p : Ps), vs = [.ref a, .int (pre.length : Int)] ∧ SqT K H a (wstrs (pre ++ p.words ++ rest)) ∧ p.ok ∧ p.lev < d ∧ p.lev ≤ 12 ∧ (pre ++ p.words ++ rest).length ≤ 1000 ∧ (∀ x ∈ rest.head?, ∃ n, x = .cl n ∧ x.ok) ∧
  ∀ r t us H', Same H H' → H' r = some (.tup [.ref t, .int ((pre.length + p.words.length : Nat) : Int)]) → H' t = some (.tup us) → PartsAt (He.ga K "Part") H' us p → Q (.ref r) H'
theorem ok_pf (D : Ds K) (T : Tx K mg) : ∀ d, FnOk P w K mg base CX0 (4 + d) (d_parts_from.adr K) D.fd__parts_from ["words", "start"] (spPF K d) := by
  have GN : FnOk P w K mg base CX0 1 _ _ _ spNumOf := ok_numof D T
  have GP : FnOk P w K mg base CX0 2 _ _ _ (spPart K) := ok_part D T
  intro d
  induction d with
  | zero =>
    refine D.F__parts_from.ok sc_parts_from (fun vs H Q E h => ?_) (fun cdv A outer s H vs Q E hr h => ?_)
    · obtain ⟨a, pre, rest, p, rfl, _⟩ := h
      rfl
    · obtain ⟨a, pre, rest, p, rfl, ha, hp, hd, _⟩ := h
      exact absurd hd (Nat.not_lt_zero _)
  | succ d ih =>
  refine D.F__parts_from.ok sc_parts_from (fun vs H Q E h => ?_) (fun cdv A outer s H vs Q E hr h => ?_)
  · obtain ⟨a, pre, rest, p, rfl, _⟩ := h
    rfl
  · obtain ⟨a, pre, rest, p, rfl, ha, hp, hd, hd12, hlen, hrest, q⟩ := h
    have nd := sc_parts_from.nd
    have hr' : Room (4 + d) _ := hr
    refine ⟨_, PSs.nox (pss_cons (ps_set (i := 2) nd rfl (.inl rfl) (pe_lst pa_nil))
      (pss_cons (ps_set (i := 3) nd rfl (.inl rfl) (pv 1))
      (pss_cons (ps_while PassesOwn.never (PW.pt (pw_and (pt_cmpR op_lt (pv 3) (pe_callB call_len_seq (by rfl) T.z_len PySem.boot_len (pa_cons (pv 0) pa_nil)) (nomark _))
            (pw_and1 (pt_not (pt_val (pe_m1 PySem.F.slot_str_startswith PySem.F.type_str_startswith mt_startswith (pe_ix ix_tup (pv 0) (pv 3) (fun _ _ => rfl)) pe_str))))))
        (pss_cons (ps_if (pt_cmpR op_eq (pe_ix ix_tup (pv 0) (pv 3) (fun _ _ => rfl)) pe_str (nomark _))
            (pss_cons (ps_asg (pe_call ih (hr'.mono (by omega)) (by rfl) T.g__parts_from D.F__parts_from.kp (b__parts_from D) .nil pass0 (pa_cons (pv 0) (pa_cons (pe_op op_add (pv 3) pe_int) pa_nil))) (pg_tup (by rfl) (pgs_cons (pg_name (i := 4) nd rfl (.inl rfl)) (pgs_cons (pg_name (i := 3) nd rfl (.inl rfl)) pgs_nil))))
              (pss_one (ps_expr (pe_bm PySem.F.plainAttrs_list PySem.F.slot_list_append PySem.F.type_list_append mt_append (pv 2) (pa_cons (pe_make T.k_Part GP (hr'.mono (by omega)) (by rfl) T.g_Part (b_Part_init D) .nil pass0 (pa_cons pe_str (pa_cons (pe_call GN (hr'.mono (by omega)) (by rfl) T.g_number_of D.F_number_of.kp (b_number_of D) .nil pass0 (pa_cons (pe_ix ix_tup (pv 0) (pv 3) (fun _ _ => rfl)) pa_nil)) (pa_cons (pv 4) pa_nil)))) pa_nil)))))
            (pss_one (ps_expr (pe_bm PySem.F.plainAttrs_list PySem.F.slot_list_append PySem.F.type_list_append mt_append (pv 2) (pa_cons (pe_make T.k_Part GP (hr'.mono (by omega)) (by rfl) T.g_Part (b_Part_init D) .nil pass0 (pa_cons (pe_ix ix_str (pe_ix ix_tup (pv 0) (pv 3) (fun _ _ => rfl)) pe_int (fun _ _ => rfl)) (pa_cons (pe_call GN (hr'.mono (by omega)) (by rfl) T.g_number_of D.F_number_of.kp (b_number_of D) .nil pass0 (pa_cons (pe_ix ix_tup (pv 0) (pv 3) (fun _ _ => rfl)) pa_nil)) (pa_cons (pe_tup pa_nil) pa_nil)))) pa_nil)))))
          (pss_one (ps_set (i := 3) nd rfl (.inl rfl) (pe_op op_add (pv 3) pe_int)))))
      (pss_one (ps_ret (pe_tup (pa_cons (pe_callTy call_tuple_of (by rfl) T.z_tuple (by decide +kernel) (pa_cons (pv 2) pa_nil)) (pa_cons (pv 3) pa_nil)))))))), ?_⟩
    refine ⟨by show 0 ≤ sizeLine; decide, fun l hl => ⟨_, rfl, ?_⟩⟩
    have sl := same_new (o := .lst []) hl
    refine ⟨fun m σ H' => ∃ p1 p2 us z4, p = p1.app p2 ∧ p1.ok ∧ p2.ok ∧ m = p2.words.length ∧ Same H H' ∧ H' l = some (.lst us) ∧ PartsAt (He.ga K "Part") H' us p1 ∧ σ = [some (.ref a), some (.int (pre.length : Int)), some (.ref l), some (.int (((pre ++ p1.words).length : Nat) : Int)), z4],
      ⟨_, .nil, p, [], none, rfl, trivial, hp, rfl, sl, upd_same, .nil, by rw [show pre ++ Ps.words .nil = pre from List.append_nil _]; rfl⟩, fun m σ H' h => ?_⟩
    obtain ⟨p1, p2, us, z4, rfl, ok1, ok2, rfl, sm, el, hP, rfl⟩ := h
    have full : pre ++ (p1.app p2).words ++ rest = (pre ++ p1.words) ++ (p2.words ++ rest) := by
      rw [app_words]
      simp only [List.append_assoc]
    rw [full] at ha hlen
    have ha' := Same.sqt sm ha
    have l1000 : (wstrs ((pre ++ p1.words) ++ (p2.words ++ rest))).length = (pre ++ p1.words).length + (p2.words ++ rest).length := by
      unfold wstrs
      rw [List.length_map, List.length_append]
    have exit : ∀ z, p2 = .nil → (tRet (tTup (tCons (tCB (fun xs H Q => ∃ p ys, xs = [.ref p] ∧ ((SqL K H p ys ∧ ∀ l, H l = none → Q (.ref l) (upd H l (.tup ys))) ∨ (SqT K H p ys ∧ Q (.ref p) H))) (tCons (tVar 2) tNil)) (tCons (tVar 3) tNil)))) { nx := fun x H' => Q V.non H', rt := Q } [some (.ref a), some (.int (pre.length : Int)), some (.ref l), some (.int (((pre ++ p1.words).length : Nat) : Int)), z] H' := by
      intro z e
      subst e
      refine ⟨_, rfl, l, us, rfl, .inl ⟨lstL el, fun t ht => ⟨_, rfl, by show 2 ≤ sizeLine; decide, fun r hr2 => ?_⟩⟩⟩
      have st := same_new (o := .tup us) ht
      have sr := same_new (o := .tup [.ref t, .int (((pre ++ p1.words).length : Nat) : Int)]) hr2
      rw [app_nil] at q
      refine q r t us _ (sm.trans (st.trans sr)) ?_ (sr _ _ upd_same) (hP.same (st.trans sr))
      rw [upd_same, List.length_append]
    cases p2 with
    | nil =>
      cases rest with
      | nil =>
        refine ⟨_, rfl, _, rfl, a, _, rfl, .inr ha', _, _, rfl, rfl, false, ?_, iteF (iteF (exit _ rfl))⟩
        rw [l1000]
        exact congrArg V.bl (decide_eq_false (by simp [Ps.words]))
      | cons x rest =>
        obtain ⟨n, rfl, hx⟩ := hrest x rfl
        have g := getAt (A := pre ++ p1.words) (B := Ps.words .nil ++ .cl n :: rest) rfl
        refine ⟨_, rfl, _, rfl, a, _, rfl, .inr ha', _, _, rfl, rfl, true, ?_, iteT ⟨_, rfl, _, rfl, a, _, _, .str (Wd.cl n).str, rfl, rfl, ha', atI_nat g, ⟨_, rfl⟩, _, _, rfl, rfl, true, ?_, iteF (exit _ rfl)⟩⟩
        · rw [l1000]
          exact congrArg V.bl (decide_eq_true (by simp [Ps.words]; omega))
        · exact congrArg V.bl (cl_starts n)
    | lf c n r =>
      have g := getAt (A := pre ++ p1.words) (B := Ps.words (.lf c n r) ++ rest) rfl
      have hyo : (Wd.lt c n).ok := ok2.1
      have hz : (Wd.lt c n).str.length ≤ sizeLine := by
        rw [WM.len_tl]
        exact Nat.le_trans (cps_len hyo) (by decide)
      refine ⟨_, rfl, _, rfl, a, _, rfl, .inr ha', _, _, rfl, rfl, true, ?_, iteT ⟨_, rfl, _, rfl, a, _, _, .str (Wd.lt c n).str, rfl, rfl, ha', atI_nat g, ⟨_, rfl⟩, _, _, rfl, rfl, false, ?_, ?_⟩⟩
      · rw [l1000]
        exact congrArg V.bl (decide_eq_true (by simp [Ps.words]; omega))
      · exact congrArg V.bl (lt_starts hyo.1)
      refine ⟨_, fun σ' H'' h => ⟨r.words.length, by show r.words.length < r.words.length + 1; omega, h⟩, ?_⟩
      refine ⟨_, rfl, _, rfl, a, _, _, .str (Wd.lt c n).str, rfl, rfl, ha', atI_nat g, rfl, false, ?_, iteF ?_⟩
      · exact congrArg V.bl (decide_eq_false fun z => by injection z with z; cases (is_op _ hyo).mp z)
      refine ⟨_, rfl, .inl ⟨rfl, _, lstL el⟩, ?_⟩
      refine ⟨_, rfl, _, rfl, a, _, _, .str (Wd.lt c n).str, rfl, rfl, ha', atI_nat g, (Wd.lt c n).str, _, c, rfl, rfl, hz, ?_, ?_⟩
      · exact atI_nat (j := 0) (lt_head c n)
      refine ⟨_, rfl, _, rfl, a, _, _, .str (Wd.lt c n).str, rfl, rfl, ha', atI_nat g, Wd.lt c n, rfl, hyo, by show 0 ≤ sizeLine; decide, fun e0 he0 x dx nx ndx hne => ?_⟩
      have s0 := same_new (o := .tup []) he0
      have ex : e0 ≠ x := ne_of_none upd_same nx
      have ed : e0 ≠ dx := ne_of_none upd_same ndx
      refine ⟨x, dx, e0, ⟨#[c]⟩, n, [], .nil, rfl, hyo.2.2, upd_same, (upd_ne ex).trans ((upd_ne ed).trans upd_same), .nil, by decide, by decide, fun H3 k3 a3 => ⟨rfl, ?_⟩⟩
      have up : Same H' H3 := fun b o h => k3 b o (ne_of_none (s0 b o h) nx) (by
        rw [upd_ne (ne_of_none (s0 b o h) nx), upd_ne (ne_of_none (s0 b o h) ndx)]
        exact s0 b o h)
      have e3 : H3 e0 = some (.tup []) := k3 e0 _ ex ((upd_ne ex).trans ((upd_ne ed).trans upd_same))
      have hP3 : PartsAt (He.ga K "Part") H3 (us ++ [.ref x]) (p1.app (.lf c n .nil)) := (hP.same up).app (.lf (by
        rw [a3]
        show some (HO.ins _ dx [_, _, _, _, ("size", .int ((1 * n : Nat) : Int)), _]) = some (HO.ins _ dx [_, _, _, _, ("size", .int (n : Int)), _])
        rw [Nat.one_mul]
        rfl) e3 .nil)
      have lus : us.length < 1000 := by
        have h1 := hP.len
        have h2 := sizes_le p1
        simp only [List.length_append, Ps.words, List.length_cons] at hlen
        omega
      refine ⟨l, us, .ref x, rfl, rfl, up _ _ el, Nat.lt_of_lt_of_le lus (by decide), ?_⟩
      have el3 := up _ _ el
      refine ⟨_, rfl, _, _, rfl, rfl, p1.app (.lf c n .nil), r, us ++ [.ref x], z4, by rw [app_assoc]; rfl, app_ok ok1 ⟨ok2.1, trivial⟩, ok2.2, rfl, fun b o h => ?_, upd_same, partsUpd hP3 el3, ?_⟩
      · rw [upd_ne (ne_of_none h hl)]
        exact up _ _ (sm _ _ h)
      · rw [app_words]
        show [_, _, _, some (V.int (((pre ++ p1.words).length : Int) + 1)), z4] = [_, _, _, some (V.int (((pre ++ (p1.words ++ [Wd.lt c n])).length : Nat) : Int)), z4]
        rw [show (((pre ++ (p1.words ++ [Wd.lt c n])).length : Nat) : Int) = (((pre ++ p1.words).length : Nat) : Int) + 1 by simp only [List.length_append, List.length_cons, List.length_nil]; omega]
    | rp b n r =>
      have g := getAt (A := pre ++ p1.words) (B := Ps.words (.rp b n r) ++ rest) rfl
      obtain ⟨hbn, hb, hn, hr2⟩ := ok2
      refine ⟨_, rfl, _, rfl, a, _, rfl, .inr ha', _, _, rfl, rfl, true, ?_, iteT ⟨_, rfl, _, rfl, a, _, _, .str Wd.op.str, rfl, rfl, ha', atI_nat g, ⟨_, rfl⟩, _, _, rfl, rfl, false, ?_, ?_⟩⟩
      · rw [l1000]
        exact congrArg V.bl (decide_eq_true (by simp [Ps.words]; omega))
      · exact congrArg V.bl op_starts
      refine ⟨_, fun σ' H'' h => ⟨r.words.length, ?_, h⟩, ?_⟩
      · simp only [Ps.words, List.length_cons, List.length_append]
        omega
      refine ⟨_, rfl, _, rfl, a, _, _, .str Wd.op.str, rfl, rfl, ha', atI_nat g, rfl, true, ?_, iteT ?_⟩
      · exact congrArg V.bl (decide_eq_true rfl)
      have full2 : (pre ++ p1.words) ++ (Ps.words (.rp b n r) ++ rest) = (pre ++ p1.words ++ [.op]) ++ b.words ++ (.cl n :: (r.words ++ rest)) := by
        simp only [Ps.words, List.append_assoc, List.cons_append, List.nil_append]
      have lv : 1 + b.lev ≤ (p1.app (.rp b n r)).lev := by
        rw [app_lev]
        show 1 + b.lev ≤ max p1.lev (max (1 + b.lev) r.lev)
        omega
      rw [full2] at ha' hlen
      refine ⟨_, rfl, _, rfl, _, _, rfl, rfl, a, pre ++ p1.words ++ [.op], .cl n :: (r.words ++ rest), b, ?_, ha', hb, by omega, by omega, hlen, fun x hx => ⟨n, (Option.some.inj hx).symm, by cases hx; exact hn⟩, fun r1 t1 us1 H1 s1 er et pt => ?_⟩
      · show [V.ref a, V.int (((pre ++ p1.words).length : Int) + 1)] ++ [] = [V.ref a, V.int (((pre ++ p1.words ++ [Wd.op]).length : Nat) : Int)]
        rw [show (((pre ++ p1.words ++ [Wd.op]).length : Nat) : Int) = (((pre ++ p1.words).length : Nat) : Int) + 1 by simp only [List.length_append, List.length_cons, List.length_nil]; omega]
        rfl
      have g2 := getAt (A := (pre ++ p1.words ++ [.op]) ++ b.words) (B := .cl n :: (r.words ++ rest)) rfl
      rw [List.length_append] at g2
      refine ⟨r1, _, rfl, tupT er, rfl, _, _, rfl, _, _, rfl, rfl, ?_⟩
      dsimp only [List.set_cons_zero, List.set_cons_succ]
      have ha1 := Same.sqt s1 ha'
      refine ⟨_, rfl, .inl ⟨rfl, _, lstL (s1 _ _ el)⟩, ?_⟩
      refine ⟨_, rfl, _, rfl, a, _, _, .str (Wd.cl n).str, rfl, rfl, ha1, atI_nat g2, Wd.cl n, rfl, hn, _, rfl, fun x dx nx ndx hne => ?_⟩
      have tx : t1 ≠ x := ne_of_none et nx
      have td : t1 ≠ dx := ne_of_none et ndx
      have up1 : ∀ o1 o2, Same H1 (upd (upd H1 dx o1) x o2) := fun o1 o2 b o h => by
        rw [upd_ne (ne_of_none h nx), upd_ne (ne_of_none h ndx)]
        exact h
      have bw : b.words.length ≤ 1000 := by
        simp only [List.length_append] at hlen
        omega
      have bs := sizes_le b
      refine ⟨x, dx, t1, "", n, us1, b, rfl, hn.2, upd_same, up1 _ _ _ _ et, pt.same (up1 _ _), by omega, size_bd hb (by omega) bw, fun H3 k3 a3 => ⟨rfl, ?_⟩⟩
      have up : Same H' H3 := fun b' o h => k3 b' o (ne_of_none (s1 _ _ h) nx) (up1 _ _ _ _ (s1 _ _ h))
      have up2 : Same H1 H3 := fun b' o h => k3 b' o (ne_of_none h nx) (up1 _ _ _ _ h)
      have hu : unitOf b = b.size := by
        cases b with
        | nil => exact absurd rfl hbn
        | lf c m r => rfl
        | rp b m r => rfl
      have hv : levOf b = 1 + b.lev := by
        cases b with
        | nil => exact absurd rfl hbn
        | lf c m r => rfl
        | rp b m r => rfl
      rw [hu, hv] at a3
      have hP3 : PartsAt (He.ga K "Part") H3 (us ++ [.ref x]) (p1.app (.rp b n .nil)) := (hP.same up).app (.rp a3 (up2 _ _ et) (pt.same up2) .nil)
      have lus : us.length < 1000 := by
        have h1 := hP.len
        have h2 := sizes_le p1
        simp only [List.length_append, List.length_cons, List.length_nil] at hlen
        omega
      have el3 := up _ _ el
      refine ⟨l, us, .ref x, rfl, rfl, el3, Nat.lt_of_lt_of_le lus (by decide), ?_⟩
      refine ⟨_, rfl, _, _, rfl, rfl, p1.app (.rp b n .nil), r, us ++ [.ref x], some (.ref t1), by rw [app_assoc]; rfl, app_ok ok1 ⟨hbn, hb, hn, trivial⟩, hr2, rfl, fun b' o h => ?_, upd_same, partsUpd hP3 el3, ?_⟩
      · rw [upd_ne (ne_of_none h hl)]
        exact up _ _ (sm _ _ h)
      · rw [app_words]
        show [_, _, _, some (V.int ((((pre ++ p1.words ++ [Wd.op]).length + b.words.length : Nat) : Int) + 1)), some (V.ref t1)] = [_, _, _, some (V.int (((pre ++ (p1.words ++ (Wd.op :: (b.words ++ [Wd.cl n])))).length : Nat) : Int)), some (V.ref t1)]
        rw [show (((pre ++ (p1.words ++ (Wd.op :: (b.words ++ [Wd.cl n])))).length : Nat) : Int) = ((((pre ++ p1.words ++ [Wd.op]).length + b.words.length : Nat) : Int) + 1) by simp only [List.length_append, List.length_cons, List.length_nil]; omega]
end
end K04P

set_option linter.all false
set_option maxRecDepth 100000
set_option maxHeartbeats 4000000
/-! the words of a tree are those of a program text -/
namespace WM
open PySem PySem.Spec PyProof.Rows L2 TL
theorem dep_left {A B : List Wd} {i : Nat} (h : i ≤ A.length) : dep (A ++ B) i = dep A i := by
  unfold dep
  rw [List.take_append_of_le_length h]
theorem dep_right (A B : List Wd) (j : Nat) : dep (A ++ B) (A.length + j) = dep A A.length + dep B j := by
  unfold dep
  rw [List.take_length_add_append, List.map_append, List.sum_append, List.take_length]
theorem dep_cons (x : Wd) (B : List Wd) (j : Nat) : dep (x :: B) (j + 1) = step x + dep B j := by
  have := dep_right [x] B j
  rw [show [x].length + j = j + 1 by simp; omega] at this
  refine this.trans ?_
  show ([x].map step).sum + _ = _
  simp
theorem dep_zero (A : List Wd) : dep A 0 = 0 := rfl
theorem dep_all {A : List Wd} {i : Nat} (h : A.length ≤ i) : dep A i = dep A A.length := by
  unfold dep
  rw [List.take_of_length_le h, List.take_length]
theorem words_ne {p : Ps} (h : p ≠ .nil) : ∃ A x, p.words = A ++ [x] ∧ x ≠ .op := by
  induction p with
  | nil => exact absurd rfl h
  | lf c n r ih =>
    cases r with
    | nil => exact ⟨[], .lt c n, rfl, nofun⟩
    | lf c' n' r' =>
      obtain ⟨A, x, e, hx⟩ := ih nofun
      exact ⟨.lt c n :: A, x, by rw [show (Ps.lf c n (.lf c' n' r')).words = .lt c n :: (Ps.lf c' n' r').words from rfl, e]; rfl, hx⟩
    | rp b n' r' =>
      obtain ⟨A, x, e, hx⟩ := ih nofun
      exact ⟨.lt c n :: A, x, by rw [show (Ps.lf c n (.rp b n' r')).words = .lt c n :: (Ps.rp b n' r').words from rfl, e]; rfl, hx⟩
  | rp b n r _ ih =>
    cases r with
    | nil => exact ⟨.op :: b.words, .cl n, rfl, nofun⟩
    | lf c' n' r' =>
      obtain ⟨A, x, e, hx⟩ := ih nofun
      exact ⟨.op :: (b.words ++ .cl n :: A), x, by rw [show (Ps.rp b n (.lf c' n' r')).words = .op :: (b.words ++ .cl n :: (Ps.lf c' n' r').words) from rfl, e]; simp, hx⟩
    | rp b' n' r' =>
      obtain ⟨A, x, e, hx⟩ := ih nofun
      exact ⟨.op :: (b.words ++ .cl n :: A), x, by rw [show (Ps.rp b n (.rp b' n' r')).words = .op :: (b.words ++ .cl n :: (Ps.rp b' n' r').words) from rfl, e]; simp, hx⟩
/-- levels along the words -/
theorem dep_tree (p : Ps) : (∀ i, 0 ≤ dep p.words i ∧ dep p.words i ≤ p.lev) ∧ dep p.words p.words.length = 0 := by
  induction p with
  | nil => exact ⟨fun i => by unfold dep; simp [Ps.words, Ps.lev], rfl⟩
  | lf c n r ih =>
    refine ⟨fun i => ?_, ?_⟩
    · cases i with
      | zero => exact ⟨Int.le_refl _, Int.natCast_nonneg _⟩
      | succ i =>
        show 0 ≤ dep (.lt c n :: r.words) (i + 1) ∧ dep (.lt c n :: r.words) (i + 1) ≤ (r.lev : Int)
        rw [dep_cons]
        have := ih.1 i
        have e : step (.lt c n) = 0 := rfl
        omega
    · show dep (.lt c n :: r.words) (r.words.length + 1) = 0
      rw [dep_cons, ih.2]
      rfl
  | rp b n r ihb ihr =>
    have tail : ∀ j, 0 ≤ 1 + dep (b.words ++ .cl n :: r.words) j ∧ 1 + dep (b.words ++ .cl n :: r.words) j ≤ ((max (1 + b.lev) r.lev : Nat) : Int) := fun j => by
      by_cases h : j ≤ b.words.length
      · rw [dep_left h]
        have := ihb.1 j
        omega
      · obtain ⟨k, rfl⟩ : ∃ k, j = b.words.length + (k + 1) := ⟨j - b.words.length - 1, by omega⟩
        rw [dep_right, ihb.2, dep_cons]
        have := ihr.1 k
        have e : step (.cl n) = -1 := rfl
        omega
    refine ⟨fun i => ?_, ?_⟩
    · cases i with
      | zero => exact ⟨Int.le_refl _, Int.natCast_nonneg _⟩
      | succ i =>
        show 0 ≤ dep (.op :: (b.words ++ .cl n :: r.words)) (i + 1) ∧ dep (.op :: (b.words ++ .cl n :: r.words)) (i + 1) ≤ _
        rw [dep_cons]
        exact tail i
    · show dep (.op :: (b.words ++ .cl n :: r.words)) ((b.words ++ .cl n :: r.words).length + 1) = 0
      rw [dep_cons, List.length_append, List.length_cons, dep_right, dep_cons, ihb.2, ihr.2]
      rfl
/-- where a bracket closes -/
theorem cl_tree (p : Ps) (ok : p.ok) : ∀ (i n : Nat), p.words[i]? = some (.cl n) → 0 < dep p.words i ∧ ∀ j, j + 1 = i → p.words[j]? ≠ some .op := by
  induction p with
  | nil => intro i n h; cases h
  | lf c m r ih =>
    intro i n h
    cases i with
    | zero => cases h
    | succ i =>
      have h1 := ih ok.2 i n h
      refine ⟨?_, fun j hj => ?_⟩
      · show 0 < dep (.lt c m :: r.words) (i + 1)
        rw [dep_cons]
        have e : step (.lt c m) = 0 := rfl
        omega
      · cases j with
        | zero => intro z; cases z
        | succ j => exact h1.2 j (by omega)
  | rp b m r ihb ihr =>
    obtain ⟨hbn, hb, _, hr⟩ := ok
    intro i n h
    have ebr := (dep_tree b).2
    cases i with
    | zero => cases h
    | succ i =>
      have h : (b.words ++ .cl m :: r.words)[i]? = some (.cl n) := h
      have e1 : dep (Ps.rp b m r).words (i + 1) = 1 + dep (b.words ++ .cl m :: r.words) i := dep_cons _ _ _
      rw [e1]
      by_cases hi : i < b.words.length
      · rw [List.getElem?_append_left hi] at h
        have h1 := ihb hb i n h
        refine ⟨by rw [dep_left (Nat.le_of_lt hi)]; omega, fun j hj => ?_⟩
        have : j = i := by omega
        subst this
        cases j with
        | zero =>
          exact absurd h1.1 (by rw [dep_zero]; decide)
        | succ j =>
          show (b.words ++ .cl m :: r.words)[j]? ≠ _
          rw [List.getElem?_append_left (by omega)]
          exact h1.2 j rfl
      · rw [List.getElem?_append_right (by omega)] at h
        obtain ⟨k, rfl⟩ : ∃ k, i = b.words.length + k := ⟨i - b.words.length, by omega⟩
        rw [Nat.add_sub_cancel_left] at h
        rw [dep_right, ebr]
        cases k with
        | zero =>
          refine ⟨by rw [dep_zero]; decide, fun j hj => ?_⟩
          have : j = b.words.length := by omega
          subst this
          obtain ⟨A, x, e, hx⟩ := words_ne hbn
          have : (b.words).length = A.length + 1 := by rw [e]; simp
          rw [this]
          show (b.words ++ .cl m :: r.words)[A.length]? ≠ _
          rw [List.getElem?_append_left (by omega), e, List.getElem?_append_right (Nat.le_refl _), Nat.sub_self]
          intro z
          exact hx (Option.some.inj z)
        | succ k =>
          have h1 := ihr hr k n h
          rw [dep_cons]
          have es : step (.cl m) = -1 := rfl
          refine ⟨by omega, fun j hj => ?_⟩
          have : j = b.words.length + (k + 1) := by omega
          subst this
          show (b.words ++ .cl m :: r.words)[b.words.length + k]? ≠ _
          rw [List.getElem?_append_right (by omega), Nat.add_sub_cancel_left]
          cases k with
          | zero => intro z; cases z
          | succ k => exact h1.2 k rfl
theorem words_ok (p : Ps) (ok : p.ok) : ∀ x ∈ p.words, x.ok := by
  induction p with
  | nil => intro x h; cases h
  | lf c n r ih =>
    intro x h
    rcases List.mem_cons.mp h with rfl | h
    · exact ok.1
    · exact ih ok.2 x h
  | rp b n r ihb ihr =>
    intro x h
    rcases List.mem_cons.mp h with rfl | h
    · exact trivial
    · rcases List.mem_append.mp h with h | h
      · exact ihb ok.2.1 x h
      · rcases List.mem_cons.mp h with rfl | h
        · exact ok.2.2.1
        · exact ihr ok.2.2.2 x h
theorem step_ge (x : Wd) : -1 ≤ step x := by
  cases x with
  | op => decide
  | cl n =>
    show (-1 : Int) ≤ -1
    decide
  | lt c n =>
    show (-1 : Int) ≤ 0
    decide
theorem sum_ge : ∀ l : List Wd, -(l.length : Int) ≤ (l.map step).sum
  | [] => by simp
  | x :: l => by
    have h1 := sum_ge l
    have h2 := step_ge x
    simp only [List.map_cons, List.sum_cons, List.length_cons]
    omega
theorem okW_of {p : Ps} (ok : p.ok) (hl : p.words.length ≤ 1000) (hd : p.lev ≤ 12) : OkW p.words where
  ok := words_ok p ok
  most := hl
  cl := cl_tree p ok
  up := fun i _ => by
    have := (dep_tree p).1 i
    omega
  shut := (dep_tree p).2
  need := fun i x hx => by
    have il : i < p.words.length := (List.getElem?_eq_some_iff.mp hx).1
    have tot := (dep_tree p).2
    have cut : dep p.words (i + 1) + ((p.words.drop (i + 1)).map step).sum = 0 := by
      rw [← tot]
      unfold dep
      rw [← List.sum_append, ← List.map_append, List.take_append_drop, List.take_length]
    have ge := sum_ge (p.words.drop (i + 1))
    have ln : (p.words.drop (i + 1)).length = p.words.length - (i + 1) := List.length_drop ..
    by_cases ho : isOp x = true
    · have xo : x = .op := by
        cases x with
        | op => rfl
        | cl n => cases ho
        | lt c n => cases ho
      subst xo
      have pos : 0 < dep p.words (i + 1) := by
        have h1 := dep_succ hx
        have h2 := ((dep_tree p).1 i).1
        have h3 : b2 (isOp .op) = 1 := rfl
        have h4 : b2 (isCl .op) = 0 := rfl
        omega
      cases hr : p.words.drop (i + 1) with
      | nil =>
        rw [hr] at cut
        simp at cut
        omega
      | cons y t =>
        have hy : p.words[i + 1]? = some y := by
          have := List.getElem?_drop (xs := p.words) (i := i + 1) (j := 0)
          rw [hr] at this
          simpa using this.symm
        have hs : 0 ≤ step y := by
          cases y with
          | op => decide
          | cl n => exact absurd hx ((cl_tree p ok (i + 1) n hy).2 i rfl)
          | lt c n =>
            show (0 : Int) ≤ 0
            decide
        rw [hr] at cut ln
        simp only [List.map_cons, List.sum_cons, List.length_cons] at cut ln
        have ge2 := sum_ge t
        have : b2 (isOp Wd.op) = 1 := rfl
        omega
    · have : b2 (isOp x) = 0 := by unfold b2; rw [if_neg ho]
      omega
end WM

set_option Elab.async false
set_option linter.all false
set_option maxRecDepth 100000
set_option maxHeartbeats 4000000
namespace K04P
open PySem PySem.Spec PyProof.Rows L2 RT WM K04 TL
/-- a Program at a -/
def IsP (K : PySem.W.Frag) (H : Hp) (a : Addr) (p : Ps) : Prop := p.ok ∧ p.lev ≤ 12 ∧ p.words.length ≤ 1000 ∧ ∃ d w t us, H a = some (.ins (He.ga K "Program") d [("_text", .str (textOf p.words)), ("_words", .ref w), ("_parts", .ref t), ("_length", .int (p.size : Int)), ("_depth", .int (p.lev : Int))]) ∧
  H w = some (.tup (wstrs p.words)) ∧ H t = some (.tup us) ∧ PartsAt (He.ga K "Part") H us p
theorem IsP.same {K : PySem.W.Frag} {H H' : Hp} {a : Addr} {p : Ps} (h : IsP K H a p) (s : Same H H') : IsP K H' a p := by
  obtain ⟨h1, h2, h3, d, w, t, us, e1, e2, e3, e4⟩ := h
  exact ⟨h1, h2, h3, d, w, t, us, s _ _ e1, s _ _ e2, s _ _ e3, e4.same s⟩
theorem partsUpdA {C C' a d : Addr} {H : Hp} {us : List V} {p : Ps} {o : HO} {v : V} {fs : List (Str × V)} (h : PartsAt C H us p) (ea : H a = some (.ins C' d (("_text", v) :: fs))) : PartsAt C (upd H a o) us p := by
  have n1 : ∀ {b d' : Addr} {u : V} {gs : List (Str × V)}, H b = some (.ins C d' (("letter", u) :: gs)) → b ≠ a := fun h z => by
    rw [z, ea] at h
    injection h with h
    injection h with _ _ h
    injection h with h _
    injection h with h _
    exact absurd h (by decide)
  have n2 : ∀ {b : Addr} {us : List V}, H b = some (.tup us) → b ≠ a := fun h z => by
    rw [z, ea] at h
    cases h
  induction h with
  | nil => exact .nil
  | lf h1 h2 _ ih => exact .lf ((upd_ne (n1 h1)).trans h1) ((upd_ne (n2 h2)).trans h2) ih
  | rp h1 h2 _ _ ih1 ih2 => exact .rp ((upd_ne (n1 h1)).trans h1) ((upd_ne (n2 h2)).trans h2) ih1 ih2
section
variable {P : Program} {w : World} {K : PySem.W.Frag} {mg : Str → Option Value} {base : Heap}
def spParts (K : PySem.W.Frag) : Sp := fun vs H Q _ => ∃ (a : Addr) (p : Ps), vs = [.ref a] ∧ SqT K H a (wstrs p.words) ∧ p.ok ∧ p.lev ≤ 12 ∧ p.words.length ≤ 1000 ∧ ∀ t us H', Same H H' → H' t = some (.tup us) → PartsAt (He.ga K "Part") H' us p → Q (.ref t) H'
theorem ok_parts (D : Ds K) (T : Tx K mg) : FnOk P w K mg base CX0 18 (dparts_of_words.adr K) D.fd_parts_of_words ["words"] (spParts K) := by
  have G : FnOk P w K mg base CX0 (4 + 13) _ _ _ (spPF K 13) := ok_pf D T 13
  refine D.F_parts_of_words.ok scparts_of_words (fun vs H Q E h => ?_) (fun cdv A outer s H vs Q E hr h => ?_)
  · obtain ⟨a, p, rfl, _⟩ := h
    rfl
  · obtain ⟨a, p, rfl, ha, hp, hl, hw, q⟩ := h
    have nd := scparts_of_words.nd
    refine ⟨_, PSs.nox (pss_cons (ps_asg (pe_call G hr (by rfl) T.g__parts_from D.F__parts_from.kp (b__parts_from D) .nil pass0 (pa_cons (pv 0) (pa_cons pe_int pa_nil))) (pg_tup (by rfl) (pgs_cons (pg_name (i := 1) nd rfl (.inl rfl)) (pgs_cons (pg_name (i := 2) nd rfl (.inl rfl)) pgs_nil))))
      (pss_one (ps_ret (pv 1)))), ?_⟩
    refine ⟨_, rfl, a, [], [], p, rfl, by rw [List.nil_append, List.append_nil]; exact ha, hp, by omega, hl, by rw [List.nil_append, List.append_nil]; exact hw, nofun, fun r t us H1 s1 er et pt => ?_⟩
    exact ⟨r, _, rfl, tupT er, rfl, _, _, rfl, _, _, rfl, rfl, _, rfl, q t us H1 s1 et pt⟩
def spCheckT : Sp := fun vs H Q _ => ∃ p : Ps, vs = [.str (textOf p.words)] ∧ p.ok ∧ p.lev ≤ 12 ∧ p.words.length ≤ 1000 ∧ ∀ H', Same H H' → Q .non H'
theorem ok_checkT (D : Ds K) (T : Tx K mg) : FnOk P w K mg base CX0 5 (dcheck_text.adr K) D.fd_check_text ["text"] spCheckT := by
  have GW : FnOk P w K mg base CX0 4 _ _ _ (spWrong K) := ok_wrong D T
  have GT : FnOk P w K mg base CX0 1 _ _ _ spWords := ok_words D T
  refine D.F_check_text.ok sccheck_text (fun vs H Q E h => ?_) (fun cdv A outer s H vs Q E hr h => ?_)
  · obtain ⟨p, rfl, _⟩ := h
    rfl
  · obtain ⟨p, rfl, hp, hl, hw, q⟩ := h
    have nd := sccheck_text.nd
    refine ⟨_, PSs.nox (pss_cons (ps_if (pt_not (pt_val (pe_callB call_isiY (by rfl) T.z_isinstance (by decide +kernel) (pa_cons (pv 0) (pa_cons (pe_bltn (v := .ty "str") (by rfl) T.z_str (by decide +kernel) rfl) pa_nil))))) (pss_one ps_never) pss_nil)
      (pss_cons (ps_set (i := 1) nd rfl (.inl rfl) (pe_call GW hr (by rfl) T.g_wrong_word D.F_wrong_word.kp (b_wrong_word D) .nil pass0 (pa_cons (pe_call GT (hr.mono (by decide)) (by rfl) T.g_words_of D.F_words_of.kp (b_words_of D) .nil pass0 (pa_cons (pv 0) pa_nil)) (pa_cons (pe_tup pa_nil) pa_nil))))
      (pss_one (ps_if (pt_cmpR op_notN (pv 1) pe_non (nomark _)) (pss_one ps_never) pss_nil)))), ?_⟩
    have ow := okW_of hp hw hl
    refine ⟨_, rfl, _, .ty "str", _, _, true, rfl, .ty "str", .base (.base (.str _)), kit_ss, true, rfl, iteF ?_⟩
    refine ⟨_, rfl, p.words, rfl, ow, fun r H1 s1 n1 e1 => ⟨by show 0 ≤ sizeLine; decide, fun e he => ?_⟩⟩
    have se := same_new (o := .tup []) he
    refine ⟨r, e, p.words, rfl, lstL (se _ _ e1), tupT upd_same, ow, fun H2 s2 => ?_⟩
    exact ⟨_, rfl, rfl, false, rfl, iteF (q H2 (s1.trans (se.trans s2)))⟩
def spProg (K : PySem.W.Frag) : Sp := fun vs H Q _ => ∃ (a d : Addr) (p : Ps), vs = [.ref a, .str (textOf p.words)] ∧ H a = some (.ins (He.ga K "Program") d []) ∧ p.ok ∧ p.lev ≤ 12 ∧ p.words.length ≤ 1000 ∧
  ∀ H', (∀ b o, b ≠ a → H b = some o → H' b = some o) → IsP K H' a p → Q .non H'
theorem ok_prog (D : Ds K) (T : Tx K mg) : FnOk P w K mg base CX0 19 (dProgram_init.adr K) D.fd_Program_init ["self", "text"] (spProg K) := by
  have GC : FnOk P w K mg base CX0 5 _ _ _ spCheckT := ok_checkT D T
  have GT : FnOk P w K mg base CX0 1 _ _ _ spWords := ok_words D T
  have GP : FnOk P w K mg base CX0 18 _ _ _ (spParts K) := ok_parts D T
  have GS : FnOk P w K mg base CX0 1 _ _ _ (spSize K) := ok_size D T
  have GL : FnOk P w K mg base CX0 1 _ _ _ (spLevs K) := ok_levs D T
  refine D.F_Program_init.ok scProgram_init (fun vs H Q E h => ?_) (fun cdv A outer s H vs Q E hr h => ?_)
  · obtain ⟨a, d, p, rfl, _⟩ := h
    rfl
  · obtain ⟨a, d, p, rfl, ea, hp, hl, hw, q⟩ := h
    refine ⟨_, PSs.nox (pss_cons (ps_expr (pe_call GC (hr.mono (by decide)) (by rfl) T.g_check_text D.F_check_text.kp (b_check_text D) .nil pass0 (pa_cons (pv 1) pa_nil)))
      (pss_cons (ps_fld (pv 0) (pv 1) rfl)
      (pss_cons (ps_fld (pv 0) (pe_callTy call_tuple_of (by rfl) T.z_tuple (by decide +kernel) (pa_cons (pe_call GT (hr.mono (by decide)) (by rfl) T.g_words_of D.F_words_of.kp (b_words_of D) .nil pass0 (pa_cons (pv 1) pa_nil)) pa_nil)) rfl)
      (pss_cons (ps_fld (pv 0) (pe_call GP hr (by rfl) T.g_parts_of_words D.F_parts_of_words.kp (b_parts_of_words D) .nil pass0 (pa_cons (pe_fld (pv 0) rfl) pa_nil)) rfl)
      (pss_cons (ps_fld (pv 0) (pe_call GS (hr.mono (by decide)) (by rfl) T.g_size_of D.F_size_of.kp (b_size_of D) .nil pass0 (pa_cons (pe_fld (pv 0) rfl) pa_nil)) rfl)
      (pss_one (ps_fld (pv 0) (pe_call GL (hr.mono (by decide)) (by rfl) T.g_levels_of D.F_levels_of.kp (b_levels_of D) .nil pass0 (pa_cons (pe_fld (pv 0) rfl) pa_nil)) rfl))))))), ?_⟩
    have ow := okW_of hp hw hl
    have zl : p.sizes.length ≤ 1000 := Nat.le_trans (sizes_le p) hw
    refine ⟨_, rfl, p, rfl, hp, hl, hw, fun H1 s1 => ?_⟩
    refine ⟨_, rfl, _, rfl, a, _, d, _, rfl, s1 _ _ ea, T.c_Program, T.n_Program__text, by show 0 < 1000; decide, ?_⟩
    refine ⟨_, rfl, p.words, rfl, ow, fun r H2 s2 n2 e2 => ⟨r, _, rfl, .inl ⟨lstL e2, fun wd nw => ?_⟩⟩⟩
    have sw := same_new (o := .tup (wstrs p.words)) nw
    have a2 := sw _ _ (s2 _ _ upd_same)
    refine ⟨_, rfl, a, _, d, _, rfl, a2, T.c_Program, T.n_Program__words, by show 1 < 1000; decide, ?_⟩
    have wa : wd ≠ a := fun z => by
      have h := s2 _ _ (upd_same (H := H1) (a := a))
      rw [← z, nw] at h
      cases h
    refine ⟨_, rfl, a, _, d, _, _, rfl, upd_same, T.c_Program, T.n_Program__words, rfl, wd, p, rfl, tupT ((upd_ne wa).trans upd_same), hp, hl, hw, fun t us H4 s4 et pt => ?_⟩
    have a4 := s4 _ _ upd_same
    have w4 := s4 _ _ ((upd_ne wa).trans upd_same)
    refine ⟨_, rfl, a, _, d, _, rfl, a4, T.c_Program, T.n_Program__parts, by show 2 < 1000; decide, ?_⟩
    have ta : t ≠ a := fun z => by
      rw [z, a4] at et
      cases et
    have p5 := partsUpdA (o := .ins (He.ga K "Program") d [("_text", .str (textOf p.words)), ("_words", .ref wd), ("_parts", .ref t)]) pt a4
    refine ⟨_, rfl, a, _, d, _, _, rfl, upd_same, T.c_Program, T.n_Program__parts, rfl, t, us, p, rfl, tupT ((upd_ne ta).trans et), p5, zl, fun H6 s6 => ?_⟩
    have a6 := s6 _ _ upd_same
    have t6 := s6 _ _ ((upd_ne ta).trans et)
    have w6 := s6 _ _ ((upd_ne wa).trans w4)
    have p6 := p5.same s6
    refine ⟨_, rfl, a, _, d, _, rfl, a6, T.c_Program, T.n_Program__length, by show 3 < 1000; decide, ?_⟩
    have p7 := partsUpdA (o := .ins (He.ga K "Program") d [("_text", .str (textOf p.words)), ("_words", .ref wd), ("_parts", .ref t), ("_length", .int (p.size : Int))]) p6 a6
    refine ⟨_, rfl, a, _, d, _, _, rfl, upd_same, T.c_Program, T.n_Program__parts, rfl, t, us, p, rfl, tupT ((upd_ne ta).trans t6), p7, zl, fun H8 s8 => ?_⟩
    have a8 := s8 _ _ upd_same
    have t8 := s8 _ _ ((upd_ne ta).trans t6)
    have w8 := s8 _ _ ((upd_ne wa).trans w6)
    have p8 := p7.same s8
    refine ⟨_, rfl, a, _, d, _, rfl, a8, T.c_Program, T.n_Program__depth, by show 4 < 1000; decide, ?_⟩
    refine q _ (fun b o hb h => ?_) ⟨hp, hl, hw, d, wd, t, us, upd_same, (upd_ne wa).trans w8, (upd_ne ta).trans t8, partsUpdA p8 a8⟩
    have h1 := s2 _ _ ((upd_ne (o := .ins (He.ga K "Program") d [("_text", .str (textOf p.words))]) hb).trans (s1 _ _ h))
    have h2 := s4 _ _ ((upd_ne hb).trans (sw _ _ h1))
    have h3 := s6 _ _ ((upd_ne hb).trans h2)
    have h4 := s8 _ _ ((upd_ne hb).trans h3)
    exact (upd_ne hb).trans h4
end
end K04P

set_option Elab.async false
set_option linter.all false
set_option maxRecDepth 100000
set_option maxHeartbeats 4000000
namespace K04P
open PySem PySem.Spec PyProof.Rows L2 RT WM K04 TL
section
variable {P : Program} {w : World} {K : PySem.W.Frag} {mg : Str → Option Value} {base : Heap}
def spText (K : PySem.W.Frag) : Sp := fun vs H Q _ => ∃ a p, vs = [.ref a] ∧ IsP K H a p ∧ Q (.str (textOf p.words)) H
theorem ok_text (D : Ds K) (T : Tx K mg) : FnOk P w K mg base CX0 1 (dProgram_text.adr K) D.fd_Program_text ["self"] (spText K) := by
  refine D.F_Program_text.ok scProgram_text (fun vs H Q E h => ?_) (fun cdv A outer s H vs Q E hr h => ?_)
  · obtain ⟨a, p, rfl, _⟩ := h
    rfl
  · obtain ⟨a, p, rfl, ⟨_, _, _, d, wd, t, us, ea, ew, et, pt⟩, q⟩ := h
    exact ⟨_, PSs.nox (pss_one (ps_ret (pe_fld (pv 0) rfl))), _, rfl, a, _, d, _, _, rfl, ea, T.c_Program, T.n_Program__text, rfl, q⟩
def spDepth (K : PySem.W.Frag) : Sp := fun vs H Q _ => ∃ a p, vs = [.ref a] ∧ IsP K H a p ∧ Q (.int (p.lev : Int)) H
theorem ok_depth (D : Ds K) (T : Tx K mg) : FnOk P w K mg base CX0 1 (dProgram_depth.adr K) D.fd_Program_depth ["self"] (spDepth K) := by
  refine D.F_Program_depth.ok scProgram_depth (fun vs H Q E h => ?_) (fun cdv A outer s H vs Q E hr h => ?_)
  · obtain ⟨a, p, rfl, _⟩ := h
    rfl
  · obtain ⟨a, p, rfl, ⟨_, _, _, d, wd, t, us, ea, ew, et, pt⟩, q⟩ := h
    exact ⟨_, PSs.nox (pss_one (ps_ret (pe_fld (pv 0) rfl))), _, rfl, a, _, d, _, _, rfl, ea, T.c_Program, T.n_Program__depth, rfl, q⟩
def spLenP (K : PySem.W.Frag) : Sp := fun vs H Q _ => ∃ a p, vs = [.ref a] ∧ IsP K H a p ∧ Q (.int (p.words.length : Int)) H
theorem ok_lenP (D : Ds K) (T : Tx K mg) : FnOk P w K mg base CX0 1 (dProgram_len.adr K) D.fd_Program_len ["self"] (spLenP K) := by
  refine D.F_Program_len.ok scProgram_len (fun vs H Q E h => ?_) (fun cdv A outer s H vs Q E hr h => ?_)
  · obtain ⟨a, p, rfl, _⟩ := h
    rfl
  · obtain ⟨a, p, rfl, ⟨_, _, _, d, wd, t, us, ea, ew, et, pt⟩, q⟩ := h
    refine ⟨_, PSs.nox (pss_one (ps_ret (pe_callB call_len_seq (by rfl) T.z_len PySem.boot_len (pa_cons (pe_fld (pv 0) rfl) pa_nil)))), ?_⟩
    refine ⟨_, rfl, a, _, d, _, _, rfl, ea, T.c_Program, T.n_Program__words, rfl, wd, _, rfl, .inr (tupT ew), ?_⟩
    have e : (wstrs p.words).length = p.words.length := List.length_map ..
    rw [e]
    exact q
def spCheckP (K : PySem.W.Frag) : Sp := fun vs H Q _ => ∃ a p, vs = [.ref a] ∧ IsP K H a p ∧ Q .non H
theorem ok_checkP (D : Ds K) (T : Tx K mg) : FnOk P w K mg base CX0 1 (dcheck_program.adr K) D.fd_check_program ["program"] (spCheckP K) := by
  refine D.F_check_program.ok sccheck_program (fun vs H Q E h => ?_) (fun cdv A outer s H vs Q E hr h => ?_)
  · obtain ⟨a, p, rfl, _⟩ := h
    rfl
  · obtain ⟨a, p, rfl, ⟨_, _, _, d, wd, t, us, ea, ew, et, pt⟩, q⟩ := h
    refine ⟨_, PSs.nox (pss_one (ps_if (pt_not (pt_val (pe_callB call_isiY (by rfl) T.z_isinstance (by decide +kernel) (pa_cons (pv 0) (pa_cons (pe_glob (v := .ref (He.ga K "Program")) rfl T.g_Program rfl) pa_nil))))) (pss_one ps_never) pss_nil)), ?_⟩
    exact ⟨_, rfl, _, .ref (He.ga K "Program"), _, _, true, rfl, .own _, .base (.base (.ins ea T.c_Program T.i_Program.ha T.i_Program.hn T.i_Program.ht T.i_Program.hm)), T.t_Program, true, rfl, iteF q⟩
end
end K04P

set_option Elab.async false
set_option linter.all false
set_option maxRecDepth 100000
set_option maxHeartbeats 4000000
namespace K04P
open PySem PySem.Spec PyProof.Rows L2 RT WM K04 TL
theorem wstrs_map (ws : List Wd) : wstrs ws = (ws.map Wd.str).map V.str := by
  unfold wstrs
  rw [List.map_map]
  rfl
theorem lens_le : ∀ {ws : List Wd}, (∀ x ∈ ws, x.ok) → ((ws.map Wd.str).map (·.length)).sum ≤ ws.length * 32
  | [], _ => Nat.le_refl _
  | x :: ws, h => by
    have h1 := lens_le fun z hz => h z (List.mem_cons_of_mem _ hz)
    have h2 := cps_len (h x (List.mem_cons_self ..))
    have h3 : x.str.length = x.cps.length := WM.len_tl x.str
    simp only [List.map_cons, List.sum_cons, List.length_cons] at h1 ⊢
    omega
section
variable {P : Program} {w : World} {K : PySem.W.Frag} {mg : Str → Option Value} {base : Heap}
theorem make_p {H : Hp} {p : Ps} {t : Str} {Q : VK} {E : XK} {x d : Addr} (hx : H x = none) (hd : H d = none) (et : t = textOf p.words) (hp : p.ok) (hl : p.lev ≤ 12) (hw : p.words.length ≤ 1000) (q : ∀ H', Same H H' → IsP K H' x p → Q .non H') :
    spProg K (.ref x :: ([.str t] ++ [])) (upd (upd H d (.own x)) x (.ins (He.ga K "Program") d [])) Q E := by
  subst et
  exact ⟨x, d, p, rfl, upd_same, hp, hl, hw, fun H' k m => q H' (fun b o e => k b o (ne_of_none e hx) (by rw [upd_ne (ne_of_none e hx), upd_ne (ne_of_none e hd)]; exact e)) m⟩
def spAddP (K : PySem.W.Frag) : Sp := fun vs H Q _ => ∃ a b p q, vs = [.ref a, .ref b] ∧ IsP K H a p ∧ IsP K H b q ∧ p.words.length + q.words.length ≤ 1000 ∧ ∀ r H', Same H H' → IsP K H' r (p.app q) → Q (.ref r) H'
theorem ok_addP (D : Ds K) (T : Tx K mg) : FnOk P w K mg base CX0 21 (dProgram_add.adr K) D.fd_Program_add ["self", "other"] (spAddP K) := by
  have GC : FnOk P w K mg base CX0 1 _ _ _ (spCheckP K) := ok_checkP D T
  have GI : FnOk P w K mg base CX0 19 _ _ _ (spProg K) := ok_prog D T
  refine D.F_Program_add.ok scProgram_add (fun vs H Q E h => ?_) (fun cdv A outer s H vs Q E hr h => ?_)
  · obtain ⟨a, b, p, q, rfl, _⟩ := h
    rfl
  · obtain ⟨a, b, p, q, rfl, ha, hb, hle, k⟩ := h
    obtain ⟨tW, vW⟩ := T.v_MOST_WORDS
    refine ⟨_, PSs.nox (pss_cons (ps_expr (pe_call GC (hr.mono (by decide)) (by rfl) T.g_check_program D.F_check_program.kp (b_check_program D) .nil pass0 (pa_cons (pv 1) pa_nil)))
      (pss_cons (ps_if (pt_cmpR op_gt (pe_op op_add (pe_callB call_len_seq (by rfl) T.z_len PySem.boot_len (pa_cons (pe_fld (pv 0) rfl) pa_nil)) (pe_callB call_len_seq (by rfl) T.z_len PySem.boot_len (pa_cons (pe_fld (pv 1) rfl) pa_nil))) (pe_glob (v := .int 1000) rfl vW ⟨_, rfl⟩) (nomark _)) (pss_one ps_never) pss_nil)
      (pss_one (ps_ret (pe_make T.k_Program GI hr (by rfl) T.g_Program (b_Program_init D) .nil pass0 (pa_cons (pe_join pe_str (pe_op op_catA (pe_fld (pv 0) rfl) (pe_fld (pv 1) rfl))) pa_nil)))))), ?_⟩
    obtain ⟨op, lp, wp, d1, wd1, t1, us1, ea, ew1, et1, pt1⟩ := id ha
    obtain ⟨oq, lq, wq, d2, wd2, t2, us2, eb, ew2, et2, pt2⟩ := id hb
    have e1 : (wstrs p.words).length = p.words.length := List.length_map ..
    have e2 : (wstrs q.words).length = q.words.length := List.length_map ..
    refine ⟨_, rfl, b, q, rfl, hb, ?_⟩
    refine ⟨_, rfl, a, _, d1, _, _, rfl, ea, T.c_Program, T.n_Program__words, rfl, wd1, _, rfl, .inr (tupT ew1), _, rfl, b, _, d2, _, _, rfl, eb, T.c_Program, T.n_Program__words, rfl, wd2, _, rfl, .inr (tupT ew2), _, _, rfl, rfl, _, _, rfl, rfl, false, ?_, iteF ?_⟩
    · rw [e1, e2]
      exact congrArg V.bl (decide_eq_false (by omega))
    have aw : (p.app q).words = p.words ++ q.words := app_words p q
    have aok := app_ok op oq
    have al : (p.app q).lev ≤ 12 := by
      rw [app_lev]
      omega
    have alen : (p.app q).words.length ≤ 1000 := by
      rw [aw, List.length_append]
      exact hle
    have sums : (((p.app q).words.map Wd.str).map (·.length)).sum + ((p.app q).words.map Wd.str).length * (" " : Str).length ≤ 16777216 := by
      have h1 := lens_le (words_ok _ aok)
      have h2 : (" " : Str).length = 1 := rfl
      rw [List.length_map, h2]
      omega
    have fin : ∀ (z : Addr) (H1 : Hp), Same H H1 → H1 z = some (.tup (wstrs (p.app q).words)) → ∀ {R : Addr → Hp → Prop}, (∀ r H', Same H1 H' → IsP K H' r (p.app q) → R r H') → ∀ {t : Str}, t = textOf (p.app q).words → ∀ x dx, H1 x = none → H1 dx = none → dx ≠ x → spProg K (.ref x :: ([.str t] ++ [])) (upd (upd H1 dx (.own x)) x (.ins (He.ga K "Program") dx [])) (fun v H2 => v = .non ∧ R x H2) E0 :=
      fun z H1 s1 ez R hR t et x dx nx nd _ => make_p nx nd et aok al alen fun H2 s2 hp2 => ⟨rfl, hR x H2 s2 hp2⟩
    refine ⟨⟨_, rfl⟩, ?_⟩
    refine ⟨_, rfl, a, _, d1, _, _, rfl, ea, T.c_Program, T.n_Program__words, rfl, _, rfl, b, _, d2, _, _, rfl, eb, T.c_Program, T.n_Program__words, rfl, wd1, wd2, _, _, rfl, rfl, tupT ew1, tupT ew2, ?_, fun z => ?_, fun z1 z2 => ?_, fun z1 z2 y ny => ?_⟩
    · rw [e1, e2]
      exact Nat.le_trans hle (by decide)
    · have z : p.words = [] := List.map_eq_nil_iff.mp z
      have ew : (p.app q).words = q.words := by rw [aw, z]; rfl
      refine ⟨_, wd2, (p.app q).words.map Wd.str, rfl, rfl, .inr (tupT (by rw [← wstrs_map, ew]; exact ew2)), sums, ?_⟩
      exact fin wd2 H (fun _ _ e => e) (by rw [ew]; exact ew2) (fun r H' s h => k r H' s h) (join_eq _ _)
    · have z2 : q.words = [] := List.map_eq_nil_iff.mp z2
      have ew : (p.app q).words = p.words := by rw [aw, z2, List.append_nil]
      refine ⟨_, wd1, (p.app q).words.map Wd.str, rfl, rfl, .inr (tupT (by rw [← wstrs_map, ew]; exact ew1)), sums, ?_⟩
      exact fin wd1 H (fun _ _ e => e) (by rw [ew]; exact ew1) (fun r H' s h => k r H' s h) (join_eq _ _)
    · have sy := same_new (o := .tup (wstrs p.words ++ wstrs q.words)) ny
      have ey : upd H y (.tup (wstrs p.words ++ wstrs q.words)) y = some (.tup (wstrs (p.app q).words)) := by
        rw [upd_same, aw]
        unfold wstrs
        rw [List.map_append]
      refine ⟨_, y, (p.app q).words.map Wd.str, rfl, rfl, .inr (tupT (by rw [← wstrs_map]; exact ey)), sums, ?_⟩
      exact fin y _ sy ey (fun r H' s h => k r H' (sy.trans s) h) (join_eq _ _)
end
end K04P

set_option Elab.async false
set_option linter.all false
set_option maxRecDepth 100000
set_option maxHeartbeats 4000000
namespace K04P
open PySem PySem.Spec PyProof.Rows L2 RT WM K04 TL
theorem joinL_cons (S x : List Nat) {l : List (List Nat)} (h : l ≠ []) : joinL S (x :: l) = x ++ (S ++ joinL S l) := by
  cases l with
  | nil => exact absurd rfl h
  | cons y l => rfl
theorem joinL_snoc (S y : List Nat) : ∀ {l : List (List Nat)}, l ≠ [] → joinL S (l ++ [y]) = joinL S l ++ (S ++ y)
  | [], h => absurd rfl h
  | [x], _ => rfl
  | x :: z :: l, _ => by
    rw [List.cons_append, joinL_cons S x (by simp), joinL_snoc S y (l := z :: l) (by simp), joinL_cons S x (by simp)]
    simp only [List.append_assoc]
theorem text_rep {p : Ps} (hp : p.words ≠ []) (n : Nat) : (((Str.empty ++ ("( " : Str)) ++ textOf p.words) ++ (" )" : Str)) ++ Str.ofString (toString ((n : Nat) : Int)) = textOf (.op :: (p.words ++ [.cl n])) := by
  refine ext_tl ?_
  have hne : ((p.words.map Wd.str).map tl) ≠ [] := by
    intro e
    exact hp (List.map_eq_nil_iff.mp (List.map_eq_nil_iff.mp e))
  unfold textOf
  rw [tl_append, tl_append, tl_append, tl_append, tl_num, tl_join, tl_join, List.map_cons, List.map_cons, List.map_append, List.map_append, joinL_cons _ _ (by simp)]
  show _ = [40] ++ ([32] ++ joinL [32] ((p.words.map Wd.str).map tl ++ [41 :: numL n]))
  rw [joinL_snoc _ _ hne]
  show ((([] ++ [40, 32]) ++ joinL [32] _) ++ [32, 41]) ++ numL n = _
  simp only [List.append_assoc, List.cons_append, List.nil_append]
section
variable {P : Program} {w : World} {K : PySem.W.Frag} {mg : Str → Option Value} {base : Heap}
theorem kit_ii {K : PySem.W.Frag} : PySem.W.kitOne K (.type "int") (.type "int") = some true := kit_ty (by decide +kernel)
theorem kit_ib {K : PySem.W.Frag} : PySem.W.kitOne K (.type "int") (.type "bool") = some false := kit_ty (by decide +kernel)
def spIsInt : Sp := fun vs H Q _ => ∃ v : Int, vs = [.int v] ∧ Q (.bl true) H
theorem ok_isint (D : Ds K) (T : Tx K mg) : FnOk P w K mg base CX0 1 (dis_integer.adr K) D.fd_is_integer ["value"] spIsInt := by
  refine D.F_is_integer.ok scis_integer (fun vs H Q E h => ?_) (fun cdv A outer s H vs Q E hr h => ?_)
  · obtain ⟨v, rfl, _⟩ := h
    rfl
  · obtain ⟨v, rfl, q⟩ := h
    refine ⟨_, PSs.nox (pss_one (ps_ret (pe_and (pe_callB call_isiY (by rfl) T.z_isinstance (by decide +kernel) (pa_cons (pv 0) (pa_cons (pe_bltn (v := .ty "int") (by rfl) T.z_int (by decide +kernel) rfl) pa_nil)))
      (pe_one (pe_not (pe_callB call_isiY (by rfl) T.z_isinstance (by decide +kernel) (pa_cons (pv 0) (pa_cons (pe_bltn (v := .ty "bool") (by rfl) T.z_bool (by decide +kernel) rfl) pa_nil)))))))), ?_⟩
    refine ⟨_, rfl, _, .ty "int", _, _, true, rfl, .ty "int", .base (.base (.int v)), kit_ii, true, rfl, iteT ?_⟩
    exact ⟨_, rfl, _, .ty "bool", _, _, false, rfl, .ty "bool", .base (.base (.int v)), kit_ib, false, rfl, q⟩
def spWithin : Sp := fun vs H Q _ => ∃ v l m : Int, vs = [.int v, .int l, .int m] ∧ Q (.bl (decide (l ≤ v) && decide (v ≤ m))) H
theorem ok_within (D : Ds K) (T : Tx K mg) : FnOk P w K mg base CX0 2 (dis_integer_within.adr K) D.fd_is_integer_within ["value", "least", "most"] spWithin := by
  have G1 : FnOk P w K mg base CX0 1 _ _ _ spIsInt := ok_isint D T
  refine D.F_is_integer_within.ok scis_integer_within (fun vs H Q E h => ?_) (fun cdv A outer s H vs Q E hr h => ?_)
  · obtain ⟨v, l, m, rfl, _⟩ := h
    rfl
  · obtain ⟨v, l, m, rfl, q⟩ := h
    refine ⟨_, PSs.nox (pss_one (ps_ret (pe_and (pe_call G1 hr (by rfl) T.g_is_integer D.F_is_integer.kp (b_is_integer D) .nil pass0 (pa_cons (pv 0) pa_nil))
      (pe_one (pe_chain op_le op_le (pv 1) (pv 0) (pv 2)))))), ?_⟩
    refine ⟨_, rfl, v, rfl, true, rfl, iteT ?_⟩
    refine ⟨_, rfl, _, rfl, l, v, rfl, rfl, _, rfl, ?_⟩
    by_cases h1 : l ≤ v
    · rw [decide_eq_true h1] at q ⊢
      exact iteT ⟨_, rfl, v, m, rfl, rfl, q⟩
    · rw [decide_eq_false h1] at q ⊢
      exact iteF q
def spTimes : Sp := fun vs H Q _ => ∃ n : Nat, vs = [.int (n : Int)] ∧ n ≤ T30 ∧ Q .non H
theorem ok_times (D : Ds K) (T : Tx K mg) : FnOk P w K mg base CX0 3 (dcheck_times.adr K) D.fd_check_times ["times"] spTimes := by
  have G : FnOk P w K mg base CX0 2 _ _ _ spWithin := ok_within D T
  refine D.F_check_times.ok sccheck_times (fun vs H Q E h => ?_) (fun cdv A outer s H vs Q E hr h => ?_)
  · obtain ⟨n, rfl, _⟩ := h
    rfl
  · obtain ⟨n, rfl, hn, q⟩ := h
    obtain ⟨tM, vM⟩ := T.v_MOST_TIMES
    refine ⟨_, PSs.nox (pss_one (ps_if (pt_not (pt_val (pe_call G hr (by rfl) T.g_is_integer_within D.F_is_integer_within.kp (b_is_integer_within D) .nil pass0 (pa_cons (pv 0) (pa_cons pe_int (pa_cons (pe_glob (v := .int 1000000000000000000000000000000) rfl vM ⟨_, rfl⟩) pa_nil)))))) (pss_one ps_never) pss_nil)), ?_⟩
    refine ⟨_, rfl, (n : Int), 0, 1000000000000000000000000000000, rfl, true, ?_, iteF q⟩
    have h2 : (n : Int) ≤ 1000000000000000000000000000000 := by
      have : n ≤ 1000000000000000000000000000000 := hn
      omega
    rw [decide_eq_true (show (0 : Int) ≤ (n : Int) by omega), decide_eq_true h2]
    rfl
def rep (p : Ps) (n : Nat) : Ps := if n = 0 then .nil else if n = 1 then p else match p with
  | .nil => .nil
  | p => .rp p n .nil
def spMulP (K : PySem.W.Frag) : Sp := fun vs H Q _ => ∃ (a : Addr) (p : Ps) (n : Nat), vs = [.ref a, .int (n : Int)] ∧ n ≤ T30 ∧ IsP K H a p ∧ (2 ≤ n → p ≠ .nil → p.words.length + 2 ≤ 1000 ∧ p.lev + 1 ≤ 12) ∧ ∀ r H', Same H H' → IsP K H' r (rep p n) → Q (.ref r) H'
theorem ok_mulP (D : Ds K) (T : Tx K mg) : FnOk P w K mg base CX0 21 (dProgram_mul.adr K) D.fd_Program_mul ["self", "other"] (spMulP K) := by
  have GC : FnOk P w K mg base CX0 3 _ _ _ spTimes := ok_times D T
  have GI : FnOk P w K mg base CX0 19 _ _ _ (spProg K) := ok_prog D T
  refine D.F_Program_mul.ok scProgram_mul (fun vs H Q E h => ?_) (fun cdv A outer s H vs Q E hr h => ?_)
  · obtain ⟨a, p, n, rfl, _⟩ := h
    rfl
  · obtain ⟨a, p, n, rfl, hn, ha, fit, k⟩ := h
    obtain ⟨tW, vW⟩ := T.v_MOST_WORDS
    obtain ⟨tD, vD⟩ := T.v_MOST_DEPTH
    refine ⟨_, PSs.nox (pss_cons (ps_expr (pe_call GC (hr.mono (by decide)) (by rfl) T.g_check_times D.F_check_times.kp (b_check_times D) .nil pass0 (pa_cons (pv 1) pa_nil)))
      (pss_cons (ps_if (pt_cmpR op_eq (pv 1) pe_int (nomark _)) (pss_one (ps_ret (pe_make T.k_Program GI hr (by rfl) T.g_Program (b_Program_init D) .nil pass0 (pa_cons pe_str pa_nil)))) pss_nil)
      (pss_cons (ps_if (PW.pt (pw_or (pt_cmpR op_eq (pv 1) pe_int (nomark _)) (pw_or1 (pt_not (pt_truth (pe_fld (pv 0) rfl) (by intro _; rfl)))))) (pss_one (ps_ret (pv 0))) pss_nil)
      (pss_cons (ps_if (pt_cmpR op_gt (pe_op op_add (pe_callB call_len_seq (by rfl) T.z_len PySem.boot_len (pa_cons (pe_fld (pv 0) rfl) pa_nil)) pe_int) (pe_glob (v := .int 1000) rfl vW ⟨_, rfl⟩) (nomark _)) (pss_one ps_never) pss_nil)
      (pss_cons (ps_if (pt_cmpR op_gt (pe_op op_add (pe_fld (pv 0) rfl) pe_int) (pe_glob (v := .int 12) rfl vD ⟨_, rfl⟩) (nomark _)) (pss_one ps_never) pss_nil)
      (pss_one (ps_ret (pe_make T.k_Program GI hr (by rfl) T.g_Program (b_Program_init D) .nil pass0 (pa_cons (pe_joined (.cons pe_str (.cons (pe_fmt0 (pe_fld (pv 0) rfl)) (.cons pe_str (.cons (pe_fmt0 (pv 1)) .nil))))) pa_nil))))))))), ?_⟩
    obtain ⟨op, lp, wp, d1, wd1, t1, us1, ea, ew1, et1, pt1⟩ := id ha
    refine ⟨_, rfl, n, rfl, hn, ?_⟩
    by_cases h0 : n = 0
    · subst h0
      refine ⟨_, rfl, rfl, true, rfl, iteT fun x dx nx nd _ => make_p nx nd (p := .nil) rfl trivial (Nat.zero_le _) (Nat.zero_le _) fun H2 s2 hp2 => ⟨rfl, k x H2 s2 hp2⟩⟩
    · refine ⟨_, rfl, rfl, false, congrArg V.bl (decide_eq_false fun z => by injection z with z; omega), iteF ?_⟩
      by_cases h1 : n = 1
      · subst h1
        exact ⟨_, rfl, rfl, true, rfl, iteT ⟨_, rfl, k a H (fun _ _ e => e) ha⟩⟩
      · refine ⟨_, rfl, rfl, false, congrArg V.bl (decide_eq_false fun z => by injection z with z; omega), iteF ?_⟩
        by_cases hpn : p = .nil
        · subst hpn
          refine ⟨_, rfl, a, _, d1, _, _, rfl, ea, T.c_Program, T.n_Program__words, rfl, false, .inr (.inl ⟨_, tupT ew1, rfl⟩), iteT ⟨_, rfl, k a H (fun _ _ e => e) ?_⟩⟩
          have e : rep .nil n = .nil := by
            unfold rep
            rw [if_neg h0, if_neg h1]
          rw [e]
          exact ha
        · have hw0 : p.words ≠ [] := by
            cases p with
            | nil => exact absurd rfl hpn
            | lf c n r => exact nofun
            | rp b n r => exact nofun
          obtain ⟨f1, f2⟩ := fit (by omega) hpn
          have e1 : (wstrs p.words).length = p.words.length := List.length_map ..
          have hrep : rep p n = .rp p n .nil := by
            unfold rep
            rw [if_neg h0, if_neg h1]
            cases p with
            | nil => exact absurd rfl hpn
            | lf c n r => rfl
            | rp b n r => rfl
          have okr : (Ps.rp p n .nil).ok := ⟨hpn, op, ⟨by omega, hn⟩, trivial⟩
          have lvr : (Ps.rp p n .nil).lev ≤ 12 := by
            show max (1 + p.lev) 0 ≤ 12
            omega
          have wr : (Ps.rp p n .nil).words = .op :: (p.words ++ [.cl n]) := rfl
          have wlr : (Ps.rp p n .nil).words.length ≤ 1000 := by
            rw [wr]
            simp only [List.length_cons, List.length_append, List.length_nil]
            omega
          have tl1 := text_len (okW_of op wp lp)
          have nl : (Str.ofString (toString (n : Int))).length ≤ 31 := by
            rw [dgS_eq]
            exact dg_len hn
          have nlog : ((n : Int)).natAbs.log2 < 1920 := by
            by_cases z : ((n : Int)).natAbs = 0
            · rw [z]; decide
            · have t : T30 < 2 ^ 100 := by decide
              have t2 : (2 : Nat) ^ 100 ≤ 2 ^ 1920 := Nat.pow_le_pow_right (by decide) (by decide)
              exact (Nat.log2_lt z).mpr (by omega)
          have L1 : ("( " : Str).length = 2 := rfl
          have L2' : (" )" : Str).length = 2 := rfl
          have L0 : Str.empty.length = 0 := rfl
          have zl : 40000 ≤ sizeLine := by decide
          refine ⟨_, rfl, a, _, d1, _, _, rfl, ea, T.c_Program, T.n_Program__words, rfl, true, .inr (.inl ⟨_, tupT ew1, ?_⟩), iteF ?_⟩
          · unfold wstrs
            cases hw : p.words with
            | nil => exact absurd hw hw0
            | cons x l => rfl
          refine ⟨_, rfl, a, _, d1, _, _, rfl, ea, T.c_Program, T.n_Program__words, rfl, wd1, _, rfl, .inr (tupT ew1), _, _, rfl, rfl, _, _, rfl, rfl, false, ?_, iteF ?_⟩
          · rw [e1]
            exact congrArg V.bl (decide_eq_false (by omega))
          refine ⟨_, rfl, a, _, d1, _, _, rfl, ea, T.c_Program, T.n_Program__depth, rfl, _, _, rfl, rfl, _, _, rfl, rfl, false, congrArg V.bl (decide_eq_false (by omega)), iteF ?_⟩
          refine ⟨_, rfl, ?_, _, rfl, a, _, d1, _, _, rfl, ea, T.c_Program, T.n_Program__text, rfl, .inl ⟨_, rfl, by omega, _, rfl, ?_, _, rfl, ?_, _, rfl, .inr (.inl ⟨_, rfl, nlog, _, rfl, ?_, ?_⟩)⟩⟩
          · rw [strLen_append]; omega
          · rw [strLen_append, strLen_append]; omega
          · rw [strLen_append, strLen_append, strLen_append]; omega
          · rw [strLen_append, strLen_append, strLen_append, strLen_append]; omega
          · refine fun x dx nx nd _ => make_p nx nd (p := .rp p n .nil) ((text_rep hw0 n).trans (by rw [wr])) okr lvr wlr fun H2 s2 hp2 => ⟨rfl, k x H2 s2 (by rw [hrep]; exact hp2)⟩
end
end K04P

set_option Elab.async false
set_option linter.all false
set_option maxRecDepth 100000
set_option maxHeartbeats 4000000
set_option exponentiation.threshold 3000
namespace K04P
open PySem PySem.Spec PyProof.Rows L2 RT WM K04 TL
def Keep (t : Addr) (H H' : Hp) : Prop := ∀ b o, b ≠ t → H b = some o → H' b = some o
theorem Keep.refl (t : Addr) (H : Hp) : Keep t H H := fun _ _ _ h => h
theorem Keep.trans {t : Addr} {H H1 H2 : Hp} (a : Keep t H H1) (b : Keep t H1 H2) : Keep t H H2 := fun c o n h => b c o n (a c o n h)
theorem Same.keep {t : Addr} {H H' : Hp} (e : Same H H') : Keep t H H' := fun b o _ h => e b o h
theorem keep_upd {t : Addr} {H : Hp} {o : HO} : Keep t H (upd H t o) := fun b u n h => by
  rw [upd_ne n]
  exact h
theorem p30 : (10 : Int) ^ ((30 : Int).toNat) = 1000000000000000000000000000000 := by decide
theorem p18 : (10 : Int) ^ ((18 : Int).toNat) = 1000000000000000000 := by decide
theorem pw_ok {j : Int} (h0 : 0 ≤ j) (h : j ≤ 1000000) : CPow 10 j := ⟨h0, h, by decide⟩
theorem some_at {u : Int} (h0 : 0 ≤ u) (h : u < 5) : ∃ m : Nat, atI [V.int 2, V.int 3, V.int 9, V.int 60, V.int (10 ^ ((30 : Int).toNat) - 1)] u = some (.int (m : Int)) ∧ 2 ≤ m ∧ m ≤ 1000000000000000000000000000000 - 1 := by
  rw [p30]
  have e : u = 0 ∨ u = 1 ∨ u = 2 ∨ u = 3 ∨ u = 4 := by omega
  rcases e with rfl | rfl | rfl | rfl | rfl
  · exact ⟨2, atI_nat (j := 0) rfl, by decide, by decide⟩
  · exact ⟨3, atI_nat (j := 1) rfl, by decide, by decide⟩
  · exact ⟨9, atI_nat (j := 2) rfl, by decide, by decide⟩
  · exact ⟨60, atI_nat (j := 3) rfl, by decide, by decide⟩
  · exact ⟨1000000000000000000000000000000 - 1, atI_nat (j := 4) rfl, by decide, by decide⟩
/-- a bag of the law after c draws -/
def Bg (H : Hp) (b : Addr) (c : Nat) : Prop := ∃ A B : Int, H b = some (.lst [.int A, .int B, .int c]) ∧ 0 ≤ A
theorem Bg.same {H H' : Hp} {b : Addr} {c : Nat} (h : Bg H b c) (e : Same H H') : Bg H' b c := by
  obtain ⟨A, B, e1, h1⟩ := h
  exact ⟨A, B, e _ _ e1, h1⟩
section
variable {P : Program} {w : World} {K : PySem.W.Frag} {mg : Str → Option Value} {base : Heap}
def spBag : Sp := fun vs H Q _ => ∃ z : Int, vs = [.int z] ∧ ∀ t H', Same H H' → H t = none → Bg H' t 0 → Q (.ref t) H'
theorem ok_bag (D : Ds K) (T : Tx K mg) : FnOk P w K mg base CX0 1 (d_law_bag.adr K) D.fd__law_bag ["cell"] spBag := by
  refine D.F__law_bag.ok sc_law_bag (fun vs H Q E h => ?_) (fun cdv A outer s H vs Q E hr h => ?_)
  · obtain ⟨z, rfl, _⟩ := h
    rfl
  · obtain ⟨z, rfl, q⟩ := h
    refine ⟨_, PSs.nox (pss_one (ps_ret (pe_lst (pa_cons (pe_callB (call_max2 rfl) (by rfl) T.z_max (by decide +kernel) (pa_cons pe_int (pa_cons (pe_op op_sub (pv 0) (pe_op op_pow pe_int pe_int)) pa_nil))) (pa_cons (pv 0) (pa_cons pe_int pa_nil)))))), ?_⟩
    refine ⟨_, rfl, _, _, rfl, rfl, pw_ok (by decide) (by decide), _, _, rfl, rfl, _, _, rfl, _, rfl, by show 3 ≤ sizeLine; decide, fun t ht => ?_⟩
    refine q t _ (same_new ht) ht ⟨_, z, upd_same, ?_⟩
    split <;> omega
def spPick : Sp := fun vs H Q _ => ∃ (b : Addr) (m : Int) (c : Nat), vs = [.ref b, .int m] ∧ Bg H b c ∧ c ≤ 1000000000000000 ∧ 1 ≤ m ∧ m.natAbs < 2 ^ 1500 ∧
  ∀ (u : Int) H', Keep b H H' → Bg H' b (c + 1) → 0 ≤ u → u < m → Q (.int u) H'
theorem ok_pick (D : Ds K) (T : Tx K mg) : FnOk P w K mg base CX0 1 (d_law_pick.adr K) D.fd__law_pick ["bag", "many"] spPick := by
  refine D.F__law_pick.ok sc_law_pick (fun vs H Q E h => ?_) (fun cdv A outer s H vs Q E hr h => ?_)
  · obtain ⟨b, m, c, rfl, _⟩ := h
    rfl
  · obtain ⟨b, m, c, rfl, ⟨A1, B, eb, hA⟩, hc, hm, hm2, q⟩ := h
    have nd := sc_law_pick.nd
    refine ⟨_, PSs.nox (pss_cons (ps_asg (pe_op op_add (pe_ix ix_list (pv 0) pe_int (fun _ _ => rfl)) pe_int) (pg_sub (pv 0) pe_int set_list))
        (pss_cons (ps_if (pt_cmpR op_gt (pe_ix ix_list (pv 0) pe_int (fun _ _ => rfl)) pe_int (nomark _)) (pss_cons (ps_set (i := 2) nd rfl (.inl rfl) (pe_op op_mod (pe_ix ix_list (pv 0) pe_int (fun _ _ => rfl)) (pv 1)))
        (pss_cons (ps_asg (pe_op op_fdivW (pe_ix ix_list (pv 0) pe_int (fun _ _ => rfl)) (pv 1)) (pg_sub (pv 0) pe_int set_list))
        (pss_one (ps_ret (pv 2))))) pss_nil)
        (pss_cons (ps_set (i := 3) nd rfl (.inl rfl) (pe_op op_mod (pe_op op_add (pe_op op_add (pe_op op_mulW (pe_op op_mod (pe_ix ix_list (pv 0) pe_int (fun _ _ => rfl)) pe_int) pe_int) (pe_op op_mulW (pe_ix ix_list (pv 0) pe_int (fun _ _ => rfl)) pe_int)) pe_int) pe_int))
        (pss_cons (ps_set (i := 4) nd rfl (.inl rfl) (pe_op op_mod (pe_op op_add (pe_op op_mulW (pv 3) (pv 3)) (pe_op op_mulW (pe_ix ix_list (pv 0) pe_int (fun _ _ => rfl)) pe_int)) pe_int))
        (pss_one (ps_ret (pe_op op_mod (pe_op op_fdivW (pe_op op_add (pe_op op_mulW (pv 3) pe_int) (pv 4)) pe_int) (pv 1)))))))), ?_⟩
    have g2 : atI [V.int A1, V.int B, V.int c] 2 = some (.int c) := atI_nat (j := 2) rfl
    refine ⟨_, rfl, b, _, 2, _, rfl, rfl, lstL eb, g2, _, _, rfl, rfl, _, rfl, b, _, 2, 2, rfl, rfl, eb, rfl, ?_⟩
    have e2 : upd H b (.lst ([V.int A1, V.int B, V.int c].set 2 (.int ((c : Int) + 1)))) b = some (.lst [.int A1, .int B, .int ((c : Int) + 1)]) := upd_same
    have k0 : atI [V.int A1, V.int B, V.int ((c : Int) + 1)] 0 = some (.int A1) := atI_nat (j := 0) rfl
    have k1 : atI [V.int A1, V.int B, V.int ((c : Int) + 1)] 1 = some (.int B) := atI_nat (j := 1) rfl
    have k2 : atI [V.int A1, V.int B, V.int ((c : Int) + 1)] 2 = some (.int ((c : Int) + 1)) := atI_nat (j := 2) rfl
    refine ⟨_, rfl, b, _, 0, _, rfl, rfl, lstL e2, k0, _, _, rfl, rfl, _, rfl, ite2 (fun e => ?_) (fun e => ?_)⟩
    · have e0 : 0 < A1 := of_decide_eq_true e
      refine ⟨_, rfl, b, _, 0, _, rfl, rfl, lstL e2, k0, _, rfl, _, _, rfl, rfl, by show 0 < m; omega, ?_⟩
      refine ⟨_, rfl, b, _, 0, _, rfl, rfl, lstL e2, k0, _, rfl, _, _, rfl, rfl, wide_div (b := 1500) (by omega) hm2 (by decide) (by decide), ?_⟩
      refine ⟨_, rfl, b, _, 0, 0, rfl, rfl, e2, rfl, _, rfl, ?_⟩
      exact q _ _ (keep_upd.trans keep_upd) ⟨_, B, upd_same, Int.ediv_nonneg hA (by omega)⟩ (Int.emod_nonneg _ (by omega)) (Int.emod_lt_of_pos _ (by omega))
    · have m0 : 0 ≤ B % 2147483629 := Int.emod_nonneg _ (by decide)
      have m1 : B % 2147483629 < 2147483629 := Int.emod_lt_of_pos _ (by decide)
      refine ⟨_, rfl, b, _, 1, _, rfl, rfl, lstL e2, k1, _, _, rfl, rfl, by show (0 : Int) < _; decide, _, _, rfl, rfl, wide_mul (a := 40) (b := 40) (by omega) (by decide) (by decide) (by decide) (by decide), _, rfl, b, _, 2, _, rfl, rfl, lstL e2, k2, _, _, rfl, rfl, wide_mul (a := 60) (b := 40) (by omega) (by decide) (by decide) (by decide) (by decide), _, _, rfl, rfl, _, _, rfl, rfl, _, _, rfl, rfl, by show (0 : Int) < _; decide, ?_⟩
      obtain ⟨f, hf⟩ : ∃ f, f = (B % 2147483629 * 48271 + ((c : Int) + 1) * 69621 + 12345) % 2147483647 := ⟨_, rfl⟩
      have f0 : 0 ≤ f := hf ▸ Int.emod_nonneg _ (by decide)
      have f1 : f < 2147483647 := hf ▸ Int.emod_lt_of_pos _ (by decide)
      show gName 3 (V.int ((B % 2147483629 * 48271 + ((c : Int) + 1) * 69621 + 12345) % 2147483647)) _ _ _
      rw [← hf]
      have fb : f.natAbs < 2 ^ 40 := by omega
      refine ⟨_, rfl, _, rfl, _, _, rfl, rfl, wide_mul (a := 40) (b := 40) fb fb (by decide) (by decide) (by decide), _, rfl, b, _, 2, _, rfl, rfl, lstL e2, k2, _, _, rfl, rfl, wide_mul (a := 60) (b := 40) (by omega) (by decide) (by decide) (by decide) (by decide), _, _, rfl, rfl, _, _, rfl, rfl, by show (0 : Int) < _; decide, ?_⟩
      refine ⟨_, rfl, _, _, rfl, rfl, wide_mul (a := 40) (b := 40) fb (by decide) (by decide) (by decide) (by decide), _, rfl, _, _, rfl, rfl, _, _, rfl, rfl, wide_div (b := 10) (by decide) (by decide) (by decide) (by decide), _, rfl, _, _, rfl, rfl, by show 0 < m; omega, ?_⟩
      exact q _ _ keep_upd ⟨A1, B, e2, hA⟩ (Int.emod_nonneg _ (by omega)) (Int.emod_lt_of_pos _ (by omega))
def spNumber : Sp := fun vs H Q _ => ∃ (b : Addr) (f : Int) (c : Nat), vs = [.ref b, .int f] ∧ Bg H b c ∧ c ≤ 900000000000000 ∧ 0 ≤ f ∧ f ≤ 1 ∧
  ∀ (n : Nat) H', Keep b H H' → Bg H' b (c + 2) → 2 ≤ n → n ≤ WM.T30 → Q (.str (Str.ofString (toString ((n : Nat) : Int)))) H'
theorem ok_number (D : Ds K) (T : Tx K mg) : FnOk P w K mg base CX0 2 (d_law_number.adr K) D.fd__law_number ["bag", "far"] spNumber := by
  have GP : FnOk P w K mg base CX0 1 _ _ _ spPick := ok_pick D T
  refine D.F__law_number.ok sc_law_number (fun vs H Q E h => ?_) (fun cdv A outer s H vs Q E hr h => ?_)
  · obtain ⟨b, f, c, rfl, _⟩ := h
    rfl
  · obtain ⟨b, f, c, rfl, hb, hc, f0, f1, q⟩ := h
    refine ⟨_, PSs.nox (pss_one (ps_ret (pe_callTy call_str_int (by rfl) T.z_str (by decide +kernel) (pa_cons (pe_op op_add pe_int (pe_call GP hr (by rfl) T.g__law_pick D.F__law_pick.kp (b__law_pick D) .nil pass0 (pa_cons (pv 0) (pa_cons (pe_ix ix_list (pe_lst (pa_cons pe_int (pa_cons pe_int (pa_cons pe_int (pa_cons pe_int (pa_cons (pe_op op_sub (pe_op op_pow pe_int pe_int) pe_int) pa_nil)))))) (pe_call GP hr (by rfl) T.g__law_pick D.F__law_pick.kp (b__law_pick D) .nil pass0 (pa_cons (pv 0) (pa_cons (pe_op op_add pe_int (pe_op op_mulW pe_int (pv 1))) pa_nil))) (fun _ _ => rfl)) pa_nil)))) pa_nil)))), ?_⟩
    obtain ⟨A, B, eb, _⟩ := id hb
    refine ⟨_, rfl, _, _, rfl, rfl, pw_ok (by decide) (by decide), _, _, rfl, rfl, by show 5 ≤ sizeLine; decide, fun l hl => ?_⟩
    have sl := same_new (o := .lst [.int 2, .int 3, .int 9, .int 60, .int (10 ^ (30 : Int).toNat - 1)]) hl
    have nl : l ≠ b := Ne.symm (ne_of_none eb hl)
    refine ⟨_, rfl, _, rfl, _, _, rfl, rfl, wide_mul (a := 10) (b := 10) (by decide) (by omega) (by decide) (by decide) (by decide), _, _, rfl, rfl, b, _, c, rfl, hb.same sl, by omega, by omega, ?_, fun u H1 k1 b1 u0 u1 => ?_⟩
    · exact Nat.lt_of_lt_of_le (show (2 + 3 * f).natAbs < 2 ^ 10 by omega) (Nat.pow_le_pow_right (by decide) (by decide))
    obtain ⟨m, em, m2, mT⟩ := some_at (u := u) u0 (by omega)
    refine ⟨l, _, u, _, rfl, rfl, lstL (k1 _ _ nl upd_same), em, b, (m : Int), c + 1, rfl, b1, by omega, by omega, ?_, fun u2 H2 k2 b2 v0 v1 => ?_⟩
    · have p100 : (2 : Nat) ^ 100 = 1267650600228229401496703205376 := by decide
      have h1 : ((m : Int)).natAbs < 2 ^ 100 := by
        rw [p100]
        omega
      exact Nat.lt_of_lt_of_le h1 (Nat.pow_le_pow_right (by decide) (by decide))
    obtain ⟨k, rfl⟩ := Int.eq_ofNat_of_zero_le v0
    have hk : 2 + k ≤ WM.T30 := by
      have : WM.T30 = 1000000000000000000000000000000 := by decide
      omega
    refine ⟨_, _, rfl, rfl, ((2 + k : Nat) : Int), ?_, ?_, q (2 + k) H2 ((Same.keep sl).trans (k1.trans k2)) b2 (by omega) hk⟩
    · show [V.int ((2 : Int) + (k : Int))] = _
      rw [show (2 : Int) + (k : Int) = ((2 + k : Nat) : Int) by omega]
    · have p100 : (2 : Nat) ^ 100 = 1267650600228229401496703205376 := by decide
      have hT : WM.T30 = 1000000000000000000000000000000 := by decide
      have h1 : (((2 + k : Nat) : Int)).natAbs < 2 ^ 100 := by
        rw [p100]
        omega
      have h2 : (((2 + k : Nat) : Int)).natAbs.log2 < 100 := PySem.Flt.log2_lt_of (by decide) h1
      exact Nat.lt_trans h2 (by decide)
end
end K04P

set_option linter.all false
set_option maxRecDepth 100000
set_option maxHeartbeats 4000000
/-! the steps of a tree -/
namespace WM
open PySem PySem.Spec PyProof.Rows L2 TL
def Ps.steps : Ps → List Nat
  | .nil => []
  | .lf c n r => List.replicate n c ++ r.steps
  | .rp b n r => (List.replicate n b.steps).flatten ++ r.steps
theorem steps_len (p : Ps) : p.steps.length = p.size := by
  induction p with
  | nil => rfl
  | lf c n r ih => simp [Ps.steps, Ps.size, ih]
  | rp b n r ihb ih => simp [Ps.steps, Ps.size, ih, ihb, Nat.mul_comm]
theorem app_steps (p q : Ps) : (p.app q).steps = p.steps ++ q.steps := by
  induction p with
  | nil => rfl
  | lf c n r ih => simp [Ps.app, Ps.steps, ih]
  | rp b n r _ ih => simp [Ps.app, Ps.steps, ih]
theorem size_pos {p : Ps} (h : p.ok) (hn : p ≠ .nil) : 1 ≤ p.size := by
  induction p with
  | nil => exact absurd rfl hn
  | lf c n r ih =>
    have := h.1.2.1
    simp only [Ps.size]
    omega
  | rp b n r ihb ih =>
    have h1 := ihb h.2.1 h.1
    have h2 := h.2.2.1.1
    have : 1 * 2 ≤ b.size * n := Nat.mul_le_mul h1 h2
    simp only [Ps.size]
    omega
/-- not many words for so many steps -/
theorem words_few {p : Ps} (h : p.ok) : p.words.length + 1 ≤ 2 * p.size ∨ p = .nil := by
  induction p with
  | nil => exact .inr rfl
  | lf c n r ih =>
    refine .inl ?_
    have h2 := h.1.2.1
    have e1 : (Ps.lf c n r).words.length = r.words.length + 1 := rfl
    have e2 : (Ps.lf c n r).size = n + r.size := rfl
    rcases ih h.2 with h1 | rfl
    · omega
    · have e3 : Ps.nil.words.length = 0 := rfl
      have e4 : Ps.nil.size = 0 := rfl
      omega
  | rp b n r ihb ih =>
    refine .inl ?_
    have h3 := h.2.2.1.1
    have h4 := size_pos h.2.1 h.1
    have h5 : b.size * 2 ≤ b.size * n := Nat.mul_le_mul_left _ h3
    have e1 : (Ps.rp b n r).words.length = b.words.length + (r.words.length + 1) + 1 := by
      simp only [Ps.words, List.length_cons, List.length_append]
    have e2 : (Ps.rp b n r).size = b.size * n + r.size := rfl
    have h1 : b.words.length + 1 ≤ 2 * b.size := (ihb h.2.1).resolve_right h.1
    rcases ih h.2.2.2 with h2 | rfl
    · omega
    · have e3 : Ps.nil.words.length = 0 := rfl
      have e4 : Ps.nil.size = 0 := rfl
      omega
theorem mul_ok {x : Str} {n : Int} (hx : x.length ≤ 5000) (h0 : 0 ≤ n) (h1 : n ≤ 20) : MulOk x n := by
  refine ⟨?_, fun hn _ => ?_, fun hn _ => ?_⟩
  · rw [decide_eq_false (by omega), decide_eq_false (by omega)]
    rfl
  · intro h
    have : (2 ^ 63 - 1 : Int) / n ≥ 5000 := by
      rw [ge_iff_le, Int.le_ediv_iff_mul_le (by omega)]
      omega
    omega
  · show decide (x.length * n.toNat > sizeLine) = false
    refine decide_eq_false ?_
    have h2 : x.length * n.toNat ≤ 5000 * 20 := Nat.mul_le_mul hx (by omega)
    have h3 : 5000 * 20 ≤ sizeLine := by decide
    omega
theorem foldl_any (x : Array Nat) : ∀ (k : Nat) (acc : Array Nat), ((List.replicate k x).foldl (· ++ ·) acc).toList = acc.toList ++ (List.replicate k x.toList).flatten
  | 0, acc => by simp
  | k + 1, acc => by
    rw [List.replicate_succ, List.foldl_cons, foldl_any x k]
    simp [List.replicate_succ]
theorem tl_mul (x : Str) (n : Nat) : tl (Txt.mul x (n : Int)) = (List.replicate n (tl x)).flatten := by
  unfold Txt.mul
  by_cases h1 : (n : Int) < 1
  · rw [if_pos h1]
    have e : n = 0 := by omega
    subst e
    rfl
  · rw [if_neg h1]
    by_cases h2 : n = 1
    · subst h2
      rw [if_pos (by rfl)]
      simp
    · by_cases h3 : x.length = 0
      · rw [if_pos (by rw [h3]; simp)]
        have e : tl x = [] := by
          rw [WM.len_tl] at h3
          exact List.length_eq_zero_iff.mp h3
        rw [e]
        simp
      · have e : ((n : Int) == 1 || x.length == 0) = false := by
          have a1 : ((n : Int) == 1) = false := by simpa using (by omega : ¬ (n : Int) = 1)
          have a2 : (x.length == 0) = false := by simpa using h3
          rw [a1, a2]
          rfl
        rw [if_neg (by rw [e]; decide)]
        show ((List.replicate ((n : Int)).toNat x.cps).foldl (· ++ ·) #[]).toList = _
        rw [foldl_any]
        simp
def stS (p : Ps) : Str := ⟨p.steps.toArray⟩
theorem st_len (p : Ps) : (stS p).length = p.size := by
  rw [WM.len_tl]
  exact steps_len p
theorem st_lf (p : Ps) (c n : Nat) : stS p ++ Txt.mul ⟨#[c]⟩ (n : Int) = stS (p.app (.lf c n .nil)) := by
  refine ext_tl ?_
  rw [tl_append, tl_mul]
  show p.steps ++ (List.replicate n [c]).flatten = (p.app (.lf c n .nil)).steps
  rw [app_steps]
  show _ = p.steps ++ (List.replicate n c ++ [])
  rw [List.append_nil]
  congr 1
  induction n with
  | zero => rfl
  | succ n ih => simp [List.replicate_succ, ih]
theorem st_rp (p b : Ps) (n : Nat) : stS p ++ Txt.mul (stS b) (n : Int) = stS (p.app (.rp b n .nil)) := by
  refine ext_tl ?_
  rw [tl_append, tl_mul]
  show p.steps ++ (List.replicate n b.steps).flatten = (p.app (.rp b n .nil)).steps
  rw [app_steps]
  show _ = p.steps ++ ((List.replicate n b.steps).flatten ++ [])
  rw [List.append_nil]
theorem word_lf (c n : Nat) (h : 1 ≤ n) : (⟨#[c]⟩ : Str) ++ Txt.mul (Str.ofString (toString ((n : Nat) : Int))) (if decide ((n : Int) > 1) = true then 1 else 0) = (Wd.lt c n).str := by
  refine ext_tl ?_
  rw [tl_append]
  by_cases h1 : n = 1
  · subst h1
    rfl
  · rw [decide_eq_true (show (n : Int) > 1 by omega), if_pos rfl]
    have e := tl_mul (Str.ofString (toString ((n : Nat) : Int))) 1
    rw [show ((1 : Nat) : Int) = 1 from rfl] at e
    rw [e, tl_num]
    show [c] ++ (List.replicate 1 (numL n)).flatten = if n = 1 then [c] else c :: numL n
    rw [if_neg h1]
    simp
theorem word_cl (n : Nat) : (")" : Str) ++ Str.ofString (toString ((n : Nat) : Int)) = (Wd.cl n).str := by
  refine ext_tl ?_
  rw [tl_append, tl_num]
  rfl
end WM

set_option Elab.async false
set_option linter.all false
set_option maxRecDepth 100000
set_option maxHeartbeats 4000000
set_option exponentiation.threshold 3000
namespace K04P
open PySem PySem.Spec PyProof.Rows L2 RT WM K04 TL
theorem word_two (c : Nat) {n : Nat} (h : n ≠ 1) : (⟨#[c]⟩ : Str) ++ Str.ofString (toString ((n : Nat) : Int)) = (Wd.lt c n).str := by
  refine ext_tl ?_
  rw [tl_append, tl_num]
  show [c] ++ numL n = if n = 1 then [c] else c :: numL n
  rw [if_neg h]
  rfl
theorem word_one (c : Nat) : (⟨#[c]⟩ : Str) ++ ("" : Str) = (Wd.lt c 1).str := by
  refine ext_tl ?_
  rw [tl_append]
  rfl
theorem Keep.freeB {t : Addr} {H H' : Hp} {p : Addr} (e : Keep t H H') (h : H' p = none) (n : p ≠ t) : H p = none := by
  cases q : H p with
  | none => rfl
  | some o =>
    rw [e p o n q] at h
    cases h
theorem ifAnd3 {A B C : TT} {T E : TS} {D : Ends} {σ : L2.St} {H : Hp} {a b c : Bool} (hA : ∀ Q : Bool → Hp → Prop, Q a H → A σ H Q) (hB : ∀ Q : Bool → Hp → Prop, Q b H → B σ H Q) (hC : ∀ Q : Bool → Hp → Prop, Q c H → C σ H Q) (hT : a = true → b = true → c = true → T D σ H) (hE : ¬ (a = true ∧ b = true ∧ c = true) → E D σ H) : tIfS (tAnd A (tAnd B C)) T E D σ H := by
  refine hA _ ?_
  cases a with
  | false => exact iteF (hE (fun z => Bool.false_ne_true z.1))
  | true =>
    refine iteT (hB _ ?_)
    cases b with
    | false => exact iteF (hE (fun z => Bool.false_ne_true z.2.1))
    | true =>
      refine iteT (hC _ ?_)
      cases c with
      | false => exact iteF (hE (fun z => Bool.false_ne_true z.2.2))
      | true => exact iteT (hT rfl rfl rfl)
section
variable {P : Program} {w : World} {K : PySem.W.Frag} {mg : Str → Option Value} {base : Heap}
def spLW (d : Nat) : Sp := fun vs H Q _ => ∃ (b : Addr) (m dp : Nat) (S : Str) (f : Int) (c : Nat), vs = [.ref b, .int (m : Int), .int (dp : Int), .str S, .int f] ∧ dp < d ∧ Bg H b c ∧ c + 20 * m ≤ 900000000000000 ∧ 1 ≤ m ∧ m ≤ 1000 ∧ (∀ x ∈ S.cps.toList, x ∈ six) ∧ 1 ≤ S.length ∧ S.length ≤ 10 ∧ 0 ≤ f ∧ f ≤ 1 ∧
  ∀ (wl : Addr) (p : Ps) (c' : Nat) H', Keep b H H' → Bg H' b c' → c ≤ c' → c' ≤ c + 1 + 10 * p.words.length → p.ok → p.lev ≤ dp → 1 ≤ p.words.length → p.words.length ≤ m → H wl = none → H' wl = some (.lst (wstrs p.words)) → Q (.ref wl) H'
theorem ok_lw (D : Ds K) (T : Tx K mg) : ∀ d, FnOk P w K mg base CX0 (3 + d) (d_law_words.adr K) D.fd__law_words ["bag", "most", "deep", "letters", "far"] (spLW d) := by
  have GP : FnOk P w K mg base CX0 1 _ _ _ spPick := ok_pick D T
  have GN : FnOk P w K mg base CX0 2 _ _ _ spNumber := ok_number D T
  intro d
  induction d with
  | zero =>
    refine D.F__law_words.ok sc_law_words (fun vs H Q E h => ?_) (fun cdv A outer s H vs Q E hr h => ?_)
    · obtain ⟨b, m, dp, S, f, c, rfl, _⟩ := h
      rfl
    · obtain ⟨b, m, dp, S, f, c, rfl, h0, _⟩ := h
      exact absurd h0 (Nat.not_lt_zero _)
  | succ d ih =>
  refine D.F__law_words.ok sc_law_words (fun vs H Q E h => ?_) (fun cdv A outer s H vs Q E hr h => ?_)
  · obtain ⟨b, m, dp, S, f, c, rfl, _⟩ := h
    rfl
  · obtain ⟨b, m, dp, S, f, c, rfl, hdp, hb, hc, m1, m2, hS, S1, S2, f0, f1, q⟩ := h
    have nd := sc_law_words.nd
    have hr' : Room (3 + d) _ := hr
    have hr1 := hr'.mono (show 1 ≤ 3 + d by omega)
    have hr2 := hr'.mono (show 2 ≤ 3 + d by omega)
    refine ⟨_, PSs.nox (pss_cons (ps_set (i := 5) nd rfl (.inl rfl) (pe_lst pa_nil))
        (pss_cons (ps_set (i := 6) nd rfl (.inl rfl) (pe_op op_add pe_int (pe_call GP hr1 (by rfl) T.g__law_pick D.F__law_pick.kp (b__law_pick D) .nil pass0 (pa_cons (pv 0) (pa_cons (pv 1) pa_nil)))))
        (pss_cons (ps_while PassesOwn.never (pt_cmpR op_lt (pe_callB call_len_seq (by rfl) T.z_len PySem.boot_len (pa_cons (pv 5) pa_nil)) (pv 6) (nomark _))
      (pss_cons (ps_set (i := 7) nd rfl (.inl rfl) (pe_call GP hr1 (by rfl) T.g__law_pick D.F__law_pick.kp (b__law_pick D) .nil pass0 (pa_cons (pv 0) (pa_cons pe_int pa_nil))))
        (pss_cons (ps_set (i := 8) nd rfl (.inl rfl) (pe_op op_sub (pv 6) (pe_callB call_len_seq (by rfl) T.z_len PySem.boot_len (pa_cons (pv 5) pa_nil))))
        (pss_one (ps_if (PW.pt (pw_and (pt_cmpR op_eq (pv 7) pe_int (nomark _)) (pw_and (pt_cmpR op_gt (pv 2) pe_int (nomark _)) (pw_and1 (pt_cmpR op_gt (pv 8) pe_int (nomark _)))))) (pss_cons (ps_set (i := 9) nd rfl (.inl rfl) (pe_call ih hr' (by rfl) T.g__law_words D.F__law_words.kp (b__law_words D) .nil pass0 (pa_cons (pv 0) (pa_cons (pe_op op_sub (pv 8) pe_int) (pa_cons (pe_op op_sub (pv 2) pe_int) (pa_cons (pv 3) (pa_cons (pv 4) pa_nil)))))))
        (pss_one (ps_set (i := 5) nd rfl (.inl rfl) (pe_op op_cat (pe_op op_cat (pe_op op_cat (pv 5) (pe_lst (pa_cons pe_str pa_nil))) (pv 9)) (pe_lst (pa_cons (pe_op op_add_str pe_str (pe_call GN hr2 (by rfl) T.g__law_number D.F__law_number.kp (b__law_number D) .nil pass0 (pa_cons (pv 0) (pa_cons (pv 4) pa_nil)))) pa_nil)))))) (pss_one (ps_expr (pe_bm PySem.F.plainAttrs_list PySem.F.slot_list_append PySem.F.type_list_append mt_append (pv 5) (pa_cons (pe_op op_add_str (pe_ix ix_str (pv 3) (pe_call GP hr1 (by rfl) T.g__law_pick D.F__law_pick.kp (b__law_pick D) .nil pass0 (pa_cons (pv 0) (pa_cons (pe_callB call_len_str (by rfl) T.z_len PySem.boot_len (pa_cons (pv 3) pa_nil)) pa_nil))) (fun _ _ => rfl)) (pe_ix ix_list (pe_lst (pa_cons pe_str (pa_cons (pe_call GN hr2 (by rfl) T.g__law_number D.F__law_number.kp (b__law_number D) .nil pass0 (pa_cons (pv 0) (pa_cons (pv 4) pa_nil))) pa_nil))) (pe_callTy call_int1 (by rfl) T.z_int (by decide +kernel) (pa_cons (pe_cmpR op_eq (pv 7) pe_int (nomark _)) pa_nil)) (fun _ _ => rfl))) pa_nil)))))))))
        (pss_one (ps_ret (pv 5)))))), ?_⟩
    obtain ⟨A0, B0, eb0, _⟩ := id hb
    refine ⟨by show 0 ≤ sizeLine; decide, fun l hl => ?_⟩
    have sl := same_new (o := .lst []) hl
    refine ⟨_, rfl, _, rfl, b, (m : Int), c, rfl, hb.same sl, by omega, by omega, ?_, fun u H1 k1 b1 u0 u1 => ⟨_, _, rfl, rfl, ?_⟩⟩
    · exact Nat.lt_of_lt_of_le (show ((m : Int)).natAbs < 2 ^ 20 by omega) (Nat.pow_le_pow_right (by decide) (by decide))
    obtain ⟨g, rfl⟩ := Int.eq_ofNat_of_zero_le u0
    obtain ⟨M, eM⟩ : ∃ M, M = 1 + g := ⟨_, rfl⟩
    have hMm : M ≤ m := by omega
    show Ends.nx _ [some (.ref b), some (.int (m : Int)), some (.int (dp : Int)), some (.str S), some (.int f), some (.ref l), some (.int (1 + (g : Int))), none, none, none] _
    rw [show (1 : Int) + (g : Int) = (M : Int) by omega]
    have ntl : l ≠ b := Ne.symm (ne_of_none eb0 hl)
    refine ⟨fun r σ H' => ∃ (wl : Addr) (p : Ps) (c' : Nat) (z7 z8 z9 : Option V), r = M - p.words.length ∧ p.words.length ≤ M ∧ Keep b H H' ∧ Bg H' b c' ∧ c ≤ c' ∧ c' ≤ c + 1 + 10 * p.words.length ∧ p.ok ∧ p.lev ≤ dp ∧ H wl = none ∧ H' wl = some (.lst (wstrs p.words)) ∧
      σ = [some (.ref b), some (.int (m : Int)), some (.int (dp : Int)), some (.str S), some (.int f), some (.ref wl), some (.int (M : Int)), z7, z8, z9],
      ⟨M, l, .nil, c + 1, none, none, none, rfl, Nat.zero_le _, (Same.keep sl).trans k1, b1, by omega, by omega, trivial, Nat.zero_le _, hl, k1 _ _ ntl upd_same, rfl⟩, fun r σ H' h => ?_⟩
    obtain ⟨wl, p, c', z7, z8, z9', rfl, hpM, kH, bg, c1, c2, okp, lvp, hw, ew, rfl⟩ := h
    have lw : (wstrs p.words).length = p.words.length := List.length_map ..
    by_cases hfull : p.words.length = M
    · refine ⟨_, rfl, wl, _, rfl, .inl (lstL ew), _, rfl, _, _, rfl, rfl, false, congrArg V.bl (decide_eq_false (by rw [lw]; omega)), iteF ⟨_, rfl, ?_⟩⟩
      exact q wl p c' H' kH bg c1 c2 okp lvp (by omega) (by omega) hw ew
    refine ⟨_, rfl, wl, _, rfl, .inl (lstL ew), _, rfl, _, _, rfl, rfl, true, congrArg V.bl (decide_eq_true (by rw [lw]; omega)), iteT ?_⟩
    obtain ⟨Ab, Bb, ebb, _⟩ := id bg
    have nwb : wl ≠ b := fun z => by
      rw [← z, hw] at eb0
      cases eb0
    have small : ∀ {k : Int}, k.natAbs < 2 ^ 20 → k.natAbs < 2 ^ 1500 := fun h => Nat.lt_of_lt_of_le h (Nat.pow_le_pow_right (by decide) (by decide))
    refine ⟨fun σ' H'' => ∃ (wl : Addr) (p2 : Ps) (c' : Nat) (z7 z8 z9 : Option V), p.words.length < p2.words.length ∧ p2.words.length ≤ M ∧ Keep b H H'' ∧ Bg H'' b c' ∧ c ≤ c' ∧ c' ≤ c + 1 + 10 * p2.words.length ∧ p2.ok ∧ p2.lev ≤ dp ∧ H wl = none ∧ H'' wl = some (.lst (wstrs p2.words)) ∧
      σ' = [some (.ref b), some (.int (m : Int)), some (.int (dp : Int)), some (.str S), some (.int f), some (.ref wl), some (.int (M : Int)), z7, z8, z9],
      fun σ' H'' h => ?_, ?_⟩
    · obtain ⟨wl, p2, c', z7, z8, z9, g1, g2, g3, g4, g5, g6, g7, g8, g9, g10, rfl⟩ := h
      exact ⟨M - p2.words.length, by omega, wl, p2, c', z7, z8, z9, rfl, g2, g3, g4, g5, g6, g7, g8, g9, g10, rfl⟩
    refine ⟨_, rfl, b, 5, c', rfl, bg, by omega, by omega, small (by decide), fun w0 H2 k2 b2 w1 w2 => ?_⟩
    have ew2 := k2 _ _ nwb ew
    have k2' := kH.trans k2
    refine ⟨_, rfl, _, rfl, wl, _, rfl, .inl (lstL ew2), _, _, rfl, rfl, ?_⟩
    rw [lw]
    dsimp only [List.set_cons_zero, List.set_cons_succ]
    obtain ⟨R, eR⟩ : ∃ R, R = M - p.words.length := ⟨_, rfl⟩
    show tIfS _ _ _ _ [some (.ref b), some (.int (m : Int)), some (.int (dp : Int)), some (.str S), some (.int f), some (.ref wl), some (.int (M : Int)), some (.int w0), some (.int ((M : Int) - (p.words.length : Int))), z9'] _
    rw [show (M : Int) - (p.words.length : Int) = (R : Int) by omega]
    refine ifAnd3 (a := decide (V.int w0 = V.int 0)) (b := decide ((0 : Int) < (dp : Int))) (c := decide ((2 : Int) < (R : Int))) (fun Q h => ⟨_, rfl, rfl, _, rfl, h⟩) (fun Q h => ⟨_, rfl, _, _, rfl, rfl, _, rfl, h⟩) (fun Q h => ⟨_, rfl, _, _, rfl, rfl, _, rfl, h⟩) (fun g1 g2 g3 => ?_) (fun _ => ?_)
    · have d0 : 0 < dp := by have := of_decide_eq_true g2; omega
      have r2 : 2 < R := by have := of_decide_eq_true g3; omega
      refine ⟨_, rfl, _, rfl, _, _, rfl, rfl, _, rfl, _, _, rfl, rfl, _, rfl, _, rfl, b, R - 2, dp - 1, S, f, c' + 1, ?_, by omega, b2, by omega, by omega, by omega, hS, S1, S2, f0, f1, fun wl2 p2 c3 H3 k3 b3 l3 u3 ok3 lv3 n1 n2 nw2 ew3 => ?_⟩
      · show [V.ref b, V.int ((R : Int) - 2), V.int ((dp : Int) - 1), V.str S, V.int f] = _
        rw [show (R : Int) - 2 = ((R - 2 : Nat) : Int) by omega, show (dp : Int) - 1 = ((dp - 1 : Nat) : Int) by omega]
      have ln2 : (wstrs p2.words).length = p2.words.length := List.length_map ..
      obtain ⟨A3, B3, e3, _⟩ := id b3
      have nw2b : wl2 ≠ b := by
        obtain ⟨A2, B2, e2, _⟩ := id b2
        exact Ne.symm (ne_of_none e2 nw2)
      have ew4 := k3 _ _ nwb ew2
      have z1000 : 100000 ≤ sizeLine := by decide
      refine ⟨_, rfl, by show 1 ≤ sizeLine; decide, fun a1 y1 => ?_⟩
      have q1 := same_new (o := .lst [.str "("]) y1
      refine ⟨_, _, _, _, rfl, rfl, q1 _ _ ew4, upd_same, ?_, fun a2 y2 => ?_⟩
      · rw [lw]
        show p.words.length + 1 ≤ sizeLine
        omega
      have q2 := same_new (o := .lst (wstrs p.words ++ [.str "("])) y2
      refine ⟨_, rfl, _, _, _, _, rfl, rfl, upd_same, q2 _ _ (q1 _ _ ew3), ?_, fun a3 y3 => ?_⟩
      · rw [List.length_append, lw, ln2]
        show p.words.length + 1 + p2.words.length ≤ sizeLine
        omega
      have q3 := same_new (o := .lst ((wstrs p.words ++ [.str "("]) ++ wstrs p2.words)) y3
      have b3' := ((b3.same q1).same q2).same q3
      obtain ⟨A4, B4, e4, _⟩ := id b3'
      refine ⟨_, rfl, _, rfl, b, f, c3, rfl, b3', by omega, f0, f1, fun nn H6 k6 b6 n2' nT => ⟨_, _, rfl, rfl, ?_, by show 1 ≤ sizeLine; decide, fun a4 y4 => ?_⟩⟩
      · rw [dgS_eq]
        have := dg_len nT
        have e1 : (")" : Str).length = 1 := rfl
        omega
      have na3 : a3 ≠ b := by
        have eb3 := q2 _ _ (q1 _ _ e3)
        exact Ne.symm (ne_of_none eb3 y3)
      have ea3 := k6 a3 _ na3 upd_same
      have q4 := same_new (o := .lst [.str ((")" : Str) ++ Str.ofString (toString ((nn : Nat) : Int)))]) y4
      refine ⟨_, _, _, _, rfl, rfl, q4 _ _ ea3, upd_same, ?_, fun a5 y5 => ?_⟩
      · rw [List.length_append, List.length_append, lw, ln2]
        show p.words.length + 1 + p2.words.length + 1 ≤ sizeLine
        omega
      have q5 := same_new (o := .lst (((wstrs p.words ++ [.str "("]) ++ wstrs p2.words) ++ [.str ((")" : Str) ++ Str.ofString (toString ((nn : Nat) : Int)))])) y5
      have b7 := b6.same q4
      obtain ⟨A7, B7, e7, _⟩ := id b7
      have kk : Keep b H _ := k2'.trans (k3.trans ((Same.keep (q1.trans (q2.trans q3))).trans (k6.trans (Same.keep q4))))
      have hn2 : p2 ≠ .nil := fun z => by
        rw [z] at n1
        exact absurd n1 (by decide)
      have ewd : (p.app (.rp p2 nn .nil)).words = p.words ++ (.op :: (p2.words ++ [.cl nn])) := WM.app_words _ _
      have lwd : (p.app (.rp p2 nn .nil)).words.length = p.words.length + (p2.words.length + 2) := by
        rw [ewd, List.length_append, List.length_cons, List.length_append]
        rfl
      refine ⟨a5, p.app (.rp p2 nn .nil), c3 + 2, _, _, _, by omega, by omega, kk.trans (Same.keep q5), b7.same q5, by omega, by omega, app_ok okp ⟨hn2, ok3, ⟨n2', nT⟩, trivial⟩, ?_, Keep.freeB kk y5 (Ne.symm (ne_of_none e7 y5)), ?_, rfl⟩
      · rw [app_lev]
        show max p.lev (max (1 + p2.lev) 0) ≤ dp
        omega
      · rw [upd_same, ewd]
        show some (HO.lst (((wstrs p.words ++ [.str "("]) ++ wstrs p2.words) ++ [.str ((")" : Str) ++ Str.ofString (toString (((nn : Nat)) : Int)))])) = some (HO.lst (wstrs (p.words ++ (.op :: (p2.words ++ [.cl nn])))))
        rw [word_cl]
        unfold wstrs
        simp only [List.map_append, List.map_cons, List.map_nil, List.append_assoc, List.cons_append, List.nil_append]
        rfl
    · have S1' : 1 ≤ S.length := S1
      have zS : S.length ≤ sizeLine := Nat.le_trans S2 (by decide)
      refine ⟨_, rfl, .inl ⟨rfl, _, lstL ew2⟩, _, rfl, _, rfl, _, rfl, _, rfl, zS, b, (S.length : Int), c' + 1, rfl, b2, by omega, by omega, small (by omega), fun u H3 k3 b3 u0' u1' => ?_⟩
      obtain ⟨j, rfl⟩ := Int.eq_ofNat_of_zero_le u0'
      have hj : j < S.cps.toList.length := by
        rw [Array.length_toList]
        have : S.length = S.cps.size := rfl
        omega
      obtain ⟨ch, ech⟩ : ∃ ch, S.cps.toList[j]? = some ch := ⟨_, List.getElem?_eq_getElem hj⟩
      have hch : ch ∈ six := hS ch (List.mem_of_getElem? ech)
      refine ⟨S, _, ch, rfl, rfl, zS, atI_nat ech, ?_⟩
      refine ⟨_, rfl, _, rfl, b, f, c' + 1 + 1, rfl, b3, by omega, f0, f1, fun nn H4 k4 b4 n2 nT => ⟨by show 2 ≤ sizeLine; decide, fun a1 y1 => ?_⟩⟩
      have q1 := same_new (o := .lst [.str "", .str (Str.ofString (toString ((nn : Nat) : Int)))]) y1
      have ew5 := q1 _ _ (k4 _ _ nwb (k3 _ _ nwb ew2))
      have b5 := b4.same q1
      have kk : Keep b H _ := k2'.trans (k3.trans (k4.trans (Same.keep q1)))
      have clen : (⟨#[ch]⟩ : Str).length = 1 := rfl
      have fin : ∀ (k : Nat), 1 ≤ k → k ≤ WM.T30 → ∃ (wl2 : Addr) (p2 : Ps) (c2 : Nat) (z7 z8 z9 : Option V), p.words.length < p2.words.length ∧ p2.words.length ≤ M ∧ Keep b H (upd (upd H4 a1 (.lst [.str "", .str (Str.ofString (toString ((nn : Nat) : Int)))])) wl (.lst (wstrs p.words ++ [.str (Wd.lt ch k).str]))) ∧ Bg (upd (upd H4 a1 (.lst [.str "", .str (Str.ofString (toString ((nn : Nat) : Int)))])) wl (.lst (wstrs p.words ++ [.str (Wd.lt ch k).str]))) b c2 ∧ c ≤ c2 ∧ c2 ≤ c + 1 + 10 * p2.words.length ∧ p2.ok ∧ p2.lev ≤ dp ∧ H wl2 = none ∧ (upd (upd H4 a1 (.lst [.str "", .str (Str.ofString (toString ((nn : Nat) : Int)))])) wl (.lst (wstrs p.words ++ [.str (Wd.lt ch k).str]))) wl2 = some (.lst (wstrs p2.words)) ∧
          ([some (.ref b), some (.int (m : Int)), some (.int (dp : Int)), some (.str S), some (.int f), some (.ref wl), some (.int (M : Int)), some (.int w0), some (.int (R : Int)), z9'] : L2.St) = [some (.ref b), some (.int (m : Int)), some (.int (dp : Int)), some (.str S), some (.int f), some (.ref wl2), some (.int (M : Int)), z7, z8, z9] := by
        intro k hk1 hkT
        have ewd : (p.app (.lf ch k .nil)).words = p.words ++ [.lt ch k] := WM.app_words _ _
        have lwd : (p.app (.lf ch k .nil)).words.length = p.words.length + 1 := by
          rw [ewd, List.length_append]
          rfl
        refine ⟨wl, p.app (.lf ch k .nil), c' + 1 + 1 + 2, _, _, _, by omega, by omega, fun x o hx e => ?_, ?_, by omega, by omega, app_ok okp ⟨⟨hch, hk1, hkT⟩, trivial⟩, ?_, hw, ?_, rfl⟩
        · rw [upd_ne (ne_of_none e hw)]
          exact kk x o hx e
        · obtain ⟨X1, X2, ex, hx⟩ := b5
          exact ⟨X1, X2, (upd_ne (Ne.symm nwb)).trans ex, hx⟩
        · rw [app_lev]
          show max p.lev 0 ≤ dp
          omega
        · rw [upd_same, ewd]
          unfold wstrs
          rw [List.map_append]
          rfl
      have wl1 : (wstrs p.words).length < sizeLine := by
        rw [lw]
        exact Nat.lt_of_lt_of_le (show p.words.length < 1001 by omega) (by decide)
      by_cases h1 : w0 = 1
      · subst h1
        refine ⟨_, rfl, rfl, .inr ⟨true, rfl, a1, _, 1, _, rfl, rfl, lstL upd_same, atI_nat (j := 1) rfl, _, _, rfl, rfl, ?_, ?_⟩⟩
        · rw [dgS_eq, clen]
          have := dg_len nT
          exact Nat.le_trans (show 1 + (dgS nn).length ≤ 100 by omega) (by decide)
        rw [word_two ch (by omega)]
        exact ⟨wl, wstrs p.words, _, rfl, rfl, ew5, wl1, fin nn (by omega) nT⟩
      · refine ⟨_, rfl, rfl, .inr ⟨false, ?_, a1, _, 0, _, rfl, rfl, lstL upd_same, atI_nat (j := 0) rfl, _, _, rfl, rfl, by rw [clen]; decide, ?_⟩⟩
        · show [V.bl (decide (V.int w0 = V.int 1))] = _
          rw [decide_eq_false (fun z => by injection z with z; exact h1 z)]
        rw [word_one ch]
        exact ⟨wl, wstrs p.words, _, rfl, rfl, ew5, wl1, fin 1 (Nat.le_refl _) (by decide)⟩
end
end K04P

set_option Elab.async false
set_option linter.all false
set_option maxRecDepth 100000
set_option maxHeartbeats 4000000
set_option exponentiation.threshold 600
namespace K04P
open PySem PySem.Spec PyProof.Rows L2 RT WM K04 TL DQ
def clsNames : List Str := ["InvalidText", "InvalidSource", "InvalidProgram", "InvalidTimes", "InvalidIndex", "InvalidLetter", "InvalidName", "HasPen", "TooDeep", "TooLarge"]
/-- a raised class: which of the ten it is -/
structure ClsAt (K : PySem.W.Frag) (C : Addr) (j : Nat) : Prop where
  lt : j < 10
  ec : ExcC K C
  k0 : PySem.W.kitOne K (.ref C) (.ref (He.ga K "InvalidText")) = some (decide (0 = j))
  k1 : PySem.W.kitOne K (.ref C) (.ref (He.ga K "InvalidSource")) = some (decide (1 = j))
  k2 : PySem.W.kitOne K (.ref C) (.ref (He.ga K "InvalidProgram")) = some (decide (2 = j))
  k3 : PySem.W.kitOne K (.ref C) (.ref (He.ga K "InvalidTimes")) = some (decide (3 = j))
  k4 : PySem.W.kitOne K (.ref C) (.ref (He.ga K "InvalidIndex")) = some (decide (4 = j))
  k5 : PySem.W.kitOne K (.ref C) (.ref (He.ga K "InvalidLetter")) = some (decide (5 = j))
  k6 : PySem.W.kitOne K (.ref C) (.ref (He.ga K "InvalidName")) = some (decide (6 = j))
  k7 : PySem.W.kitOne K (.ref C) (.ref (He.ga K "HasPen")) = some (decide (7 = j))
  k8 : PySem.W.kitOne K (.ref C) (.ref (He.ga K "TooDeep")) = some (decide (8 = j))
  k9 : PySem.W.kitOne K (.ref C) (.ref (He.ga K "TooLarge")) = some (decide (9 = j))
  ve : PySem.W.kitOne K (.ref C) (.type "ValueError") = some true
  a0 : PySem.W.kitAny K (.ref C) ((["InvalidArt", "InvalidCommand", "InvalidCount", "InvalidEdge", "InvalidFace", "InvalidFaces"] : List Str).map fun x => .ref (He.ga K x)) = some false
  a1 : PySem.W.kitAny K (.ref C) ((["InvalidIntervals", "InvalidMotion", "InvalidOperation", "InvalidPicture", "InvalidPlace"] : List Str).map fun x => .ref (He.ga K x)) = some false
  a2 : PySem.W.kitAny K (.ref C) ((["InvalidPoint", "InvalidPose", "InvalidTurn", "NoSteps", "NotClosed", "NotDrifting", "NotEven", "Nothing"] : List Str).map fun x => .ref (He.ga K x)) = some false
theorem pe_never {X : Cx} {e : Expr} : PE X e (fun _ _ _ => False) := ⟨fun _ _ _ _ _ _ h => h.elim⟩
def clsRow (j : Nat) : List V := (List.range 10).map fun i => V.bl (decide (i = j))
theorem clsRow_flat (j : Nat) : (clsRow j).all flatV = true := by
  unfold clsRow
  rw [List.all_map]
  exact List.all_eq_true.mpr fun _ _ => rfl
theorem clsRow_count : ∀ j, j < 10 → (clsRow j).countP (fun z => eqV z (.bl true)) = 1 := by decide +kernel
theorem clsRow_get (j m : Nat) (z : V) (h : (clsRow j)[m]? = some z) : z = .bl (decide (m = j)) := by
  unfold clsRow at h
  rw [List.getElem?_map] at h
  cases e : (List.range 10)[m]? with
  | none => rw [e] at h; cases h
  | some i =>
    rw [e] at h
    have := (List.getElem?_eq_some_iff.mp e)
    obtain ⟨hl, hi⟩ := this
    rw [List.getElem_range] at hi
    subst hi
    exact (Option.some.inj h).symm
theorem clsRow_at : ∀ j, j < 10 → (clsRow j)[j]? = some (.bl true) := by decide +kernel
theorem clsRow_no (j : Nat) : ∀ (m : Nat) (z : V), m < j → (clsRow j)[m]? = some z → eqV z (.bl true) = false := fun m z hm h => by
  rw [clsRow_get j m z h, decide_eq_false (by omega)]
  rfl
theorem clsNames_at : ∀ j, j < 10 → (clsNames.map V.str)[j]? = some (.str (clsNames.getD j "")) := by decide +kernel
def optV : Option Nat → V
  | none => .non
  | some k => .int (k : Int)
/-- the text of None or a number -/
def reprO (v : Option Nat) : Str := match v with | none => "None" | some k => toString (k : Int)
theorem repr_small {k : Nat} (h : k < 2 ^ 1000) : ((k : Int)).natAbs.log2 < 1920 := by
  have h1 : ((k : Int)).natAbs < 2 ^ 1000 := by rw [Int.natAbs_natCast]; exact h
  exact Nat.lt_trans (PySem.Flt.log2_lt_of (by decide) h1) (by decide)
theorem reprO_of {v : Option Nat} {H : Hp} {Q : VK} (h : ∀ k, v = some k → k < 2 ^ 1000) (q : Q (.str (reprO v)) H) : rRepr0 [optV v] H Q := by
  cases v with
  | none => exact .inr ⟨rfl, q⟩
  | some k => exact .inl ⟨_, rfl, repr_small (h k rfl), q⟩
theorem reprO_arg {v : Option Nat} {σ : L2.St} {H : Hp} {Q : VK} (h : ∀ k, v = some k → k < 2 ^ 1000) (q : Q (.str (reprO v)) H) : tNil σ H fun xs H2 => rRepr0 (optV v :: xs) H2 Q := reprO_of h q
/-- the fields of an exception, and how it is told -/
def Says (K : PySem.W.Frag) (H : Hp) (C : Addr) (j : Nat) (od : Option Addr) (out : Str) : Prop :=
  (j = 0 ∧ ∃ d v, od = some d ∧ H d = some (.xd [("index", optV v)]) ∧ PySem.W.findIn K (.ref C) "index" = some none ∧ (∀ k, v = some k → k < 2 ^ 1000) ∧ (reprO v).length ≤ 400 ∧ out = "InvalidText " ++ reprO v) ∨
  (j = 1 ∧ ∃ d v u, od = some d ∧ H d = some (.xd [("index", optV u), ("line", optV v)]) ∧ PySem.W.findIn K (.ref C) "line" = some none ∧ PySem.W.findIn K (.ref C) "index" = some none ∧ (∀ k, v = some k → k < 2 ^ 1000) ∧ (∀ k, u = some k → k < 2 ^ 1000) ∧ (reprO v).length ≤ 400 ∧ (reprO u).length ≤ 400 ∧ out = "InvalidSource " ++ reprO v ++ " " ++ reprO u) ∨
  ((j = 8 ∨ j = 9) ∧ ∃ d k, od = some d ∧ H d = some (.xd [("limit", optV (some k))]) ∧ PySem.W.findIn K (.ref C) "limit" = some none ∧ k < 2 ^ 1000 ∧ (reprO (some k)).length ≤ 400 ∧ out = clsNames.getD j "" ++ (" " ++ reprO (some k))) ∨
  (2 ≤ j ∧ j ≤ 7 ∧ od = none ∧ out = clsNames.getD j "")
theorem Says.same {K : PySem.W.Frag} {H H' : Hp} {C : Addr} {j : Nat} {od : Option Addr} {out : Str} (h : Says K H C j od out) (s : Same H H') : Says K H' C j od out := by
  rcases h with ⟨e, d, v, e1, e2, r⟩ | ⟨e, d, v, u, e1, e2, r⟩ | ⟨e, d, k, e1, e2, r⟩ | h
  · exact .inl ⟨e, d, v, e1, s _ _ e2, r⟩
  · exact .inr (.inl ⟨e, d, v, u, e1, s _ _ e2, r⟩)
  · exact .inr (.inr (.inl ⟨e, d, k, e1, s _ _ e2, r⟩))
  · exact .inr (.inr (.inr h))
theorem Says.ty {K : PySem.W.Frag} {H : Hp} {a C : Addr} {j : Nat} {od : Option Addr} {out : Str} (h : Says K H C j od out) (ea : H a = some (ExT a (.ref C) od)) (c : ExcC K C) : TyY K H (.ref a) (.ref C) := by
  rcases h with ⟨e, d, v, e1, e2, r⟩ | ⟨e, d, v, u, e1, e2, r⟩ | ⟨e, d, k, e1, e2, r⟩ | ⟨_, _, e, _⟩
  · subst e1; exact .exc1 ea e2 c
  · subst e1; exact .exc1 ea e2 c
  · subst e1; exact .exc1 ea e2 c
  · subst e; exact .exc0 ea c
theorem XfC.ofE {K : PySem.W.Frag} {C : Addr} (c : ExcC K C) : XfC K C := ⟨c.hg, c.hk, c.hs, c.hd⟩
section
variable {P : Program} {w : World} {K : PySem.W.Frag} {mg : Str → Option Value} {base : Heap}
def spClass (K : PySem.W.Frag) : Sp := fun vs H Q _ => ∃ a C j od out, vs = [.ref a] ∧ H a = some (ExT a (.ref C) od) ∧ ClsAt K C j ∧ Says K H C j od out ∧ ∀ H', Same H H' → Q (.str out) H'
theorem ok_class (D : Ds K) (T : Tx K mg) : FnOk P w K mg base CX0 1 (d_law_class.adr K) D.fd__law_class ["caught"] (spClass K) := by
  refine D.F__law_class.ok sc_law_class (fun vs H Q E h => ?_) (fun cdv A outer s H vs Q E hr h => ?_)
  · obtain ⟨a, C, j, od, out, rfl, _⟩ := h
    rfl
  · obtain ⟨a, C, j, od, out, rfl, ea, c, sy, q⟩ := h
    have nd := sc_law_class.nd
    refine ⟨_, PSs.nox (pss_cons (ps_set (i := 1) nd rfl (.inl rfl) (pe_lst (pa_cons (pe_callB call_isiY (by rfl) T.z_isinstance (by decide +kernel) (pa_cons (pv 0) (pa_cons (pe_glob (v := .ref (He.ga K "InvalidText")) rfl T.g_InvalidText rfl) pa_nil))) (pa_cons (pe_callB call_isiY (by rfl) T.z_isinstance (by decide +kernel) (pa_cons (pv 0) (pa_cons (pe_glob (v := .ref (He.ga K "InvalidSource")) rfl T.g_InvalidSource rfl) pa_nil))) (pa_cons (pe_callB call_isiY (by rfl) T.z_isinstance (by decide +kernel) (pa_cons (pv 0) (pa_cons (pe_glob (v := .ref (He.ga K "InvalidProgram")) rfl T.g_InvalidProgram rfl) pa_nil))) pa_nil)))))
      (pss_cons (ps_set (i := 1) nd rfl (.inl rfl) (pe_op op_cat (pv 1) (pe_lst (pa_cons (pe_callB call_isiY (by rfl) T.z_isinstance (by decide +kernel) (pa_cons (pv 0) (pa_cons (pe_glob (v := .ref (He.ga K "InvalidTimes")) rfl T.g_InvalidTimes rfl) pa_nil))) (pa_cons (pe_callB call_isiY (by rfl) T.z_isinstance (by decide +kernel) (pa_cons (pv 0) (pa_cons (pe_glob (v := .ref (He.ga K "InvalidIndex")) rfl T.g_InvalidIndex rfl) pa_nil))) pa_nil)))))
      (pss_cons (ps_set (i := 1) nd rfl (.inl rfl) (pe_op op_cat (pv 1) (pe_lst (pa_cons (pe_callB call_isiY (by rfl) T.z_isinstance (by decide +kernel) (pa_cons (pv 0) (pa_cons (pe_glob (v := .ref (He.ga K "InvalidLetter")) rfl T.g_InvalidLetter rfl) pa_nil))) (pa_cons (pe_callB call_isiY (by rfl) T.z_isinstance (by decide +kernel) (pa_cons (pv 0) (pa_cons (pe_glob (v := .ref (He.ga K "InvalidName")) rfl T.g_InvalidName rfl) pa_nil))) (pa_cons (pe_callB call_isiY (by rfl) T.z_isinstance (by decide +kernel) (pa_cons (pv 0) (pa_cons (pe_glob (v := .ref (He.ga K "HasPen")) rfl T.g_HasPen rfl) pa_nil))) pa_nil))))))
      (pss_cons (ps_set (i := 1) nd rfl (.inl rfl) (pe_op op_cat (pv 1) (pe_lst (pa_cons (pe_callB call_isiY (by rfl) T.z_isinstance (by decide +kernel) (pa_cons (pv 0) (pa_cons (pe_glob (v := .ref (He.ga K "TooDeep")) rfl T.g_TooDeep rfl) pa_nil))) (pa_cons (pe_callB call_isiY (by rfl) T.z_isinstance (by decide +kernel) (pa_cons (pv 0) (pa_cons (pe_glob (v := .ref (He.ga K "TooLarge")) rfl T.g_TooLarge rfl) pa_nil))) pa_nil)))))
      (pss_cons (ps_set (i := 2) nd rfl (.inl rfl) (pe_lst (pa_cons pe_str (pa_cons pe_str (pa_cons pe_str (pa_cons pe_str (pa_cons pe_str (pa_cons pe_str pa_nil))))))))
      (pss_cons (ps_set (i := 2) nd rfl (.inl rfl) (pe_op op_cat (pv 2) (pe_lst (pa_cons pe_str (pa_cons pe_str (pa_cons pe_str (pa_cons pe_str pa_nil)))))))
      (pss_cons (ps_if (pt_val (pe_callB call_isiTY (by rfl) T.z_isinstance (by decide +kernel) (pa_cons (pv 0) (pa_cons (pe_tup (pa_cons (pe_glob (v := .ref (He.ga K "InvalidArt")) rfl T.g_InvalidArt rfl) (pa_cons (pe_glob (v := .ref (He.ga K "InvalidCommand")) rfl T.g_InvalidCommand rfl) (pa_cons (pe_glob (v := .ref (He.ga K "InvalidCount")) rfl T.g_InvalidCount rfl) (pa_cons (pe_glob (v := .ref (He.ga K "InvalidEdge")) rfl T.g_InvalidEdge rfl) (pa_cons (pe_glob (v := .ref (He.ga K "InvalidFace")) rfl T.g_InvalidFace rfl) (pa_cons (pe_glob (v := .ref (He.ga K "InvalidFaces")) rfl T.g_InvalidFaces rfl) pa_nil))))))) pa_nil)))) (pss_one (ps_ret pe_str)) pss_nil)
      (pss_cons (ps_if (pt_val (pe_callB call_isiTY (by rfl) T.z_isinstance (by decide +kernel) (pa_cons (pv 0) (pa_cons (pe_tup (pa_cons (pe_glob (v := .ref (He.ga K "InvalidIntervals")) rfl T.g_InvalidIntervals rfl) (pa_cons (pe_glob (v := .ref (He.ga K "InvalidMotion")) rfl T.g_InvalidMotion rfl) (pa_cons (pe_glob (v := .ref (He.ga K "InvalidOperation")) rfl T.g_InvalidOperation rfl) (pa_cons (pe_glob (v := .ref (He.ga K "InvalidPicture")) rfl T.g_InvalidPicture rfl) (pa_cons (pe_glob (v := .ref (He.ga K "InvalidPlace")) rfl T.g_InvalidPlace rfl) pa_nil)))))) pa_nil)))) (pss_one (ps_ret pe_str)) pss_nil)
      (pss_cons (ps_if (pt_val (pe_callB call_isiTY (by rfl) T.z_isinstance (by decide +kernel) (pa_cons (pv 0) (pa_cons (pe_tup (pa_cons (pe_glob (v := .ref (He.ga K "InvalidPoint")) rfl T.g_InvalidPoint rfl) (pa_cons (pe_glob (v := .ref (He.ga K "InvalidPose")) rfl T.g_InvalidPose rfl) (pa_cons (pe_glob (v := .ref (He.ga K "InvalidTurn")) rfl T.g_InvalidTurn rfl) (pa_cons (pe_glob (v := .ref (He.ga K "NoSteps")) rfl T.g_NoSteps rfl) (pa_cons (pe_glob (v := .ref (He.ga K "NotClosed")) rfl T.g_NotClosed rfl) (pa_cons (pe_glob (v := .ref (He.ga K "NotDrifting")) rfl T.g_NotDrifting rfl) (pa_cons (pe_glob (v := .ref (He.ga K "NotEven")) rfl T.g_NotEven rfl) (pa_cons (pe_glob (v := .ref (He.ga K "Nothing")) rfl T.g_Nothing rfl) pa_nil))))))))) pa_nil)))) (pss_one (ps_ret pe_str)) pss_nil)
      (pss_cons (ps_if (PW.pt (pw_or (pt_cmpR op_ne (pe_bm PySem.F.plainAttrs_list PySem.F.slot_list_count PySem.F.type_list_count mt_countF (pv 1) (pa_cons pe_bl pa_nil)) pe_int (nomark _)) (pw_or1 (pt_not (pt_val (pe_callB call_isiY (by rfl) T.z_isinstance (by decide +kernel) (pa_cons (pv 0) (pa_cons (pe_bltn (v := .ty "ValueError") (by rfl) T.z_ValueError (by decide +kernel) rfl) pa_nil)))))))) (pss_one (ps_ret pe_str)) pss_nil)
      (pss_cons (ps_set (i := 3) nd rfl (.inl rfl) (pe_ix ix_list (pv 2) (pe_bm PySem.F.plainAttrs_list PySem.F.slot_list_index PySem.F.type_list_index mt_index (pv 1) (pa_cons pe_bl pa_nil)) (fun _ _ => rfl)))
      (pss_cons (ps_if (pt_cmpR op_eq (pv 3) pe_str (nomark _)) (pss_one (ps_ret (pe_op op_add_str (pe_op op_add_str (pv 3) pe_str) (pe_callB call_repr0 (by rfl) T.z_repr (by decide +kernel) (pa_cons (pe_xfT (pv 0)) pa_nil))))) pss_nil)
      (pss_cons (ps_if (pt_cmpR op_eq (pv 3) pe_str (nomark _)) (pss_one (ps_ret (pe_op op_add_str (pe_op op_add_str (pe_op op_add_str (pe_op op_add_str (pv 3) pe_str) (pe_callB call_repr0 (by rfl) T.z_repr (by decide +kernel) (pa_cons (pe_xfT (pv 0)) pa_nil))) pe_str) (pe_callB call_repr0 (by rfl) T.z_repr (by decide +kernel) (pa_cons (pe_xfT (pv 0)) pa_nil))))) pss_nil)
      (pss_one (ps_ret (pe_op op_add_str (pv 3) (pe_ifExp (pt_cmpR op_in_seq (pv 3) (pe_lst (pa_cons pe_str (pa_cons pe_str pa_nil))) (by rfl)) (pe_op op_add_str pe_str (pe_callB call_repr0 (by rfl) T.z_repr (by decide +kernel) (pa_cons (pe_xfT (pv 0)) pa_nil))) pe_str))))))))))))))))), ?_⟩
    have tyF : ∀ {H'}, Same H H' → TyY K H' (.ref a) (.ref C) := fun s => (sy.same s).ty (s _ _ ea) c.ec
    have ty := tyF (fun _ _ h => h)
    refine ⟨_, rfl, _, .ref _, _, _, _, rfl, .own _, ty, c.k0, _, rfl, _, .ref _, _, _, _, rfl, .own _, ty, c.k1, _, rfl, _, .ref _, _, _, _, rfl, .own _, ty, c.k2, (by show 3 ≤ sizeLine; decide), fun a1 h1 => ?_⟩
    have SH1 : Same H (upd H a1 (.lst [.bl (decide (0 = j)), .bl (decide (1 = j)), .bl (decide (2 = j))])) := same_new h1
    have eH1 : (upd H a1 (.lst [.bl (decide (0 = j)), .bl (decide (1 = j)), .bl (decide (2 = j))])) a1 = some (.lst [.bl (decide (0 = j)), .bl (decide (1 = j)), .bl (decide (2 = j))]) := upd_same
    generalize upd H a1 (.lst [.bl (decide (0 = j)), .bl (decide (1 = j)), .bl (decide (2 = j))]) = H1 at SH1 eH1 ⊢
    have ty := tyF SH1
    refine ⟨_, rfl, _, rfl, _, .ref _, _, _, _, rfl, .own _, ty, c.k3, _, rfl, _, .ref _, _, _, _, rfl, .own _, ty, c.k4, (by show 2 ≤ sizeLine; decide), fun d1 hd1 => ?_⟩
    refine ⟨a1, d1, _, _, rfl, rfl, same_new hd1 _ _ eH1, upd_same, (by show 5 ≤ sizeLine; decide), fun r1 hr1 => ?_⟩
    have SH2 : Same H (upd (upd H1 d1 (.lst [.bl (decide (3 = j)), .bl (decide (4 = j))])) r1 (.lst ([.bl (decide (0 = j)), .bl (decide (1 = j)), .bl (decide (2 = j))] ++ [.bl (decide (3 = j)), .bl (decide (4 = j))]))) := SH1.trans ((same_new hd1).trans (same_new hr1))
    have eH2 : (upd (upd H1 d1 (.lst [.bl (decide (3 = j)), .bl (decide (4 = j))])) r1 (.lst ([.bl (decide (0 = j)), .bl (decide (1 = j)), .bl (decide (2 = j))] ++ [.bl (decide (3 = j)), .bl (decide (4 = j))]))) r1 = some (.lst [.bl (decide (0 = j)), .bl (decide (1 = j)), .bl (decide (2 = j)), .bl (decide (3 = j)), .bl (decide (4 = j))]) := upd_same
    generalize upd (upd H1 d1 (.lst [.bl (decide (3 = j)), .bl (decide (4 = j))])) r1 (.lst ([.bl (decide (0 = j)), .bl (decide (1 = j)), .bl (decide (2 = j))] ++ [.bl (decide (3 = j)), .bl (decide (4 = j))])) = H2 at SH2 eH2 ⊢
    have ty := tyF SH2
    refine ⟨_, rfl, _, rfl, _, .ref _, _, _, _, rfl, .own _, ty, c.k5, _, rfl, _, .ref _, _, _, _, rfl, .own _, ty, c.k6, _, rfl, _, .ref _, _, _, _, rfl, .own _, ty, c.k7, (by show 3 ≤ sizeLine; decide), fun d2 hd2 => ?_⟩
    refine ⟨r1, d2, _, _, rfl, rfl, same_new hd2 _ _ eH2, upd_same, (by show 8 ≤ sizeLine; decide), fun r2 hr2 => ?_⟩
    have SH3 : Same H (upd (upd H2 d2 (.lst [.bl (decide (5 = j)), .bl (decide (6 = j)), .bl (decide (7 = j))])) r2 (.lst ([.bl (decide (0 = j)), .bl (decide (1 = j)), .bl (decide (2 = j)), .bl (decide (3 = j)), .bl (decide (4 = j))] ++ [.bl (decide (5 = j)), .bl (decide (6 = j)), .bl (decide (7 = j))]))) := SH2.trans ((same_new hd2).trans (same_new hr2))
    have eH3 : (upd (upd H2 d2 (.lst [.bl (decide (5 = j)), .bl (decide (6 = j)), .bl (decide (7 = j))])) r2 (.lst ([.bl (decide (0 = j)), .bl (decide (1 = j)), .bl (decide (2 = j)), .bl (decide (3 = j)), .bl (decide (4 = j))] ++ [.bl (decide (5 = j)), .bl (decide (6 = j)), .bl (decide (7 = j))]))) r2 = some (.lst [.bl (decide (0 = j)), .bl (decide (1 = j)), .bl (decide (2 = j)), .bl (decide (3 = j)), .bl (decide (4 = j)), .bl (decide (5 = j)), .bl (decide (6 = j)), .bl (decide (7 = j))]) := upd_same
    generalize upd (upd H2 d2 (.lst [.bl (decide (5 = j)), .bl (decide (6 = j)), .bl (decide (7 = j))])) r2 (.lst ([.bl (decide (0 = j)), .bl (decide (1 = j)), .bl (decide (2 = j)), .bl (decide (3 = j)), .bl (decide (4 = j))] ++ [.bl (decide (5 = j)), .bl (decide (6 = j)), .bl (decide (7 = j))])) = H3 at SH3 eH3 ⊢
    have ty := tyF SH3
    refine ⟨_, rfl, _, rfl, _, .ref _, _, _, _, rfl, .own _, ty, c.k8, _, rfl, _, .ref _, _, _, _, rfl, .own _, ty, c.k9, (by show 2 ≤ sizeLine; decide), fun d3 hd3 => ?_⟩
    refine ⟨r2, d3, _, _, rfl, rfl, same_new hd3 _ _ eH3, upd_same, (by show 10 ≤ sizeLine; decide), fun r3 hr3 => ?_⟩
    have SH4 : Same H (upd (upd H3 d3 (.lst [.bl (decide (8 = j)), .bl (decide (9 = j))])) r3 (.lst ([.bl (decide (0 = j)), .bl (decide (1 = j)), .bl (decide (2 = j)), .bl (decide (3 = j)), .bl (decide (4 = j)), .bl (decide (5 = j)), .bl (decide (6 = j)), .bl (decide (7 = j))] ++ [.bl (decide (8 = j)), .bl (decide (9 = j))]))) := SH3.trans ((same_new hd3).trans (same_new hr3))
    have eH4 : (upd (upd H3 d3 (.lst [.bl (decide (8 = j)), .bl (decide (9 = j))])) r3 (.lst ([.bl (decide (0 = j)), .bl (decide (1 = j)), .bl (decide (2 = j)), .bl (decide (3 = j)), .bl (decide (4 = j)), .bl (decide (5 = j)), .bl (decide (6 = j)), .bl (decide (7 = j))] ++ [.bl (decide (8 = j)), .bl (decide (9 = j))]))) r3 = some (.lst [.bl (decide (0 = j)), .bl (decide (1 = j)), .bl (decide (2 = j)), .bl (decide (3 = j)), .bl (decide (4 = j)), .bl (decide (5 = j)), .bl (decide (6 = j)), .bl (decide (7 = j)), .bl (decide (8 = j)), .bl (decide (9 = j))]) := upd_same
    generalize upd (upd H3 d3 (.lst [.bl (decide (8 = j)), .bl (decide (9 = j))])) r3 (.lst ([.bl (decide (0 = j)), .bl (decide (1 = j)), .bl (decide (2 = j)), .bl (decide (3 = j)), .bl (decide (4 = j)), .bl (decide (5 = j)), .bl (decide (6 = j)), .bl (decide (7 = j))] ++ [.bl (decide (8 = j)), .bl (decide (9 = j))])) = H4 at SH4 eH4 ⊢
    have ty := tyF SH4
    refine ⟨(by show 6 ≤ sizeLine; decide), fun n1 hn1 => ?_⟩
    refine ⟨_, rfl, (by show 4 ≤ sizeLine; decide), fun n2 hn2 => ?_⟩
    refine ⟨n1, n2, _, _, rfl, rfl, same_new hn2 _ _ upd_same, upd_same, (by show 10 ≤ sizeLine; decide), fun n3 hn3 => ?_⟩
    have eR := ((same_new hn1).trans ((same_new (o := .lst [.str "InvalidName", .str "HasPen", .str "TooDeep", .str "TooLarge"]) hn2).trans (same_new (o := .lst ([.str "InvalidText", .str "InvalidSource", .str "InvalidProgram", .str "InvalidTimes", .str "InvalidIndex", .str "InvalidLetter"] ++ [.str "InvalidName", .str "HasPen", .str "TooDeep", .str "TooLarge"])) hn3))) _ _ eH4
    have SM := SH4.trans ((same_new hn1).trans ((same_new (o := .lst [.str "InvalidName", .str "HasPen", .str "TooDeep", .str "TooLarge"]) hn2).trans (same_new (o := .lst ([.str "InvalidText", .str "InvalidSource", .str "InvalidProgram", .str "InvalidTimes", .str "InvalidIndex", .str "InvalidLetter"] ++ [.str "InvalidName", .str "HasPen", .str "TooDeep", .str "TooLarge"])) hn3)))
    have eN : (upd (upd (upd H4 n1 (.lst [.str "InvalidText", .str "InvalidSource", .str "InvalidProgram", .str "InvalidTimes", .str "InvalidIndex", .str "InvalidLetter"])) n2 (.lst [.str "InvalidName", .str "HasPen", .str "TooDeep", .str "TooLarge"])) n3 (.lst ([.str "InvalidText", .str "InvalidSource", .str "InvalidProgram", .str "InvalidTimes", .str "InvalidIndex", .str "InvalidLetter"] ++ [.str "InvalidName", .str "HasPen", .str "TooDeep", .str "TooLarge"]))) n3 = some (.lst (clsNames.map V.str)) := upd_same
    generalize upd (upd (upd H4 n1 (.lst [.str "InvalidText", .str "InvalidSource", .str "InvalidProgram", .str "InvalidTimes", .str "InvalidIndex", .str "InvalidLetter"])) n2 (.lst [.str "InvalidName", .str "HasPen", .str "TooDeep", .str "TooLarge"])) n3 (.lst ([.str "InvalidText", .str "InvalidSource", .str "InvalidProgram", .str "InvalidTimes", .str "InvalidIndex", .str "InvalidLetter"] ++ [.str "InvalidName", .str "HasPen", .str "TooDeep", .str "TooLarge"])) = H5 at eR SM eN ⊢
    have eL : H5 r3 = some (.lst (clsRow j)) := eR
    clear eR
    have ty := tyF SM
    refine ⟨_, rfl, (by show 6 ≤ sizeLine; decide), fun t0 ht0 => ?_⟩
    have eL := same_new (o := .tup [.ref (He.ga K "InvalidArt"), .ref (He.ga K "InvalidCommand"), .ref (He.ga K "InvalidCount"), .ref (He.ga K "InvalidEdge"), .ref (He.ga K "InvalidFace"), .ref (He.ga K "InvalidFaces")]) ht0 _ _ eL
    have eN := same_new (o := .tup [.ref (He.ga K "InvalidArt"), .ref (He.ga K "InvalidCommand"), .ref (He.ga K "InvalidCount"), .ref (He.ga K "InvalidEdge"), .ref (He.ga K "InvalidFace"), .ref (He.ga K "InvalidFaces")]) ht0 _ _ eN
    have SH6 : Same H (upd H5 t0 (.tup [.ref (He.ga K "InvalidArt"), .ref (He.ga K "InvalidCommand"), .ref (He.ga K "InvalidCount"), .ref (He.ga K "InvalidEdge"), .ref (He.ga K "InvalidFace"), .ref (He.ga K "InvalidFaces")])) := SM.trans (same_new ht0)
    have eH6 : (upd H5 t0 (.tup [.ref (He.ga K "InvalidArt"), .ref (He.ga K "InvalidCommand"), .ref (He.ga K "InvalidCount"), .ref (He.ga K "InvalidEdge"), .ref (He.ga K "InvalidFace"), .ref (He.ga K "InvalidFaces")])) t0 = some (.tup [.ref (He.ga K "InvalidArt"), .ref (He.ga K "InvalidCommand"), .ref (He.ga K "InvalidCount"), .ref (He.ga K "InvalidEdge"), .ref (He.ga K "InvalidFace"), .ref (He.ga K "InvalidFaces")]) := upd_same
    generalize upd H5 t0 (.tup [.ref (He.ga K "InvalidArt"), .ref (He.ga K "InvalidCommand"), .ref (He.ga K "InvalidCount"), .ref (He.ga K "InvalidEdge"), .ref (He.ga K "InvalidFace"), .ref (He.ga K "InvalidFaces")]) = H6 at SH6 eH6 eL eN ⊢
    have ty := tyF SH6
    refine ⟨_, t0, _, _, _, _, rfl, eH6, (.cons (.own _) (.cons (.own _) (.cons (.own _) (.cons (.own _) (.cons (.own _) (.cons (.own _) .nil)))))), ty, c.a0, _, rfl, iteF ?_⟩
    refine ⟨_, rfl, (by show 5 ≤ sizeLine; decide), fun t1 ht1 => ?_⟩
    have eL := same_new (o := .tup [.ref (He.ga K "InvalidIntervals"), .ref (He.ga K "InvalidMotion"), .ref (He.ga K "InvalidOperation"), .ref (He.ga K "InvalidPicture"), .ref (He.ga K "InvalidPlace")]) ht1 _ _ eL
    have eN := same_new (o := .tup [.ref (He.ga K "InvalidIntervals"), .ref (He.ga K "InvalidMotion"), .ref (He.ga K "InvalidOperation"), .ref (He.ga K "InvalidPicture"), .ref (He.ga K "InvalidPlace")]) ht1 _ _ eN
    have SH7 : Same H (upd H6 t1 (.tup [.ref (He.ga K "InvalidIntervals"), .ref (He.ga K "InvalidMotion"), .ref (He.ga K "InvalidOperation"), .ref (He.ga K "InvalidPicture"), .ref (He.ga K "InvalidPlace")])) := SH6.trans (same_new ht1)
    have eH7 : (upd H6 t1 (.tup [.ref (He.ga K "InvalidIntervals"), .ref (He.ga K "InvalidMotion"), .ref (He.ga K "InvalidOperation"), .ref (He.ga K "InvalidPicture"), .ref (He.ga K "InvalidPlace")])) t1 = some (.tup [.ref (He.ga K "InvalidIntervals"), .ref (He.ga K "InvalidMotion"), .ref (He.ga K "InvalidOperation"), .ref (He.ga K "InvalidPicture"), .ref (He.ga K "InvalidPlace")]) := upd_same
    generalize upd H6 t1 (.tup [.ref (He.ga K "InvalidIntervals"), .ref (He.ga K "InvalidMotion"), .ref (He.ga K "InvalidOperation"), .ref (He.ga K "InvalidPicture"), .ref (He.ga K "InvalidPlace")]) = H7 at SH7 eH7 eL eN ⊢
    have ty := tyF SH7
    refine ⟨_, t1, _, _, _, _, rfl, eH7, (.cons (.own _) (.cons (.own _) (.cons (.own _) (.cons (.own _) (.cons (.own _) .nil))))), ty, c.a1, _, rfl, iteF ?_⟩
    refine ⟨_, rfl, (by show 8 ≤ sizeLine; decide), fun t2 ht2 => ?_⟩
    have eL := same_new (o := .tup [.ref (He.ga K "InvalidPoint"), .ref (He.ga K "InvalidPose"), .ref (He.ga K "InvalidTurn"), .ref (He.ga K "NoSteps"), .ref (He.ga K "NotClosed"), .ref (He.ga K "NotDrifting"), .ref (He.ga K "NotEven"), .ref (He.ga K "Nothing")]) ht2 _ _ eL
    have eN := same_new (o := .tup [.ref (He.ga K "InvalidPoint"), .ref (He.ga K "InvalidPose"), .ref (He.ga K "InvalidTurn"), .ref (He.ga K "NoSteps"), .ref (He.ga K "NotClosed"), .ref (He.ga K "NotDrifting"), .ref (He.ga K "NotEven"), .ref (He.ga K "Nothing")]) ht2 _ _ eN
    have SH8 : Same H (upd H7 t2 (.tup [.ref (He.ga K "InvalidPoint"), .ref (He.ga K "InvalidPose"), .ref (He.ga K "InvalidTurn"), .ref (He.ga K "NoSteps"), .ref (He.ga K "NotClosed"), .ref (He.ga K "NotDrifting"), .ref (He.ga K "NotEven"), .ref (He.ga K "Nothing")])) := SH7.trans (same_new ht2)
    have eH8 : (upd H7 t2 (.tup [.ref (He.ga K "InvalidPoint"), .ref (He.ga K "InvalidPose"), .ref (He.ga K "InvalidTurn"), .ref (He.ga K "NoSteps"), .ref (He.ga K "NotClosed"), .ref (He.ga K "NotDrifting"), .ref (He.ga K "NotEven"), .ref (He.ga K "Nothing")])) t2 = some (.tup [.ref (He.ga K "InvalidPoint"), .ref (He.ga K "InvalidPose"), .ref (He.ga K "InvalidTurn"), .ref (He.ga K "NoSteps"), .ref (He.ga K "NotClosed"), .ref (He.ga K "NotDrifting"), .ref (He.ga K "NotEven"), .ref (He.ga K "Nothing")]) := upd_same
    generalize upd H7 t2 (.tup [.ref (He.ga K "InvalidPoint"), .ref (He.ga K "InvalidPose"), .ref (He.ga K "InvalidTurn"), .ref (He.ga K "NoSteps"), .ref (He.ga K "NotClosed"), .ref (He.ga K "NotDrifting"), .ref (He.ga K "NotEven"), .ref (He.ga K "Nothing")]) = H8 at SH8 eH8 eL eN ⊢
    have ty := tyF SH8
    refine ⟨_, t2, _, _, _, _, rfl, eH8, (.cons (.own _) (.cons (.own _) (.cons (.own _) (.cons (.own _) (.cons (.own _) (.cons (.own _) (.cons (.own _) (.cons (.own _) .nil)))))))), ty, c.a2, _, rfl, iteF ?_⟩
    refine ⟨_, rfl, .inl ⟨rfl, _, lstL eL⟩, r3, _, .bl true, rfl, rfl, lstL eL, rfl, clsRow_flat j, rfl, false, ?_, iteF ⟨_, rfl, _, .ty "ValueError", _, _, _, rfl, .ty "ValueError", ty, c.ve, _, rfl, iteF ?_⟩⟩
    · rw [clsRow_count j c.lt]
      rfl
    refine ⟨_, rfl, _, rfl, .inl ⟨rfl, _, lstL eL⟩, r3, _, .bl true, j, .bl true, rfl, rfl, lstL eL, rfl, clsRow_flat j, clsRow_at j c.lt, rfl, clsRow_no j, n3, _, _, _, rfl, rfl, lstL eN, atI_nat (clsNames_at j c.lt), ?_⟩
    have sy := sy.same SH8
    have ea := SH8 _ _ ea
    have xf := XfC.ofE c.ec
    rcases sy with ⟨rfl, dd, v, rfl, ed, f1, hv, lv, rfl⟩ | ⟨rfl, dd, v, u, rfl, ed, f1, f2, hv, hu, lv, lu, rfl⟩ | ⟨hj, dd, k, rfl, ed, f1, hk, lk, rfl⟩ | ⟨j2, j7, rfl, rfl⟩
    · refine ⟨_, rfl, rfl, true, rfl, iteT ?_⟩
      refine ⟨_, rfl, _, _, rfl, rfl, (by decide), _, rfl, a, C, dd, _, _, rfl, xf, f1, ea, ed, rfl, reprO_arg hv ?_⟩
      exact ⟨_, _, rfl, rfl, Nat.le_trans (Nat.add_le_add_left lv 12) (by decide), q _ SH8⟩
    · refine ⟨_, rfl, rfl, false, rfl, iteF ⟨_, rfl, rfl, true, rfl, iteT ?_⟩⟩
      refine ⟨_, rfl, _, _, rfl, rfl, (by decide), _, rfl, a, C, dd, _, _, rfl, xf, f1, ea, ed, rfl, reprO_arg hv ?_⟩
      refine ⟨_, _, rfl, rfl, Nat.le_trans (Nat.add_le_add_left lv 14) (by decide), _, _, rfl, rfl, ?_, _, rfl, a, C, dd, _, _, rfl, xf, f2, ea, ed, rfl, reprO_arg hu ?_⟩
      · rw [strLen_append]
        exact Nat.le_trans (Nat.add_le_add_right (Nat.add_le_add_left lv 14) 1) (by decide)
      · refine ⟨_, _, rfl, rfl, ?_, q _ SH8⟩
        rw [strLen_append, strLen_append]
        exact Nat.le_trans (Nat.add_le_add (Nat.add_le_add_right (Nat.add_le_add_left lv 14) 1) lu) (by decide)
    · rcases hj with rfl | rfl
      all_goals
        refine ⟨_, rfl, rfl, false, rfl, iteF ⟨_, rfl, rfl, false, rfl, iteF ?_⟩⟩
        refine ⟨_, rfl, _, rfl, (by show 2 ≤ sizeLine; decide), fun l hl => ⟨l, _, rfl, .inl (lstL upd_same), rfl, rfl, true, (by decide +kernel), iteT ?_⟩⟩
        have sl := same_new (o := .lst [.str "TooDeep", .str "TooLarge"]) hl
        refine ⟨_, rfl, a, C, dd, _, _, rfl, xf, f1, sl _ _ ea, sl _ _ ed, rfl, reprO_arg (v := some k) (fun i e => by cases e; exact hk) ?_⟩
        refine ⟨_, _, rfl, rfl, Nat.le_trans (Nat.add_le_add_left lk 1) (by decide), _, _, rfl, rfl, ?_, q _ (SH8.trans sl)⟩
        rw [strLen_append]
        exact Nat.le_trans (Nat.add_le_add (show _ ≤ 8 by decide +kernel) (Nat.add_le_add_left lk 1)) (by decide)
    · have e : j = 2 ∨ j = 3 ∨ j = 4 ∨ j = 5 ∨ j = 6 ∨ j = 7 := by omega
      rcases e with rfl | rfl | rfl | rfl | rfl | rfl
      all_goals
        refine ⟨_, rfl, rfl, false, rfl, iteF ⟨_, rfl, rfl, false, rfl, iteF ?_⟩⟩
        refine ⟨_, rfl, _, rfl, (by show 2 ≤ sizeLine; decide), fun l hl => ⟨l, _, rfl, .inl (lstL upd_same), rfl, rfl, false, (by decide +kernel), iteF ?_⟩⟩
        have sl := same_new (o := .lst [.str "TooDeep", .str "TooLarge"]) hl
        exact ⟨_, _, rfl, rfl, (by decide), q _ (SH8.trans sl)⟩
end
end K04P

set_option Elab.async false
set_option linter.all false
set_option maxRecDepth 100000
set_option maxHeartbeats 4000000
/-! an own exception with an own __init__, made and told by L2N (its context is empty) -/
namespace RT
open PySem PySem.Spec PyProof.Rows L2
section
variable {X : Cx} {e : Expr} {es : List Expr} {ta : TA} {p pos : Pos}
theorem made_oexN {CX : CXT} {C fI : Addr} {k : Nat} {fd : FuncData} {ps : List Str} {sp : Sp} {ds : List Value} {dvs : List V} {pins : List (Addr × Obj)} {σ : L2.St} {Q : XK}
    (T : OexC X.K C) (iC : PySem.W.findIn X.K (.ref C) "__init__" = some (some (.ref fI)))
    (tI : PySem.W.typeIn X.K (.ref fI) = some (.type "function"))
    (FI : FnOk X.prog X.w X.K X.mg X.base CX k fI fd ps sp)
    (room : Room (k + 1) X.A) (bi : Binds X.K fd ps ds) (dv : Vals dvs ds)
    (no : Passes CX X (fun _ _ _ => False))
    {us : List Value} {vs : List V} {H1 : Hp} {s1 : Shared} (I1 : Inv X pins σ H1 s1) (rv : Vals vs us) (few : vs.length ≤ 1000)
    (wish : ∀ a, H1 a = none → sp (.ref a :: (vs ++ dvs)) (upd H1 a (exo a C none))
      (fun v H2 => v = .non ∧ ∃ (d : Addr) (fs : List (Str × V)), H2 a = some (exo a C (some d)) ∧ H2 d = some (exd d fs) ∧ H1 d = none ∧ Q (.ref C) (some d) (upd (del H2 a) d (.xd fs))) (fun _ _ _ => False)) :
    wpAny (model X.prog X.w) X.A (call (.ref C) us) (L2N.MkP X pins σ Q) X.xe s1 := by
  obtain ⟨_, _, _, _, tail, _, _, _, _, _, _, _, _, _, _, look, tailOk⟩ := T.cls
  cases s1 with
  | mk hp g dr tk os =>
  obtain ⟨a, ea⟩ : ∃ a, a = hp.objs.size + 1 := ⟨_, rfl⟩
  have above : hp.objs.size ≤ a := by omega
  have new : H1 a = none := I1.hok.fresh above
  obtain ⟨h2, eh⟩ : ∃ h2, h2 = (hp.push (PySem.W.kdv_tup us)).push (PySem.HandSPX.excO C hp.objs.size) := ⟨_, rfl⟩
  have keeps : ∀ b o, hp.get? b = some o → h2.get? b = some o := by
    intro b o eb
    rw [eh]
    exact Heap.get?_push_of_some _ (Heap.get?_push_of_some _ eb)
  have there : h2.get? a = some (PySem.HandSPX.excO C hp.objs.size) := by
    rw [eh, ea]
    heap_get
  have I2 : Inv X pins σ (upd H1 a (exo a C none)) ⟨h2, g, dr, tk, os⟩ := Inv.laid (t' := tk) I1 keeps above (exo_ok there)
  have vals : Vals (V.ref a :: (vs ++ dvs)) (Value.ref a :: (us ++ ds)) := .cons rfl (rv.append dv)
  have many : (Value.ref a :: (us ++ ds)).length = ps.length := vals.length.symm.trans (FI.len _ _ _ _ (wish a new))
  have line : us.length ≤ sizeLine := by
    have := rv.length
    rw [sizeLine_eq]
    omega
  have deeper := room.make C us []
  have envs := I2.env0.make C us []
  have bound := bi ⟨h2, g, dr, tk, os⟩ (Value.ref a :: us) I2.kIn many
  have ran := FI.run _ X.stack _ _ ⟨Value.ref a :: us, []⟩ (Value.ref a :: (us ++ ds)) _ _ (fun _ _ _ => False) deeper envs bound vals (wish a new)
  refine wpAny_call (PySem.HandSPX.call_own (h := hp) F.excBase_ValueError (fun Y => PySem.HandSPX.refsVE_contains Y tail tailOk) (I1.kIn _ _ look) (PySem.W.looks_findIn I1.kIn iC) (fun self => PySem.W.bind_fn I1.kIn self tI) line ?_)
  rw [← ea, ← eh]
  refine codeAny_mono ran fun r s' z => ?_
  match r, z with
  | .error er, z => exact no pins σ _ _ er s' I2 z
  | .ok (.ret u), z =>
    obtain ⟨v, H2, os2, bare, un, hok, ruv, ev, d, fs, e1, e2, e3, q⟩ := z
    subst ev
    cases s' with
    | mk h3 g3 d3 t3 os3 =>
    obtain ⟨t0, G, J, kG, none_, obj, na⟩ := mk_end0 (d2 := d3) (t2 := t3) I1 above keeps un hok os2 bare e1 e2 e3
    refine ⟨ruv, a, _, _, ⟨G, g3, d3, t3, os3⟩, _, .ref C, some d, rfl, J, kG, none_, obj, ⟨rfl, rfl, fun ws ew => ?_⟩, rfl, rfl, na, rfl, bare, raises_own T.exC T.tyC, q⟩
    injection ew with ew
    rw [← ew]
    rfl
  | .ok .next, z => exact z.elim
  | .ok .brk, z => exact z.elim
  | .ok .cont, z => exact z.elim
theorem pmkN_oex {CX : CXT} {x : Str} {C fI : Addr} {k : Nat} {fd : FuncData} {ps : List Str} {sp : Sp} {ds : List Value} {dvs : List V}
    (T : OexC X.K C) (iC : PySem.W.findIn X.K (.ref C) "__init__" = some (some (.ref fI)))
    (tI : PySem.W.typeIn X.K (.ref fI) = some (.type "function"))
    (FI : FnOk X.prog X.w X.K X.mg X.base CX k fI fd ps sp)
    (room : Room (k + 1) X.A) (bi : Binds X.K fd ps ds) (dv : Vals dvs ds)
    (no : Passes CX X (fun _ _ _ => False))
    (gl : Gl X x) (at_ : X.mg x = some (.ref C)) (args : PA X (e :: es) ta)
    (nd : (x == ("__debug__" : Str)) = false := by decide)
    (one : starEach (e :: es) X.env = (false, eval e X.env) :: starEach es X.env := by rfl)
    (plain : (backTo pos (starEach es X.env)).any (·.1) = false := by rfl) :
    L2N.PMk X (.Call (.Name x p) (e :: es) [] pos) (tMkO C sp dvs ta) := by
  intro pins s σ H Q I h
  refine wpAny_Call_Name_kw (ld_glob I gl at_ ?_ nd)
  have got := args.run pos pins s σ H _ I h
  refine PySem.W.callWith_K (h₀ := X.base) I.ok.mod.kin T.kC ?_ one plain
  refine thn got fun us s1 z => ?_
  obtain ⟨vs, H1, I1, rv, few, wish⟩ := z
  exact ⟨I1.kIn, made_oexN T iC tI FI room bi dv no I1 rv few wish⟩
end
end RT

set_option Elab.async false
set_option linter.all false
set_option maxRecDepth 100000
set_option maxHeartbeats 4000000
set_option exponentiation.threshold 600
namespace K04P
open PySem PySem.Spec PyProof.Rows L2 RT WM K04 TL
section
variable {P : Program} {w : World} {K : PySem.W.Frag} {mg : Str → Option Value} {base : Heap}
/-- C(n) with one field -/
def spOneInit (K : PySem.W.Frag) (C f : Str) : Sp := fun vs H Q _ => ∃ (a : Addr) (n : Nat), vs = [.ref a, optV (some n)] ∧ n ≤ 5000 ∧ H a = some (exo a (He.ga K C) none) ∧
  ∀ d, H d = none → d ≠ a → Q .non (upd (upd H d (exd d [(f, optV (some n))])) a (exo a (He.ga K C) (some d)))
theorem ok_largeI (D : Ds K) (T : Tx K mg) : FnOk P w K mg base CX0 1 (dTooLarge_init.adr K) D.fd_TooLarge_init ["self", "limit"] (spOneInit K "TooLarge" "limit") := by
  obtain ⟨c1, c2, c3, c4⟩ := T.ce_PlotError
  refine D.F_TooLarge_init.ok scTooLarge_init (fun vs H Q E h => ?_) (fun cdv A outer s H vs Q E hr h => ?_)
  · obtain ⟨a, n, rfl, _⟩ := h
    rfl
  · obtain ⟨a, n, rfl, hn, ea, q⟩ := h
    refine ⟨_, PSs.nox (pss_cons (ps_expr (pe_ceinit (by rfl) T.g_PlotError c1 c2 c3 c4 (pa_cons (pv 0) (pa_cons (pe_joined (.cons pe_str (.cons (pe_fmt0 (pv 1)) .nil))) pa_nil))))
      (pss_one (ps_ost (pv 0) (pv 1)))), ?_⟩
    have fin : ∀ out : Str, ∃ (b C : Addr) (ws : List V), [V.ref a, V.str out] = .ref b :: ws ∧ ws.length ≤ 1000 ∧ OexC K C ∧ H b = some (exo b C none) ∧ tOst K "limit" (tVar 0) (tVar 1) { nx := fun x H' => Q V.non H', rt := Q } (L2.start NTooLarge_init [V.ref a, optV (some n)]) H := fun out =>
      ⟨a, He.ga K "TooLarge", [.str out], rfl, by show 1 ≤ 1000; decide, T.ox_TooLarge, ea, _, rfl, _, rfl, a, He.ga K "TooLarge", rfl, T.ox_TooLarge, T.no_TooLarge_limit, .inl ⟨ea, fun dx nd ne => q dx nd ne⟩⟩
    have l1 : (Str.empty ++ ("larger than " : Str)).length ≤ 60 := by decide
    refine ⟨_, rfl, _, rfl, Nat.le_trans l1 (by decide), ?_⟩
    have h30 : n ≤ T30 := Nat.le_trans hn (by decide)
    refine ⟨_, rfl, .inr (.inl ⟨(n : Int), rfl, ?_, _, rfl, ?_, fin _⟩)⟩
    · have h1 : ((n : Int)).natAbs < 2 ^ 20 := by omega
      exact Nat.lt_trans (PySem.Flt.log2_lt_of (by decide) h1) (by decide)
    · rw [strLen_append]
      have := dg_len h30
      rw [← dgS_eq] at this
      exact Nat.le_trans (Nat.add_le_add l1 this) (by decide)
theorem ok_deepI (D : Ds K) (T : Tx K mg) : FnOk P w K mg base CX0 1 (dTooDeep_init.adr K) D.fd_TooDeep_init ["self", "limit"] (spOneInit K "TooDeep" "limit") := by
  obtain ⟨c1, c2, c3, c4⟩ := T.ce_PlotError
  refine D.F_TooDeep_init.ok scTooDeep_init (fun vs H Q E h => ?_) (fun cdv A outer s H vs Q E hr h => ?_)
  · obtain ⟨a, n, rfl, _⟩ := h
    rfl
  · obtain ⟨a, n, rfl, hn, ea, q⟩ := h
    refine ⟨_, PSs.nox (pss_cons (ps_expr (pe_ceinit (by rfl) T.g_PlotError c1 c2 c3 c4 (pa_cons (pv 0) (pa_cons (pe_joined (.cons pe_str (.cons (pe_fmt0 (pv 1)) .nil))) pa_nil))))
      (pss_one (ps_ost (pv 0) (pv 1)))), ?_⟩
    have fin : ∀ out : Str, ∃ (b C : Addr) (ws : List V), [V.ref a, V.str out] = .ref b :: ws ∧ ws.length ≤ 1000 ∧ OexC K C ∧ H b = some (exo b C none) ∧ tOst K "limit" (tVar 0) (tVar 1) { nx := fun x H' => Q V.non H', rt := Q } (L2.start NTooDeep_init [V.ref a, optV (some n)]) H := fun out =>
      ⟨a, He.ga K "TooDeep", [.str out], rfl, by show 1 ≤ 1000; decide, T.ox_TooDeep, ea, _, rfl, _, rfl, a, He.ga K "TooDeep", rfl, T.ox_TooDeep, T.no_TooDeep_limit, .inl ⟨ea, fun dx nd ne => q dx nd ne⟩⟩
    have l1 : (Str.empty ++ ("repeats nested deeper than " : Str)).length ≤ 60 := by decide
    refine ⟨_, rfl, _, rfl, Nat.le_trans l1 (by decide), ?_⟩
    have h30 : n ≤ T30 := Nat.le_trans hn (by decide)
    refine ⟨_, rfl, .inr (.inl ⟨(n : Int), rfl, ?_, _, rfl, ?_, fin _⟩)⟩
    · have h1 : ((n : Int)).natAbs < 2 ^ 20 := by omega
      exact Nat.lt_trans (PySem.Flt.log2_lt_of (by decide) h1) (by decide)
    · rw [strLen_append]
      have := dg_len h30
      rw [← dgS_eq] at this
      exact Nat.le_trans (Nat.add_le_add l1 this) (by decide)
theorem ok_textI (D : Ds K) (T : Tx K mg) : FnOk P w K mg base CX0 1 (dInvalidText_init.adr K) D.fd_InvalidText_init ["self", "index"] (spOneInit K "InvalidText" "index") := by
  obtain ⟨c1, c2, c3, c4⟩ := T.ce_PlotError
  refine D.F_InvalidText_init.ok scInvalidText_init (fun vs H Q E h => ?_) (fun cdv A outer s H vs Q E hr h => ?_)
  · obtain ⟨a, n, rfl, _⟩ := h
    rfl
  · obtain ⟨a, n, rfl, hn, ea, q⟩ := h
    refine ⟨_, PSs.nox (pss_cons (ps_expr (pe_ceinit (by rfl) T.g_PlotError c1 c2 c3 c4 (pa_cons (pv 0) (pa_cons (pe_joined (.cons pe_str (.cons (pe_fmt0 (pv 1)) .nil))) pa_nil))))
      (pss_one (ps_ost (pv 0) (pv 1)))), ?_⟩
    have fin : ∀ out : Str, ∃ (b C : Addr) (ws : List V), [V.ref a, V.str out] = .ref b :: ws ∧ ws.length ≤ 1000 ∧ OexC K C ∧ H b = some (exo b C none) ∧ tOst K "index" (tVar 0) (tVar 1) { nx := fun x H' => Q V.non H', rt := Q } (L2.start NInvalidText_init [V.ref a, optV (some n)]) H := fun out =>
      ⟨a, He.ga K "InvalidText", [.str out], rfl, by show 1 ≤ 1000; decide, T.ox_InvalidText, ea, _, rfl, _, rfl, a, He.ga K "InvalidText", rfl, T.ox_InvalidText, T.no_InvalidText_index, .inl ⟨ea, fun dx nd ne => q dx nd ne⟩⟩
    have l1 : (Str.empty ++ ("not a program text, first wrong word: " : Str)).length ≤ 60 := by decide
    refine ⟨_, rfl, _, rfl, Nat.le_trans l1 (by decide), ?_⟩
    have h30 : n ≤ T30 := Nat.le_trans hn (by decide)
    refine ⟨_, rfl, .inr (.inl ⟨(n : Int), rfl, ?_, _, rfl, ?_, fin _⟩)⟩
    · have h1 : ((n : Int)).natAbs < 2 ^ 20 := by omega
      exact Nat.lt_trans (PySem.Flt.log2_lt_of (by decide) h1) (by decide)
    · rw [strLen_append]
      have := dg_len h30
      rw [← dgS_eq] at this
      exact Nat.le_trans (Nat.add_le_add l1 this) (by decide)
/-- InvalidSource(line, index) -/
def spSrcInit (K : PySem.W.Frag) : Sp := fun vs H Q _ => ∃ (a : Addr) (l n : Nat), vs = [.ref a, optV (some l), optV (some n)] ∧ l ≤ 5000 ∧ n ≤ 5000 ∧ H a = some (exo a (He.ga K "InvalidSource") none) ∧
  ∀ d, H d = none → d ≠ a → Q .non (upd (upd (upd H d (exd d [("line", optV (some l))])) a (exo a (He.ga K "InvalidSource") (some d))) d (exd d [("index", optV (some n)), ("line", optV (some l))]))
theorem ok_srcI (D : Ds K) (T : Tx K mg) : FnOk P w K mg base CX0 1 (dInvalidSource_init.adr K) D.fd_InvalidSource_init ["self", "line", "index"] (spSrcInit K) := by
  obtain ⟨c1, c2, c3, c4⟩ := T.ce_PlotError
  refine D.F_InvalidSource_init.ok scInvalidSource_init (fun vs H Q E h => ?_) (fun cdv A outer s H vs Q E hr h => ?_)
  · obtain ⟨a, l, n, rfl, _⟩ := h
    rfl
  · obtain ⟨a, l, n, rfl, hl, hn, ea, q⟩ := h
    refine ⟨_, PSs.nox (pss_cons (ps_expr (pe_ceinit (by rfl) T.g_PlotError c1 c2 c3 c4 (pa_cons (pv 0) (pa_cons (pe_joined (.cons pe_str (.cons (pe_fmt0 (pv 1)) (.cons pe_str (.cons (pe_fmt0 (pv 2)) .nil))))) pa_nil))))
      (pss_cons (ps_ost (pv 0) (pv 1)) (pss_one (ps_ost (pv 0) (pv 2))))), ?_⟩
    have lg : ∀ {k : Nat}, k ≤ 5000 → ((k : Int)).natAbs.log2 < 1920 := fun {k} h => by
      have h1 : ((k : Int)).natAbs < 2 ^ 20 := by omega
      exact Nat.lt_trans (PySem.Flt.log2_lt_of (by decide) h1) (by decide)
    have ln : ∀ {k : Nat}, k ≤ 5000 → (Str.ofString (toString (k : Int))).length ≤ 31 := fun {k} h => by
      have := dg_len (n := k) (Nat.le_trans h (by decide))
      rw [← dgS_eq] at this
      exact this
    have l1 : (Str.empty ++ ("not a source, first wrong line: " : Str)).length ≤ 60 := by decide
    refine ⟨_, rfl, _, rfl, Nat.le_trans l1 (by decide), ?_⟩
    refine ⟨_, rfl, .inr (.inl ⟨(l : Int), rfl, lg hl, _, rfl, ?_, ?_⟩)⟩
    · rw [strLen_append]
      exact Nat.le_trans (Nat.add_le_add l1 (ln hl)) (by decide)
    have l3 : (", word in it: " : Str).length ≤ 20 := by decide
    refine ⟨_, rfl, ?_, ?_⟩
    · rw [strLen_append, strLen_append]
      exact Nat.le_trans (Nat.add_le_add (Nat.add_le_add l1 (ln hl)) l3) (by decide)
    refine ⟨_, rfl, .inr (.inl ⟨(n : Int), rfl, lg hn, _, rfl, ?_, ?_⟩)⟩
    · rw [strLen_append, strLen_append, strLen_append]
      exact Nat.le_trans (Nat.add_le_add (Nat.add_le_add (Nat.add_le_add l1 (ln hl)) l3) (ln hn)) (by decide)
    refine ⟨a, He.ga K "InvalidSource", [.str _], rfl, by show 1 ≤ 1000; decide, T.ox_InvalidSource, ea, _, rfl, _, rfl, a, He.ga K "InvalidSource", rfl, T.ox_InvalidSource, T.no_InvalidSource_line, .inl ⟨ea, fun dx nd ne => ?_⟩⟩
    refine ⟨_, rfl, _, rfl, a, He.ga K "InvalidSource", rfl, T.ox_InvalidSource, T.no_InvalidSource_index, .inr ⟨dx, _, upd_same, (upd_ne ne).trans upd_same, by show 1 ≤ 900; decide, q dx nd ne⟩⟩
end
end K04P

set_option Elab.async false
set_option linter.all false
set_option maxRecDepth 100000
set_option maxHeartbeats 4000000
/-! an exception made as a value: it stands tracked -/
namespace RT
open PySem PySem.Spec PyProof.Rows L2
section
variable {X : Cx} {e : Expr} {t : L2.St → Hp → XK → Prop}
theorem pe_ofMk (he : L2N.PMk X e t) : PE X e (fun σ H Q => t σ H fun cls d H' => ∀ a, H' a = none → Q (.ref a) (upd H' a (ExT a cls d))) := by
  refine ⟨fun pins s σ H Q I h => ?_⟩
  refine wpAny_mono (he pins s σ H _ I h) (fun u s' z => ?_) fun _ _ x => x
  obtain ⟨a, oe, vs, sI, H', cls, d, rfl, J, keeps, na, ea, zn, fl, _, nH, os, ag, _, q⟩ := z
  have K := Inv.laidN (t' := s'.toks) (o := ExT a cls d) J keeps na nH (exT_ok ea zn.1 zn.2.1 fl)
  exact ⟨.ref a, upd H' a (ExT a cls d), ⟨K.ok, os.trans K.os, ag, K.base, K.loc, K.cell, K.free, K.freeC, K.pin, K.hok, K.len⟩, rfl, q a nH⟩
end
end RT

set_option Elab.async false
set_option linter.all false
set_option maxRecDepth 100000
set_option maxHeartbeats 4000000
/-! own operators that may raise into a suite -/
namespace RT
open PySem PySem.Spec PyProof.Rows L2
section
variable {X : Cx} {CX : CXT} {k : Nat} {C f : Addr} {fd : FuncData} {ps : List Str} {sp : Sp} {E : L2.St → XK} {a b : Expr} {pos : Pos} {ta tb : TE}
theorem pe_binOS {op : Operator} (K0 : PySem.W.Frag) (hc : PySem.W.selfFirst X.K C = true) (hm : Meth X.K C (PySem.dunder op.info.2) f) (F : FnOk X.prog X.w X.K X.mg X.base CX k f fd ps sp) (hr : Room k X.A) (hb : Binds X.K fd ps []) (hx : ∀ σ, PassesAt CX X σ (E σ))
    (ha : PE X a ta) (hb2 : PE X b tb) (hK : X.K = K0 := by rfl) : PE X (.BinOp a op b pos) (fun σ H Q => tOp (rBinO K0 C op sp (E σ)) ta tb σ H Q) := by
  subst hK
  refine ⟨fun pins s σ H Q I h => ?_⟩
  refine wpAny_BinOp (binT ha hb2 I h fun v u s2 x y H2 I2 rx ry q => ?_)
  obtain ⟨a, dx, fs, rfl, ea, ty, q⟩ := q
  cases (show v = Value.ref a from rx)
  obtain ⟨mA, O, _⟩ := ins_get I2.hok ea
  obtain ⟨od, J, _⟩ := O.look
  obtain ⟨m, hF⟩ := I2.fr
  have go : wpAny (model X.prog X.w) X.A (call (.ref f) [.ref a, u]) (PySem.W.CmpBack (EP X pins σ Q)) X.xe s2 := by
    refine wpAny_mono (run_fnS F hr hb (hx σ) I2 (vs := [.ref a, y]) (.cons rfl (.cons ry .nil)) q) (fun w s' z => ?_) fun _ _ x => x
    obtain ⟨z', H', I', rz, qz⟩ := z
    exact SlX.cmpback rz ⟨z', H', I', rz, qz⟩
  rcases ty with ⟨b, dy, gs, rfl, eb⟩ | ⟨T, ty, R⟩
  · cases (show u = Value.ref b from ry)
    obtain ⟨mB, O', _⟩ := ins_get I2.hok eb
    obtain ⟨od', J', _⟩ := O'.look
    exact PySem.W.binop_K hF I2.ok.mod.kin J J'.type hc hm.at_ hm.fn go
  · obtain ⟨P, Z, p, _⟩ := kit_ofY I2 ry ty
    obtain ⟨fo, t1⟩ := R.t1
    obtain ⟨ro, t2⟩ := R.t2
    exact PySem.W.rt_binT hF I2.ok.mod.kin J (Z.ty _ _ I2.kIn p) hc hm.at_ hm.fn R.r0 (.inl rfl) t1 t2 R.sb go
theorem pe_invOS (hm : Meth X.K C "__invert__" f) (F : FnOk X.prog X.w X.K X.mg X.base CX k f fd ps sp) (hr : Room k X.A) (hb : Binds X.K fd ps []) (hx : ∀ σ, PassesAt CX X σ (E σ))
    (ha : PE X a ta) : PE X (.UnaryOp .Invert a pos) (fun σ H Q => tUn (rUnO C sp (E σ)) ta σ H Q) := by
  refine ⟨fun pins s σ H Q I h => ?_⟩
  refine UnaryOp_ (thn (ha.run pins s σ H _ I h) fun v s1 ⟨x, H1, I1, r1, q1⟩ => ?_)
  obtain ⟨a, dx, fs, rfl, ea, q⟩ := q1
  cases (show v = Value.ref a from r1)
  obtain ⟨mA, O, _⟩ := ins_get I1.hok ea
  obtain ⟨od, J, _⟩ := O.look
  obtain ⟨m, hF⟩ := I1.fr
  exact PySem.W.ksp_inv hF I1.ok.mod.kin J hm.at_ hm.fn (run_fnS F hr hb (hx σ) I1 (vs := [.ref a]) (.cons rfl .nil) q)
end
end RT

set_option Elab.async false
set_option linter.all false
set_option maxRecDepth 100000
set_option maxHeartbeats 4000000
set_option exponentiation.threshold 600
namespace K04P
open PySem PySem.Spec PyProof.Rows L2 RT WM K04 TL
/-- a value's kind, as the checks of numbers see it -/
inductive Nu (K : PySem.W.Frag) (H : Hp) : V → Option Int → Prop where
  | int (i : Int) : Nu K H (.int i) (some i)
  | bl (b : Bool) : Nu K H (.bl b) none
  | other {v : V} (t : Value) (ty : TyY K H v t) (k : PySem.W.kitOne K t (.type "int") = some false) : Nu K H v none
section
variable {P : Program} {w : World} {K : PySem.W.Frag} {mg : Str → Option Value} {base : Heap}
theorem kit_bi {K : PySem.W.Frag} : PySem.W.kitOne K (.type "bool") (.type "int") = some true := kit_ty (by decide +kernel)
theorem kit_bb {K : PySem.W.Frag} : PySem.W.kitOne K (.type "bool") (.type "bool") = some true := kit_ty (by decide +kernel)
def spIsIntQ (K : PySem.W.Frag) : Sp := fun vs H Q _ => ∃ v o, vs = [v] ∧ Nu K H v o ∧ Q (.bl o.isSome) H
theorem ok_isintQ (D : Ds K) (T : Tx K mg) : FnOk P w K mg base CX0 1 (dis_integer.adr K) D.fd_is_integer ["value"] (spIsIntQ K) := by
  refine D.F_is_integer.ok scis_integer (fun vs H Q E h => ?_) (fun cdv A outer s H vs Q E hr h => ?_)
  · obtain ⟨v, o, rfl, _⟩ := h
    rfl
  · obtain ⟨v, o, rfl, n, q⟩ := h
    refine ⟨_, PSs.nox (pss_one (ps_ret (pe_and (pe_callB call_isiY (by rfl) T.z_isinstance (by decide +kernel) (pa_cons (pv 0) (pa_cons (pe_bltn (v := .ty "int") (by rfl) T.z_int (by decide +kernel) rfl) pa_nil)))
      (pe_one (pe_not (pe_callB call_isiY (by rfl) T.z_isinstance (by decide +kernel) (pa_cons (pv 0) (pa_cons (pe_bltn (v := .ty "bool") (by rfl) T.z_bool (by decide +kernel) rfl) pa_nil)))))))), ?_⟩
    cases n with
    | int i => exact ⟨_, rfl, _, .ty "int", _, _, true, rfl, .ty "int", .base (.base (.int i)), kit_ii, true, rfl, iteT ⟨_, rfl, _, .ty "bool", _, _, false, rfl, .ty "bool", .base (.base (.int i)), kit_ib, false, rfl, q⟩⟩
    | bl b => exact ⟨_, rfl, _, .ty "int", _, _, true, rfl, .ty "int", .base (.base (.bl b)), kit_bi, true, rfl, iteT ⟨_, rfl, _, .ty "bool", _, _, true, rfl, .ty "bool", .base (.base (.bl b)), kit_bb, true, rfl, q⟩⟩
    | other t ty k => exact ⟨_, rfl, _, .ty "int", _, _, false, rfl, .ty "int", ty, k, false, rfl, iteF q⟩
def inR (o : Option Int) (l m : Int) : Bool := match o with | some v => decide (l ≤ v) && decide (v ≤ m) | none => false
def spWithinQ (K : PySem.W.Frag) : Sp := fun vs H Q _ => ∃ (v : V) (o : Option Int) (l m : Int), vs = [v, .int l, .int m] ∧ Nu K H v o ∧ Q (.bl (inR o l m)) H
theorem ok_withinQ (D : Ds K) (T : Tx K mg) : FnOk P w K mg base CX0 2 (dis_integer_within.adr K) D.fd_is_integer_within ["value", "least", "most"] (spWithinQ K) := by
  have G1 : FnOk P w K mg base CX0 1 _ _ _ (spIsIntQ K) := ok_isintQ D T
  refine D.F_is_integer_within.ok scis_integer_within (fun vs H Q E h => ?_) (fun cdv A outer s H vs Q E hr h => ?_)
  · obtain ⟨v, o, l, m, rfl, _⟩ := h
    rfl
  · obtain ⟨v, o, l, m, rfl, n, q⟩ := h
    refine ⟨_, PSs.nox (pss_one (ps_ret (pe_and (pe_call G1 hr (by rfl) T.g_is_integer D.F_is_integer.kp (b_is_integer D) .nil pass0 (pa_cons (pv 0) pa_nil))
      (pe_one (pe_chain op_le op_le (pv 1) (pv 0) (pv 2)))))), ?_⟩
    refine ⟨_, rfl, v, o, rfl, n, ?_⟩
    cases o with
    | none => exact ⟨false, rfl, iteF q⟩
    | some i =>
      cases n
      refine ⟨true, rfl, iteT ⟨_, rfl, _, rfl, l, i, rfl, rfl, _, rfl, ?_⟩⟩
      change Q (V.bl (decide (l ≤ i) && decide (i ≤ m))) H at q
      by_cases h1 : l ≤ i
      · rw [decide_eq_true h1] at q ⊢
        exact iteT ⟨_, rfl, i, m, rfl, rfl, q⟩
      · rw [decide_eq_false h1] at q ⊢
        exact iteF q
abbrev ETi (K : PySem.W.Frag) : Value := .ref (He.ga K "InvalidTimes")
abbrev EPr (K : PySem.W.Frag) : Value := .ref (He.ga K "InvalidProgram")
def spTimesX (K : PySem.W.Frag) : Sp := fun vs H Q E => ∃ (v : V) (o : Option Int), vs = [v] ∧ Nu K H v o ∧ (inR o 0 1000000000000000000000000000000 = true → Q .non H) ∧ (inR o 0 1000000000000000000000000000000 = false → E (ETi K) none H)
theorem ok_timesX (D : Ds K) (T : Tx K mg) : FnOk P w K mg base (L2N.CX P w) 3 (dcheck_times.adr K) D.fd_check_times ["times"] (spTimesX K) := by
  have G : FnOk P w K mg base CX0 2 _ _ _ (spWithinQ K) := ok_withinQ D T
  obtain ⟨x1, x2, x3, x4⟩ := T.x_InvalidTimes
  refine D.F_check_times.ok sccheck_times (fun vs H Q E h => ?_) (fun cdv A outer s H vs Q E hr h => ?_)
  · obtain ⟨v, o, rfl, _⟩ := h
    rfl
  · obtain ⟨v, o, rfl, n, q1, q2⟩ := h
    obtain ⟨tM, vM⟩ := T.v_MOST_TIMES
    refine ⟨_, (pss_one (ps_if (PT.nox (pt_not (pt_val (pe_call G hr (by rfl) T.g_is_integer_within D.F_is_integer_within.kp (b_is_integer_within D) .nil pass0 (pa_cons (pv 0) (pa_cons pe_int (pa_cons (pe_glob (v := .int 1000000000000000000000000000000) rfl vM ⟨_, rfl⟩) pa_nil))))))) (pss_one (L2N.ps_raise rfl (L2N.takes_of rfl rfl rfl rfl) (L2N.pmk_own PySem.F.excBase_ValueError x1 T.g_InvalidTimes x2 (raises_own x3 x4) rfl))) pss_nil)), ?_⟩
    refine ⟨_, rfl, v, o, 0, 1000000000000000000000000000000, rfl, n, ?_⟩
    cases e : inR o 0 1000000000000000000000000000000 with
    | true => exact ⟨true, rfl, iteF (q1 e)⟩
    | false => exact ⟨false, rfl, iteT (q2 e)⟩
/-- no program -/
def NoP (K : PySem.W.Frag) (H : Hp) (v : V) : Prop := ∃ t, TyY K H v t ∧ PySem.W.kitOne K t (.ref (He.ga K "Program")) = some false
def spCheckPX (K : PySem.W.Frag) : Sp := fun vs H Q E => ∃ v, vs = [v] ∧ ((∃ a p, v = .ref a ∧ IsP K H a p ∧ Q .non H) ∨ (NoP K H v ∧ E (EPr K) none H))
theorem ok_checkPX (D : Ds K) (T : Tx K mg) : FnOk P w K mg base (L2N.CX P w) 1 (dcheck_program.adr K) D.fd_check_program ["program"] (spCheckPX K) := by
  obtain ⟨x1, x2, x3, x4⟩ := T.x_InvalidProgram
  refine D.F_check_program.ok sccheck_program (fun vs H Q E h => ?_) (fun cdv A outer s H vs Q E hr h => ?_)
  · obtain ⟨v, rfl, _⟩ := h
    rfl
  · obtain ⟨v, rfl, h⟩ := h
    refine ⟨_, (pss_one (ps_if (PT.nox (pt_not (pt_val (pe_callB call_isiY (by rfl) T.z_isinstance (by decide +kernel) (pa_cons (pv 0) (pa_cons (pe_glob (v := .ref (He.ga K "Program")) rfl T.g_Program rfl) pa_nil)))))) (pss_one (L2N.ps_raise rfl (L2N.takes_of rfl rfl rfl rfl) (L2N.pmk_own PySem.F.excBase_ValueError x1 T.g_InvalidProgram x2 (raises_own x3 x4) rfl))) pss_nil)), ?_⟩
    rcases h with ⟨a, p, rfl, ⟨_, _, _, d, wd, t, us, ea, _⟩, q⟩ | ⟨⟨t, ty, kt⟩, q⟩
    · exact ⟨_, rfl, _, .ref (He.ga K "Program"), _, _, true, rfl, .own _, .base (.base (.ins ea T.c_Program T.i_Program.ha T.i_Program.hn T.i_Program.ht T.i_Program.hm)), T.t_Program, true, rfl, iteF q⟩
    · exact ⟨_, rfl, _, .ref (He.ga K "Program"), _, _, false, rfl, .own _, ty, kt, false, rfl, iteT q⟩
end
end K04P

set_option Elab.async false
set_option linter.all false
set_option maxRecDepth 100000
set_option maxHeartbeats 4000000
set_option exponentiation.threshold 600
namespace K04P
open PySem PySem.Spec PyProof.Rows L2 RT WM K04 TL
/-- what a raise of C(n) leaves -/
def LimX (K : PySem.W.Frag) (H : Hp) (E : XK) (C : Str) (n : Nat) : Prop := ∀ d H', Same H H' → H d = none → H' d = some (.xd [("limit", optV (some n))]) → E (.ref (He.ga K C)) (some d) H'
theorem boom1 {K : PySem.W.Frag} {C f : Str} {n : Nat} {H H1 : Hp} {R : XK} (s1 : Same H H1) (hn : n ≤ 5000) (told : ∀ d H', Same H H' → H d = none → H' d = some (.xd [(f, optV (some n))]) → R (.ref (He.ga K C)) (some d) H') : ∀ a, H1 a = none → spOneInit K C f (.ref a :: ([optV (some n)] ++ [])) (upd H1 a (exo a (He.ga K C) none))
    (fun v H2 => v = .non ∧ ∃ (d : Addr) (fs : List (Str × V)), H2 a = some (exo a (He.ga K C) (some d)) ∧ H2 d = some (exd d fs) ∧ H1 d = none ∧ R (.ref (He.ga K C)) (some d) (upd (del H2 a) d (.xd fs))) (fun _ _ _ => False) := by
  intro a na
  refine ⟨a, n, rfl, hn, upd_same, fun d nd hne => ⟨rfl, d, [(f, optV (some n))], upd_same, (upd_ne hne).trans upd_same, ?_, ?_⟩⟩
  · rw [upd_ne hne] at nd
    exact nd
  · rw [upd_ne hne] at nd
    refine told d _ (fun b o e => ?_) ?_ upd_same
    · have e1 := s1 b o e
      have ba : b ≠ a := ne_of_none e1 na
      have bd : b ≠ d := ne_of_none e1 nd
      rw [upd_ne bd, del_ne ba, upd_ne ba, upd_ne bd, upd_ne ba]
      exact e1
    · cases e : H d with
      | none => rfl
      | some o =>
        rw [s1 d o e] at nd
        cases nd
section
variable {P : Program} {w : World} {K : PySem.W.Frag} {mg : Str → Option Value} {base : Heap}
def spAddX (K : PySem.W.Frag) : Sp := fun vs H Q E => ∃ a v p, vs = [.ref a, v] ∧ IsP K H a p ∧
  ((∃ b q, v = .ref b ∧ IsP K H b q ∧ (p.words.length + q.words.length ≤ 1000 → ∀ r H', Same H H' → IsP K H' r (p.app q) → Q (.ref r) H') ∧ (1000 < p.words.length + q.words.length → LimX K H E "TooLarge" 1000)) ∨ (NoP K H v ∧ E (EPr K) none H))
theorem ok_addX (D : Ds K) (T : Tx K mg) : FnOk P w K mg base (L2N.CX P w) 21 (dProgram_add.adr K) D.fd_Program_add ["self", "other"] (spAddX K) := by
  have GC : FnOk P w K mg base (L2N.CX P w) 1 _ _ _ (spCheckPX K) := ok_checkPX D T
  have GI : FnOk P w K mg base CX0 19 _ _ _ (spProg K) := ok_prog D T
  have GL : FnOk P w K mg base CX0 1 _ _ _ (spOneInit K "TooLarge" "limit") := ok_largeI D T
  obtain ⟨o1, o2⟩ := T.oi_TooLarge
  refine D.F_Program_add.ok scProgram_add (fun vs H Q E h => ?_) (fun cdv A outer s H vs Q E hr h => ?_)
  · obtain ⟨a, v, p, rfl, _⟩ := h
    rfl
  · obtain ⟨a, v, p, rfl, ha, h⟩ := h
    obtain ⟨tW, vW⟩ := T.v_MOST_WORDS
    refine ⟨_, (pss_cons (ps_expr (pe_callS GC (hr.mono (by decide)) (by rfl) T.g_check_program D.F_check_program.kp (b_check_program D) (fun σ => L2N.passAt (L2N.takes_of rfl rfl rfl rfl) σ) (pa_cons (pv 1) pa_nil)))
      (pss_cons (ps_if (PT.nox (pt_cmpR op_gt (pe_op op_add (pe_callB call_len_seq (by rfl) T.z_len PySem.boot_len (pa_cons (pe_fld (pv 0) rfl) pa_nil)) (pe_callB call_len_seq (by rfl) T.z_len PySem.boot_len (pa_cons (pe_fld (pv 1) rfl) pa_nil))) (pe_glob (v := .int 1000) rfl vW ⟨_, rfl⟩) (nomark _))) (pss_one (L2N.ps_raise rfl (L2N.takes_of rfl rfl rfl rfl) (pmkN_oex T.ox_TooLarge o1 o2 GL (hr.mono (by decide)) (b_TooLarge_init D) .nil pass0 (by rfl) T.g_TooLarge (pa_cons (pe_glob (v := .int 1000) rfl vW ⟨_, rfl⟩) pa_nil)))) pss_nil)
      (PSs.nox (pss_one (ps_ret (pe_make T.k_Program GI hr (by rfl) T.g_Program (b_Program_init D) .nil pass0 (pa_cons (pe_join pe_str (pe_op op_catA (pe_fld (pv 0) rfl) (pe_fld (pv 1) rfl))) pa_nil))))))), ?_⟩
    rcases h.symm with ⟨no, q⟩ | ⟨b, q, rfl, hb, k, kx⟩
    · exact ⟨_, rfl, _, rfl, .inr ⟨no, q⟩⟩
    obtain ⟨op, lp, wp, d1, wd1, t1, us1, ea, ew1, et1, pt1⟩ := id ha
    obtain ⟨oq, lq, wq, d2, wd2, t2, us2, eb, ew2, et2, pt2⟩ := id hb
    have e1 : (wstrs p.words).length = p.words.length := List.length_map ..
    have e2 : (wstrs q.words).length = q.words.length := List.length_map ..
    refine ⟨_, rfl, _, rfl, .inl ⟨b, q, rfl, hb, ?_⟩⟩
    by_cases hgt : 1000 < p.words.length + q.words.length
    · refine ⟨_, rfl, a, _, d1, _, _, rfl, ea, T.c_Program, T.n_Program__words, rfl, wd1, _, rfl, .inr (tupT ew1), _, rfl, b, _, d2, _, _, rfl, eb, T.c_Program, T.n_Program__words, rfl, wd2, _, rfl, .inr (tupT ew2), _, _, rfl, rfl, _, _, rfl, rfl, true, ?_, iteT ?_⟩
      · rw [e1, e2]
        exact congrArg V.bl (decide_eq_true (by omega))
      exact ⟨by show 1 ≤ 1000; decide, boom1 (n := 1000) (fun _ _ e => e) (by decide) (kx hgt)⟩
    have hle : p.words.length + q.words.length ≤ 1000 := by omega
    have k := k hle
    refine ⟨_, rfl, a, _, d1, _, _, rfl, ea, T.c_Program, T.n_Program__words, rfl, wd1, _, rfl, .inr (tupT ew1), _, rfl, b, _, d2, _, _, rfl, eb, T.c_Program, T.n_Program__words, rfl, wd2, _, rfl, .inr (tupT ew2), _, _, rfl, rfl, _, _, rfl, rfl, false, ?_, iteF ?_⟩
    · rw [e1, e2]
      exact congrArg V.bl (decide_eq_false (by omega))
    have aw : (p.app q).words = p.words ++ q.words := app_words p q
    have aok := app_ok op oq
    have al : (p.app q).lev ≤ 12 := by
      rw [app_lev]
      omega
    have alen : (p.app q).words.length ≤ 1000 := by
      rw [aw, List.length_append]
      exact hle
    have sums : (((p.app q).words.map Wd.str).map (·.length)).sum + ((p.app q).words.map Wd.str).length * (" " : Str).length ≤ 16777216 := by
      have h1 := lens_le (words_ok _ aok)
      have h2 : (" " : Str).length = 1 := rfl
      rw [List.length_map, h2]
      omega
    have fin : ∀ (z : Addr) (H1 : Hp), Same H H1 → H1 z = some (.tup (wstrs (p.app q).words)) → ∀ {R : Addr → Hp → Prop}, (∀ r H', Same H1 H' → IsP K H' r (p.app q) → R r H') → ∀ {t : Str}, t = textOf (p.app q).words → ∀ x dx, H1 x = none → H1 dx = none → dx ≠ x → spProg K (.ref x :: ([.str t] ++ [])) (upd (upd H1 dx (.own x)) x (.ins (He.ga K "Program") dx [])) (fun v H2 => v = .non ∧ R x H2) E0 :=
      fun z H1 s1 ez R hR t et x dx nx nd _ => make_p nx nd et aok al alen fun H2 s2 hp2 => ⟨rfl, hR x H2 s2 hp2⟩
    refine ⟨⟨_, rfl⟩, ?_⟩
    refine ⟨_, rfl, a, _, d1, _, _, rfl, ea, T.c_Program, T.n_Program__words, rfl, _, rfl, b, _, d2, _, _, rfl, eb, T.c_Program, T.n_Program__words, rfl, wd1, wd2, _, _, rfl, rfl, tupT ew1, tupT ew2, ?_, fun z => ?_, fun z1 z2 => ?_, fun z1 z2 y ny => ?_⟩
    · rw [e1, e2]
      exact Nat.le_trans hle (by decide)
    · have z : p.words = [] := List.map_eq_nil_iff.mp z
      have ew : (p.app q).words = q.words := by rw [aw, z]; rfl
      refine ⟨_, wd2, (p.app q).words.map Wd.str, rfl, rfl, .inr (tupT (by rw [← wstrs_map, ew]; exact ew2)), sums, ?_⟩
      exact fin wd2 H (fun _ _ e => e) (by rw [ew]; exact ew2) (fun r H' s h => k r H' s h) (join_eq _ _)
    · have z2 : q.words = [] := List.map_eq_nil_iff.mp z2
      have ew : (p.app q).words = p.words := by rw [aw, z2, List.append_nil]
      refine ⟨_, wd1, (p.app q).words.map Wd.str, rfl, rfl, .inr (tupT (by rw [← wstrs_map, ew]; exact ew1)), sums, ?_⟩
      exact fin wd1 H (fun _ _ e => e) (by rw [ew]; exact ew1) (fun r H' s h => k r H' s h) (join_eq _ _)
    · have sy := same_new (o := .tup (wstrs p.words ++ wstrs q.words)) ny
      have ey : upd H y (.tup (wstrs p.words ++ wstrs q.words)) y = some (.tup (wstrs (p.app q).words)) := by
        rw [upd_same, aw]
        unfold wstrs
        rw [List.map_append]
      refine ⟨_, y, (p.app q).words.map Wd.str, rfl, rfl, .inr (tupT (by rw [← wstrs_map]; exact ey)), sums, ?_⟩
      exact fin y _ sy ey (fun r H' s h => k r H' (sy.trans s) h) (join_eq _ _)
def spMulX (K : PySem.W.Frag) : Sp := fun vs H Q E => ∃ (a : Addr) (v : V) (p : Ps) (o : Option Int), vs = [.ref a, v] ∧ IsP K H a p ∧ Nu K H v o ∧
  (inR o 0 1000000000000000000000000000000 = false → E (ETi K) none H) ∧ (∀ n : Nat, o = some (n : Int) → n ≤ T30 →
    ((2 ≤ n → p ≠ .nil → p.words.length + 2 ≤ 1000 ∧ p.lev + 1 ≤ 12) → ∀ r H', Same H H' → IsP K H' r (rep p n) → Q (.ref r) H') ∧
    (2 ≤ n → p ≠ .nil → 1000 < p.words.length + 2 → LimX K H E "TooLarge" 1000) ∧ (2 ≤ n → p ≠ .nil → p.words.length + 2 ≤ 1000 → 12 < p.lev + 1 → LimX K H E "TooDeep" 12))
theorem ok_mulX (D : Ds K) (T : Tx K mg) : FnOk P w K mg base (L2N.CX P w) 21 (dProgram_mul.adr K) D.fd_Program_mul ["self", "other"] (spMulX K) := by
  have GC : FnOk P w K mg base (L2N.CX P w) 3 _ _ _ (spTimesX K) := ok_timesX D T
  have GI : FnOk P w K mg base CX0 19 _ _ _ (spProg K) := ok_prog D T
  have GL : FnOk P w K mg base CX0 1 _ _ _ (spOneInit K "TooLarge" "limit") := ok_largeI D T
  have GD : FnOk P w K mg base CX0 1 _ _ _ (spOneInit K "TooDeep" "limit") := ok_deepI D T
  obtain ⟨o1, o2⟩ := T.oi_TooLarge
  obtain ⟨o3, o4⟩ := T.oi_TooDeep
  refine D.F_Program_mul.ok scProgram_mul (fun vs H Q E h => ?_) (fun cdv A outer s H vs Q E hr h => ?_)
  · obtain ⟨a, v, p, o, rfl, _⟩ := h
    rfl
  · obtain ⟨a, v, p, o, rfl, ha, num, kt, kk⟩ := h
    obtain ⟨tW, vW⟩ := T.v_MOST_WORDS
    obtain ⟨tD, vD⟩ := T.v_MOST_DEPTH
    refine ⟨_, (pss_cons (ps_expr (pe_callS GC (hr.mono (by decide)) (by rfl) T.g_check_times D.F_check_times.kp (b_check_times D) (fun σ => L2N.passAt (L2N.takes_of rfl rfl rfl rfl) σ) (pa_cons (pv 1) pa_nil)))
      (pss_cons (ps_if (PT.nox (pt_cmpR op_eq (pv 1) pe_int (nomark _))) (PSs.nox (pss_one (ps_ret (pe_make T.k_Program GI hr (by rfl) T.g_Program (b_Program_init D) .nil pass0 (pa_cons pe_str pa_nil))))) pss_nil)
      (pss_cons (ps_if (PT.nox (PW.pt (pw_or (pt_cmpR op_eq (pv 1) pe_int (nomark _)) (pw_or1 (pt_not (pt_truth (pe_fld (pv 0) rfl) (by intro _; rfl))))))) (pss_one (ps_ret (pv 0))) pss_nil)
      (pss_cons (ps_if (PT.nox (pt_cmpR op_gt (pe_op op_add (pe_callB call_len_seq (by rfl) T.z_len PySem.boot_len (pa_cons (pe_fld (pv 0) rfl) pa_nil)) pe_int) (pe_glob (v := .int 1000) rfl vW ⟨_, rfl⟩) (nomark _))) (pss_one (L2N.ps_raise rfl (L2N.takes_of rfl rfl rfl rfl) (pmkN_oex T.ox_TooLarge o1 o2 GL (hr.mono (by decide)) (b_TooLarge_init D) .nil pass0 (by rfl) T.g_TooLarge (pa_cons (pe_glob (v := .int 1000) rfl vW ⟨_, rfl⟩) pa_nil)))) pss_nil)
      (pss_cons (ps_if (PT.nox (pt_cmpR op_gt (pe_op op_add (pe_fld (pv 0) rfl) pe_int) (pe_glob (v := .int 12) rfl vD ⟨_, rfl⟩) (nomark _))) (pss_one (L2N.ps_raise rfl (L2N.takes_of rfl rfl rfl rfl) (pmkN_oex T.ox_TooDeep o3 o4 GD (hr.mono (by decide)) (b_TooDeep_init D) .nil pass0 (by rfl) T.g_TooDeep (pa_cons (pe_glob (v := .int 12) rfl vD ⟨_, rfl⟩) pa_nil)))) pss_nil)
      (PSs.nox (pss_one (ps_ret (pe_make T.k_Program GI hr (by rfl) T.g_Program (b_Program_init D) .nil pass0 (pa_cons (pe_joined (.cons pe_str (.cons (pe_fmt0 (pe_fld (pv 0) rfl)) (.cons pe_str (.cons (pe_fmt0 (pv 1)) .nil))))) pa_nil)))))))))), ?_⟩
    obtain ⟨op, lp, wp, d1, wd1, t1, us1, ea, ew1, et1, pt1⟩ := id ha
    cases hin : inR o 0 1000000000000000000000000000000 with
    | false => exact ⟨_, rfl, _, _, rfl, num, fun z => absurd (hin.symm.trans z) (fun z => nomatch z), fun _ => kt hin⟩
    | true =>
    obtain ⟨n, rfl, hn⟩ : ∃ n : Nat, o = some (n : Int) ∧ n ≤ T30 := by
      cases o with
      | none => cases hin
      | some i =>
        have h2 : (decide ((0 : Int) ≤ i) && decide (i ≤ 1000000000000000000000000000000)) = true := hin
        rw [Bool.and_eq_true] at h2
        have a1 := of_decide_eq_true h2.1
        have a2 := of_decide_eq_true h2.2
        refine ⟨i.toNat, congrArg some (by omega), ?_⟩
        show i.toNat ≤ 1000000000000000000000000000000
        omega
    cases num
    have num : Nu K H (.int (n : Int)) (some (n : Int)) := .int _
    obtain ⟨k0, kw, kd⟩ := kk n rfl hn
    refine ⟨_, rfl, _, _, rfl, num, fun _ => ?_, fun z => absurd (hin.symm.trans z) (fun z => nomatch z)⟩
    by_cases h0 : n = 0
    · subst h0
      refine ⟨_, rfl, rfl, true, rfl, iteT fun x dx nx nd _ => make_p nx nd (p := .nil) rfl trivial (Nat.zero_le _) (Nat.zero_le _) fun H2 s2 hp2 => ⟨rfl, k0 (fun z => absurd z (by decide)) x H2 s2 hp2⟩⟩
    · refine ⟨_, rfl, rfl, false, congrArg V.bl (decide_eq_false fun z => by injection z with z; omega), iteF ?_⟩
      by_cases h1 : n = 1
      · subst h1
        exact ⟨_, rfl, rfl, true, rfl, iteT ⟨_, rfl, k0 (fun z => absurd z (by decide)) a H (fun _ _ e => e) ha⟩⟩
      · refine ⟨_, rfl, rfl, false, congrArg V.bl (decide_eq_false fun z => by injection z with z; omega), iteF ?_⟩
        by_cases hpn : p = .nil
        · subst hpn
          refine ⟨_, rfl, a, _, d1, _, _, rfl, ea, T.c_Program, T.n_Program__words, rfl, false, .inr (.inl ⟨_, tupT ew1, rfl⟩), iteT ⟨_, rfl, k0 (fun _ z => absurd rfl z) a H (fun _ _ e => e) ?_⟩⟩
          have e : rep .nil n = .nil := by
            unfold rep
            rw [if_neg h0, if_neg h1]
          rw [e]
          exact ha
        · have hw0 : p.words ≠ [] := by
            cases p with
            | nil => exact absurd rfl hpn
            | lf c n r => exact nofun
            | rp b n r => exact nofun
          have e1 : (wstrs p.words).length = p.words.length := List.length_map ..
          have hrep : rep p n = .rp p n .nil := by
            unfold rep
            rw [if_neg h0, if_neg h1]
            cases p with
            | nil => exact absurd rfl hpn
            | lf c n r => rfl
            | rp b n r => rfl
          have okr : (Ps.rp p n .nil).ok := ⟨hpn, op, ⟨by omega, hn⟩, trivial⟩
          have tl1 := text_len (okW_of op wp lp)
          have nl : (Str.ofString (toString (n : Int))).length ≤ 31 := by
            rw [dgS_eq]
            exact dg_len hn
          have nlog : ((n : Int)).natAbs.log2 < 1920 := by
            by_cases z : ((n : Int)).natAbs = 0
            · rw [z]; decide
            · have t : T30 < 2 ^ 100 := by decide
              have t2 : (2 : Nat) ^ 100 ≤ 2 ^ 1920 := Nat.pow_le_pow_right (by decide) (by decide)
              exact (Nat.log2_lt z).mpr (by omega)
          have L1 : ("( " : Str).length = 2 := rfl
          have L2' : (" )" : Str).length = 2 := rfl
          have L0 : Str.empty.length = 0 := rfl
          have zl : 40000 ≤ sizeLine := by decide
          refine ⟨_, rfl, a, _, d1, _, _, rfl, ea, T.c_Program, T.n_Program__words, rfl, true, .inr (.inl ⟨_, tupT ew1, ?_⟩), iteF ?_⟩
          · unfold wstrs
            cases hw : p.words with
            | nil => exact absurd hw hw0
            | cons x l => rfl
          by_cases hgt : 1000 < p.words.length + 2
          · refine ⟨_, rfl, a, _, d1, _, _, rfl, ea, T.c_Program, T.n_Program__words, rfl, wd1, _, rfl, .inr (tupT ew1), _, _, rfl, rfl, _, _, rfl, rfl, true, ?_, iteT ?_⟩
            · rw [e1]
              exact congrArg V.bl (decide_eq_true (by omega))
            exact ⟨by show 1 ≤ 1000; decide, boom1 (n := 1000) (fun _ _ e => e) (by decide) (kw (by omega) hpn hgt)⟩
          refine ⟨_, rfl, a, _, d1, _, _, rfl, ea, T.c_Program, T.n_Program__words, rfl, wd1, _, rfl, .inr (tupT ew1), _, _, rfl, rfl, _, _, rfl, rfl, false, ?_, iteF ?_⟩
          · rw [e1]
            exact congrArg V.bl (decide_eq_false (by omega))
          by_cases hdp : 12 < p.lev + 1
          · refine ⟨_, rfl, a, _, d1, _, _, rfl, ea, T.c_Program, T.n_Program__depth, rfl, _, _, rfl, rfl, _, _, rfl, rfl, true, congrArg V.bl (decide_eq_true (by omega)), iteT ?_⟩
            exact ⟨by show 1 ≤ 1000; decide, boom1 (n := 12) (fun _ _ e => e) (by decide) (kd (by omega) hpn (by omega) hdp)⟩
          have lvr : (Ps.rp p n .nil).lev ≤ 12 := by
            show max (1 + p.lev) 0 ≤ 12
            omega
          have wr : (Ps.rp p n .nil).words = .op :: (p.words ++ [.cl n]) := rfl
          have wlr : (Ps.rp p n .nil).words.length ≤ 1000 := by
            rw [wr]
            simp only [List.length_cons, List.length_append, List.length_nil]
            omega
          refine ⟨_, rfl, a, _, d1, _, _, rfl, ea, T.c_Program, T.n_Program__depth, rfl, _, _, rfl, rfl, _, _, rfl, rfl, false, congrArg V.bl (decide_eq_false (by omega)), iteF ?_⟩
          refine ⟨_, rfl, ?_, _, rfl, a, _, d1, _, _, rfl, ea, T.c_Program, T.n_Program__text, rfl, .inl ⟨_, rfl, by omega, _, rfl, ?_, _, rfl, ?_, _, rfl, .inr (.inl ⟨_, rfl, nlog, _, rfl, ?_, ?_⟩)⟩⟩
          · rw [strLen_append]; omega
          · rw [strLen_append, strLen_append]; omega
          · rw [strLen_append, strLen_append, strLen_append]; omega
          · rw [strLen_append, strLen_append, strLen_append, strLen_append]; omega
          · refine fun x dx nx nd _ => make_p nx nd (p := .rp p n .nil) ((text_rep hw0 n).trans (by rw [wr])) okr lvr wlr fun H2 s2 hp2 => ⟨rfl, k0 (fun _ _ => ⟨by omega, by omega⟩) x H2 s2 (by rw [hrep]; exact hp2)⟩
end
end K04P

set_option linter.all false
set_option maxRecDepth 100000
set_option maxHeartbeats 4000000
/-! programs taken back; how often a letter stands in one -/
namespace WM
open PySem PySem.Spec PyProof.Rows L2 TL
def undo (c : Nat) : Nat := if c = 102 then 98 else if c = 98 then 102 else if c = 108 then 114 else if c = 114 then 108 else c
def four : List Nat := [102, 98, 108, 114]
def Ps.back : Ps → Ps
  | .nil => .nil
  | .lf c n r => r.back.app (.lf (undo c) n .nil)
  | .rp b n r => r.back.app (.rp b.back n .nil)
/-- no letter but these four -/
def Ps.plain : Ps → Prop
  | .nil => True
  | .lf c _ r => c ∈ four ∧ r.plain
  | .rp b _ r => b.plain ∧ r.plain
def bst (st : List Wd × List Nat) : Wd → List Wd × List Nat
  | .op => match st.2 with | n :: s => (st.1 ++ [.cl n], s) | [] => (st.1, [])
  | .cl n => (st.1 ++ [.op], n :: st.2)
  | .lt c n => (st.1 ++ [.lt (undo c) n], st.2)
theorem back_fold : ∀ (p : Ps) (st : List Wd × List Nat), p.words.reverse.foldl bst st = (st.1 ++ p.back.words, st.2)
  | .nil, st => by simp [Ps.words, Ps.back]
  | .lf c n r, st => by
    show ((.lt c n :: r.words).reverse).foldl bst st = _
    rw [List.reverse_cons, List.foldl_append, back_fold r st]
    show (st.1 ++ r.back.words ++ [.lt (undo c) n], st.2) = (st.1 ++ (r.back.app (.lf (undo c) n .nil)).words, st.2)
    rw [app_words, List.append_assoc]
    rfl
  | .rp b n r, st => by
    show ((.op :: (b.words ++ .cl n :: r.words)).reverse).foldl bst st = _
    rw [List.reverse_cons, List.reverse_append, List.reverse_cons, List.foldl_append, List.foldl_append, List.foldl_append, back_fold r st]
    show [Wd.op].foldl bst (b.words.reverse.foldl bst (st.1 ++ r.back.words ++ [.op], n :: st.2)) = _
    rw [back_fold b]
    show (st.1 ++ r.back.words ++ [.op] ++ b.back.words ++ [.cl n], st.2) = (st.1 ++ (r.back.app (.rp b.back n .nil)).words, st.2)
    rw [app_words]
    show _ = (st.1 ++ (r.back.words ++ (.op :: (b.back.words ++ .cl n :: []))), st.2)
    simp [List.append_assoc]
/-- an opened repeat has its number waiting -/
theorem back_ready : ∀ (p : Ps) (st : List Wd × List Nat) (i : Nat), p.words.reverse[i]? = some .op → ((p.words.reverse.take i).foldl bst st).2 ≠ []
  | .nil, st, i, h => by simp [Ps.words] at h
  | .lf c n r, st, i, h => by
    have e : (Ps.lf c n r).words.reverse = r.words.reverse ++ [.lt c n] := by show ((.lt c n :: r.words).reverse) = _; rw [List.reverse_cons]
    rw [e] at h ⊢
    by_cases hi : i < r.words.reverse.length
    · rw [List.getElem?_append_left hi] at h
      rw [List.take_append_of_le_length (Nat.le_of_lt hi)]
      exact back_ready r st i h
    · rw [List.getElem?_append_right (by omega)] at h
      cases hk : i - r.words.reverse.length with
      | zero => rw [hk] at h; cases h
      | succ k => rw [hk] at h; cases h
  | .rp b n r, st, i, h => by
    have e : (Ps.rp b n r).words.reverse = r.words.reverse ++ (.cl n :: (b.words.reverse ++ [.op])) := by
      show ((.op :: (b.words ++ .cl n :: r.words)).reverse) = _
      simp
    rw [e] at h ⊢
    by_cases hi : i < r.words.reverse.length
    · rw [List.getElem?_append_left hi] at h
      rw [List.take_append_of_le_length (Nat.le_of_lt hi)]
      exact back_ready r st i h
    · obtain ⟨k, rfl⟩ : ∃ k, i = r.words.reverse.length + k := ⟨i - r.words.reverse.length, by omega⟩
      rw [List.getElem?_append_right (by omega), Nat.add_sub_cancel_left] at h
      rw [List.take_append, List.take_of_length_le (by omega), Nat.add_sub_cancel_left, List.foldl_append, back_fold r st]
      cases k with
      | zero => cases h
      | succ k =>
        rw [List.getElem?_cons_succ] at h
        rw [List.take_succ_cons, List.foldl_cons]
        show ((List.take k (b.words.reverse ++ [Wd.op])).foldl bst (st.1 ++ r.back.words ++ [.op], n :: st.2)).2 ≠ []
        by_cases hk : k < b.words.reverse.length
        · rw [List.getElem?_append_left hk] at h
          rw [List.take_append_of_le_length (Nat.le_of_lt hk)]
          exact back_ready b _ k h
        · obtain ⟨m, rfl⟩ : ∃ m, k = b.words.reverse.length + m := ⟨k - b.words.reverse.length, by omega⟩
          rw [List.getElem?_append_right (by omega), Nat.add_sub_cancel_left] at h
          cases m with
          | zero =>
            rw [Nat.add_zero, List.take_append_of_le_length (Nat.le_refl _), List.take_length, back_fold b]
            exact List.cons_ne_nil _ _
          | succ m => cases h
theorem app_ok' : ∀ {p q : Ps}, p.ok → q.ok → (p.app q).ok
  | .nil, _, _, h => h
  | .lf c n r, q, h, k => ⟨h.1, app_ok' h.2 k⟩
  | .rp b n r, q, h, k => ⟨h.1, h.2.1, h.2.2.1, app_ok' h.2.2.2 k⟩
theorem app_lev' : ∀ (p q : Ps), (p.app q).lev = max p.lev q.lev
  | .nil, q => by show q.lev = max 0 q.lev; omega
  | .lf c n r, q => app_lev' r q
  | .rp b n r, q => by
    show max (1 + b.lev) (r.app q).lev = max (max (1 + b.lev) r.lev) q.lev
    rw [app_lev' r q]; omega
theorem undo_six {c : Nat} (h : c ∈ six) : undo c ∈ six := by
  revert c
  decide
theorem back_ne : ∀ {p : Ps}, p ≠ .nil → p.back ≠ .nil := by
  intro p
  have key : ∀ (q r : Ps), r ≠ .nil → q.app r ≠ .nil := by
    intro q r h
    cases q with
    | nil => exact h
    | lf c n q => exact nofun
    | rp b n q => exact nofun
  cases p with
  | nil => intro h; exact absurd rfl h
  | lf c n r => intro _; exact key _ _ nofun
  | rp b n r => intro _; exact key _ _ nofun
theorem back_ok : ∀ {p : Ps}, p.ok → p.back.ok
  | .nil, _ => trivial
  | .lf c n r, h => app_ok' (back_ok h.2) ⟨⟨undo_six h.1.1, h.1.2⟩, trivial⟩
  | .rp b n r, h => app_ok' (back_ok h.2.2.2) ⟨back_ne h.1, back_ok h.2.1, h.2.2.1, trivial⟩
theorem back_lev : ∀ (p : Ps), p.back.lev = p.lev
  | .nil => rfl
  | .lf c n r => by
    show (r.back.app (.lf (undo c) n .nil)).lev = r.lev
    rw [app_lev', back_lev r]
    show max r.lev 0 = r.lev
    omega
  | .rp b n r => by
    show (r.back.app (.rp b.back n .nil)).lev = max (1 + b.lev) r.lev
    rw [app_lev', back_lev r]
    show max r.lev (max (1 + b.back.lev) 0) = _
    rw [back_lev b]; omega
theorem back_len (p : Ps) : p.back.words.length = p.words.length := by
  have bl : ∀ (ws : List Wd) (st : List Wd × List Nat), (∀ i, ws[i]? = some .op → ((ws.take i).foldl bst st).2 ≠ []) → (ws.foldl bst st).1.length = st.1.length + ws.length := by
    intro ws
    induction ws with
    | nil => intro st _; rfl
    | cons x ws ih =>
      intro st h
      rw [List.foldl_cons, ih (bst st x) (fun i hi => by
        have := h (i + 1) (by rw [List.getElem?_cons_succ]; exact hi)
        rw [List.take_succ_cons, List.foldl_cons] at this
        exact this)]
      have e : (bst st x).1.length = st.1.length + 1 := by
        cases x with
        | op =>
          have := h 0 rfl
          obtain ⟨f, s⟩ := st
          cases s with
          | nil => exact absurd rfl this
          | cons n s => show (f ++ [Wd.cl n]).length = _; rw [List.length_append]; rfl
        | cl n => show (st.1 ++ [Wd.op]).length = _; rw [List.length_append]; rfl
        | lt c n => show (st.1 ++ [Wd.lt (undo c) n]).length = _; rw [List.length_append]; rfl
      rw [e, List.length_cons]; omega
  have h := bl p.words.reverse ([], []) (fun i hi => back_ready p _ i hi)
  rw [back_fold p, List.length_reverse] at h
  simpa using h
/-- how often a letter stands in it -/
def Ps.cnt (c : Nat) : Ps → Nat
  | .nil => 0
  | .lf k n r => n * (if k = c then 1 else 0) + r.cnt c
  | .rp b n r => n * b.cnt c + r.cnt c
def Ps.cnts (c : Nat) : Ps → List Nat
  | .nil => []
  | .lf k n r => n * (if k = c then 1 else 0) :: r.cnts c
  | .rp b n r => n * b.cnt c :: r.cnts c
theorem cnts_sum (c : Nat) : ∀ p : Ps, (p.cnts c).sum = p.cnt c
  | .nil => rfl
  | .lf k n r => by show _ + (r.cnts c).sum = _; rw [cnts_sum c r]; rfl
  | .rp b n r => by show _ + (r.cnts c).sum = _; rw [cnts_sum c r]; rfl
theorem cnt_le (c : Nat) : ∀ p : Ps, p.cnt c ≤ p.size
  | .nil => Nat.le_refl _
  | .lf k n r => by
    have := cnt_le c r
    show n * (if k = c then 1 else 0) + r.cnt c ≤ n + r.size
    split <;> omega
  | .rp b n r => by
    have h1 := cnt_le c r
    have h2 : n * b.cnt c ≤ n * b.size := Nat.mul_le_mul_left _ (cnt_le c b)
    show n * b.cnt c + r.cnt c ≤ b.size * n + r.size
    rw [Nat.mul_comm b.size n]; omega
theorem cnt_zero {c : Nat} : ∀ {p : Ps}, p.ok → (p.cnt c = 0 ↔ ∀ n, Wd.lt c n ∉ p.words)
  | .nil, _ => by simp [Ps.cnt, Ps.words]
  | .lf k n r, h => by
    have ih := cnt_zero (c := c) h.2
    have hn := h.1.2.1
    show n * (if k = c then 1 else 0) + r.cnt c = 0 ↔ ∀ m, Wd.lt c m ∉ (Wd.lt k n :: r.words)
    by_cases hk : k = c
    · subst hk
      rw [if_pos rfl]
      refine ⟨fun z => by omega, fun z => absurd (List.mem_cons_self ..) (z n)⟩
    · rw [if_neg hk, Nat.mul_zero, Nat.zero_add, ih]
      refine ⟨fun z m hm => ?_, fun z m hm => z m (List.mem_cons_of_mem _ hm)⟩
      rcases List.mem_cons.mp hm with e | hm
      · injection e with e1 e2
        exact hk e1.symm
      · exact z m hm
  | .rp b n r, h => by
    have i1 := cnt_zero (c := c) h.2.1
    have i2 := cnt_zero (c := c) h.2.2.2
    have hn := h.2.2.1.1
    show n * b.cnt c + r.cnt c = 0 ↔ ∀ m, Wd.lt c m ∉ (Wd.op :: (b.words ++ Wd.cl n :: r.words))
    have e : n * b.cnt c + r.cnt c = 0 ↔ b.cnt c = 0 ∧ r.cnt c = 0 := by
      refine ⟨fun z => ?_, fun z => by rw [z.1, z.2, Nat.mul_zero]⟩
      have : n * b.cnt c = 0 := by omega
      rcases Nat.mul_eq_zero.mp this with z1 | z1
      · omega
      · exact ⟨z1, by omega⟩
    rw [e, i1, i2]
    refine ⟨fun z m hm => ?_, fun z => ⟨fun m hm => z m (List.mem_cons_of_mem _ (List.mem_append_left _ hm)), fun m hm => z m (List.mem_cons_of_mem _ (List.mem_append_right _ (List.mem_cons_of_mem _ hm)))⟩⟩
    rcases List.mem_cons.mp hm with e | hm
    · cases e
    · rcases List.mem_append.mp hm with hm | hm
      · exact z.1 m hm
      · rcases List.mem_cons.mp hm with e | hm
        · cases e
        · exact z.2 m hm
theorem plain_of {p : Ps} (ok : p.ok) (hu : p.cnt 117 = 0) (hd : p.cnt 100 = 0) : ∀ c n, Wd.lt c n ∈ p.words → c ∈ four := by
  intro c n h
  have h6 := (words_ok p ok _ h).1
  have u := (cnt_zero ok).mp hu
  have d := (cnt_zero ok).mp hd
  unfold six at h6
  unfold four
  simp only [List.mem_cons, List.not_mem_nil, or_false] at h6 ⊢
  rcases h6 with rfl | rfl | rfl | rfl | rfl | rfl
  · exact .inl rfl
  · exact .inr (.inl rfl)
  · exact .inr (.inr (.inl rfl))
  · exact .inr (.inr (.inr rfl))
  · exact absurd h (u n)
  · exact absurd h (d n)
end WM

set_option Elab.async false
set_option linter.all false
set_option maxRecDepth 100000
set_option maxHeartbeats 4000000
set_option exponentiation.threshold 3000
namespace K04P
open PySem PySem.Spec PyProof.Rows L2 RT WM K04 TL
/-- what a part is, for the count -/
theorem partsCnt {C : Addr} {H : Hp} {vs : List V} {p : Ps} (c : Nat) (h : PartsAt C H vs p) (ok : p.ok) : ∀ (i : Nat) (x : V), vs[i]? = some x → ∃ a d fs e n, x = .ref a ∧ H a = some (.ins C d fs) ∧ fs.lookup ("times" : Str) = some (.int ((n : Nat) : Int)) ∧ fs.lookup ("inner" : Str) = some (.ref e) ∧ n ≤ T30 ∧
    ((∃ k, fs.lookup ("letter" : Str) = some (.str ⟨#[k]⟩) ∧ H e = some (.tup []) ∧ (p.cnts c)[i]? = some (n * (if k = c then 1 else 0))) ∨
     (∃ us b, us ≠ [] ∧ H e = some (.tup us) ∧ PartsAt C H us b ∧ b.ok ∧ b.lev < p.lev ∧ b.words.length ≤ p.words.length ∧ (p.cnts c)[i]? = some (n * b.cnt c))) := by
  induction h with
  | nil => intro i x e; cases e
  | @lf a d e k n vs r h1 h2 h3 ih =>
    intro i x ex
    cases i with
    | zero => cases ex; exact ⟨a, d, _, e, n, rfl, h1, rfl, rfl, ok.1.2.2, .inl ⟨k, rfl, h2, rfl⟩⟩
    | succ i =>
      obtain ⟨a', d', fs', e', n', q1, q2, q3, q4, q5, q⟩ := ih ok.2 i x ex
      refine ⟨a', d', fs', e', n', q1, q2, q3, q4, q5, ?_⟩
      rcases q with ⟨k', g1, g2, g3⟩ | ⟨us', b', g0, g1, g2, g3, g4, g5, g6⟩
      · exact .inl ⟨k', g1, g2, g3⟩
      · exact .inr ⟨us', b', g0, g1, g2, g3, g4, Nat.le_trans g5 (Nat.le_succ _), g6⟩
  | @rp a d e n us vs b r h1 h2 h3 h4 ih1 ih2 =>
    intro i x ex
    cases i with
    | zero =>
      cases ex
      refine ⟨a, d, _, e, n, rfl, h1, rfl, rfl, ok.2.2.1.2, .inr ⟨us, b, ?_, h2, h3, ok.2.1, ?_, ?_, rfl⟩⟩
      · intro z
        subst z
        cases h3
        exact ok.1 rfl
      · show b.lev < max (1 + b.lev) r.lev
        omega
      · show _ ≤ (Wd.op :: (b.words ++ Wd.cl n :: r.words)).length
        rw [List.length_cons, List.length_append]
        omega
    | succ i =>
      obtain ⟨a', d', fs', e', n', q1, q2, q3, q4, q5, q⟩ := ih2 ok.2.2.2 i x ex
      refine ⟨a', d', fs', e', n', q1, q2, q3, q4, q5, ?_⟩
      rcases q with ⟨k', g1, g2, g3⟩ | ⟨us', b', g0, g1, g2, g3, g4, g5, g6⟩
      · exact .inl ⟨k', g1, g2, g3⟩
      · refine .inr ⟨us', b', g0, g1, g2, g3, ?_, ?_, g6⟩
        · show _ < max (1 + b.lev) r.lev
          omega
        · show _ ≤ (Wd.op :: (b.words ++ Wd.cl n :: r.words)).length
          rw [List.length_cons, List.length_append, List.length_cons]
          omega
theorem cnts_len {C : Addr} {H : Hp} {vs : List V} {p : Ps} (c : Nat) (h : PartsAt C H vs p) : (p.cnts c).length = vs.length := by
  induction h with
  | nil => rfl
  | lf _ _ _ ih => simp [Ps.cnts, ih]
  | rp _ _ _ _ _ ih => simp [Ps.cnts, ih]
theorem size_top {p : Ps} (ok : p.ok) (hl : p.lev ≤ 12) (hw : p.words.length ≤ 1000) : p.size < 2 ^ 1400 := by
  have h1 := size_le p ok
  have h2 : (2 : Nat) ^ (100 * (p.lev + 1)) ≤ 2 ^ 1300 := Nat.pow_le_pow_right (by decide) (by omega)
  have h3 : p.words.length * 2 ^ (100 * (p.lev + 1)) ≤ 1000 * 2 ^ 1300 := Nat.mul_le_mul hw h2
  have h4 : 1000 * 2 ^ 1300 < 2 ^ 1400 := by decide
  omega
theorem seq_via {A B : TS} {D : Ends} {σ : L2.St} {H : Hp} (Good : L2.St → Hp → Prop) (h1 : ∀ D' : Ends, (∀ σ' H', Good σ' H' → D'.nx σ' H') → A D' σ H) (h2 : ∀ σ' H', Good σ' H' → B D σ' H') : tSeq A B D σ H := h1 _ h2
section
variable {P : Program} {w : World} {K : PySem.W.Frag} {mg : Str → Option Value} {base : Heap}
def spCount (K : PySem.W.Frag) (d : Nat) : Sp := fun vs H Q _ => ∃ (t : Addr) (us : List V) (p : Ps) (c : Nat), vs = [.ref t, .str ⟨#[c]⟩] ∧ H t = some (.tup us) ∧ PartsAt (He.ga K "Part") H us p ∧ p.ok ∧ p.lev ≤ 12 ∧ p.words.length ≤ 1000 ∧ p.lev < d ∧ ∀ H', Same H H' → Q (.int (p.cnt c : Int)) H'
theorem ok_count (D : Ds K) (T : Tx K mg) : ∀ d, FnOk P w K mg base CX0 (1 + d) (dcount_in.adr K) D.fd_count_in ["parts", "letter"] (spCount K d) := by
  intro d
  induction d with
  | zero =>
    refine D.F_count_in.ok sccount_in (fun vs H Q E h => ?_) (fun cdv A outer s H vs Q E hr h => ?_)
    · obtain ⟨t, us, p, c, rfl, _⟩ := h
      rfl
    · obtain ⟨t, us, p, c, rfl, _, _, _, _, _, h0, _⟩ := h
      exact absurd h0 (Nat.not_lt_zero _)
  | succ d ih =>
  refine D.F_count_in.ok sccount_in (fun vs H Q E h => ?_) (fun cdv A outer s H vs Q E hr h => ?_)
  · obtain ⟨t, us, p, c, rfl, _⟩ := h
    rfl
  · obtain ⟨t, us, p, c, rfl, et, hp, ok, hl, hw, hd, q⟩ := h
    have nd := sccount_in.nd
    have hr' : Room (1 + d) _ := hr
    refine ⟨_, PSs.nox (pss_cons (ps_set (i := 2) nd rfl (.inl rfl) pe_int)
      (pss_cons (ps_for PassesOwn.never rfl (pi_tup (pv 0)) (pg_name (i := 3) nd rfl (.inl rfl))
        (pss_cons (ps_set (i := 4) nd rfl (.inl rfl) (pe_ifExp (pt_truth (pe_fld (pv 3) rfl) (by intro _; rfl)) (pe_call ih hr' (by rfl) T.g_count_in D.F_count_in.kp (b_count_in D) .nil pass0 (pa_cons (pe_fld (pv 3) rfl) (pa_cons (pv 1) pa_nil))) (pe_callTy call_int1 (by rfl) T.z_int (by decide +kernel) (pa_cons (pe_cmpR op_eq (pe_fld (pv 3) rfl) (pv 1) (nomark _)) pa_nil))))
        (pss_one (ps_set (i := 2) nd rfl (.inl rfl) (pe_op op_add (pv 2) (pe_op op_mulW (pe_fld (pv 3) rfl) (pv 4)))))))
      (pss_one (ps_ret (pv 2))))), ?_⟩
    refine ⟨_, rfl, t, rfl, ⟨_, tupT et⟩, ?_⟩
    refine for_tup (xs := us) (fun i σ H' => ∃ z3 z4, σ = [some (.ref t), some (.str ⟨#[c]⟩), some (.int (((p.cnts c).take i).sum : Int)), z3, z4] ∧ Same H H') ⟨none, none, rfl, fun _ _ e => e⟩ (fun i σ H' _ hp' => ?_) (fun i x σ H' hx hp' => ?_) fun σ H' hp' => ?_
    · obtain ⟨_, _, _, s⟩ := hp'
      exact tupT (s _ _ et)
    · obtain ⟨z3, z4, rfl, s⟩ := hp'
      obtain ⟨a, dd, fs, e, n, rfl, ea, ft, fi, hn, h⟩ := partsCnt c hp ok i x hx
      have ea' := s _ _ ea
      show tSeq _ _ _ [some (.ref t), some (.str ⟨#[c]⟩), some (.int (((p.cnts c).take i).sum : Int)), some (.ref a), z4] H'
      refine seq_via (Good := fun σ H2 => ∃ m : Nat, σ = [some (.ref t), some (.str ⟨#[c]⟩), some (.int (((p.cnts c).take i).sum : Int)), some (.ref a), some (.int (m : Int))] ∧ Same H H2 ∧ (p.cnts c)[i]? = some (n * m) ∧ m < 2 ^ 1400) (fun D' hD => ?_) (fun σ H2 g => ?_)
      · rcases h with ⟨k, fl, ee, hc⟩ | ⟨us', b, g0, ee, hb, okb, lvb, lnb, hc⟩
        · refine ⟨_, rfl, a, _, dd, fs, .ref e, rfl, ea', T.c_Part, T.n_Part_inner, fi, false, .inr (.inl ⟨[], tupT (s _ _ ee), rfl⟩), iteF ?_⟩
          refine ⟨_, rfl, a, _, dd, fs, _, rfl, ea', T.c_Part, T.n_Part_letter, fl, _, rfl, rfl, .inr ⟨_, rfl, ?_⟩⟩
          by_cases hk : k = c
          · subst hk
            rw [if_pos rfl] at hc
            rw [show decide (V.str ⟨#[k]⟩ = V.str ⟨#[k]⟩) = true from decide_eq_true rfl]
            exact hD _ _ ⟨1, rfl, s, hc, by decide⟩
          · rw [if_neg hk] at hc
            rw [show decide (V.str ⟨#[k]⟩ = V.str ⟨#[c]⟩) = false from decide_eq_false (fun z => hk (by injection z with z; injection z with z; injection z with z; injection z))]
            exact hD _ _ ⟨0, rfl, s, hc, by decide⟩
        · refine ⟨_, rfl, a, _, dd, fs, .ref e, rfl, ea', T.c_Part, T.n_Part_inner, fi, true, .inr (.inl ⟨us', tupT (s _ _ ee), ?_⟩), iteT ?_⟩
          · cases us' with
            | nil => exact absurd rfl g0
            | cons y us' => rfl
          refine ⟨_, rfl, a, _, dd, fs, .ref e, rfl, ea', T.c_Part, T.n_Part_inner, fi, _, rfl, e, us', b, c, rfl, s _ _ ee, hb.same s, okb, by omega, by omega, by omega, fun H2 s2 => hD _ _ ⟨b.cnt c, rfl, s.trans s2, hc, ?_⟩⟩
          exact Nat.lt_of_le_of_lt (cnt_le c b) (size_top okb (by omega) (by omega))
      · obtain ⟨m, rfl, s2, hc, hm⟩ := g
        refine ⟨_, rfl, _, rfl, a, _, dd, fs, _, rfl, s2 _ _ ea, T.c_Part, T.n_Part_times, ft, _, rfl, n, m, rfl, rfl, wide_mul (a := 101) (b := 1400) ?_ ?_ (by decide) (by decide) (by decide), _, _, rfl, rfl, ?_⟩
        · have : T30 < 2 ^ 101 := by decide
          omega
        · rw [Int.natAbs_natCast]; exact hm
        refine ⟨some (.ref a), some (.int (m : Int)), ?_, s2⟩
        rw [List.take_succ, hc, List.sum_append]
        show [some (V.ref t), some (V.str ⟨#[c]⟩), some (V.int (((List.take i (p.cnts c)).sum : Int) + (n : Int) * (m : Int))), some (V.ref a), some (V.int (m : Int))] = _
        have e1 : (((List.take i (p.cnts c)).sum + (some (n * m)).toList.sum : Nat) : Int) = ((List.take i (p.cnts c)).sum : Int) + (n : Int) * (m : Int) := by
          show (((List.take i (p.cnts c)).sum + (n * m + 0) : Nat) : Int) = _
          rw [Nat.add_zero, Int.natCast_add, Int.natCast_mul]
        rw [e1]
    · obtain ⟨z3, z4, rfl, s⟩ := hp'
      refine ⟨_, rfl, ?_⟩
      rw [← cnts_len c hp, List.take_length, cnts_sum]
      exact q _ s
def spHas (K : PySem.W.Frag) : Sp := fun vs H Q _ => ∃ (a : Addr) (p : Ps) (c : Nat), vs = [.ref a, .str ⟨#[c]⟩] ∧ IsP K H a p ∧ c ∈ six ∧ ∀ H', Same H H' → Q (.bl (decide (0 < p.cnt c))) H'
theorem ok_has (D : Ds K) (T : Tx K mg) : FnOk P w K mg base CX0 15 (dProgram_contains.adr K) D.fd_Program_contains ["self", "x"] (spHas K) := by
  have GL : FnOk P w K mg base CX0 1 _ _ _ spLetter := ok_letter D T
  have GC : FnOk P w K mg base CX0 14 _ _ _ (spCount K 13) := ok_count D T 13
  refine D.F_Program_contains.ok scProgram_contains (fun vs H Q E h => ?_) (fun cdv A outer s H vs Q E hr h => ?_)
  · obtain ⟨a, p, c, rfl, _⟩ := h
    rfl
  · obtain ⟨a, p, c, rfl, ⟨ok, hl, hw, d, wd, t, us, ea, ew, et, pt⟩, hc, q⟩ := h
    refine ⟨_, PSs.nox (pss_one (ps_ret (pe_and (pe_call GL (hr.mono (by decide)) (by rfl) T.g_is_letter D.F_is_letter.kp (b_is_letter D) .nil pass0 (pa_cons (pv 1) pa_nil))
      (pe_one (pe_cmpR op_gt (pe_call GC hr (by rfl) T.g_count_in D.F_count_in.kp (b_count_in D) .nil pass0 (pa_cons (pe_fld (pv 0) rfl) (pa_cons (pv 1) pa_nil))) pe_int (nomark _)))))), ?_⟩
    refine ⟨_, rfl, ⟨#[c]⟩, rfl, true, congrArg V.bl (six_one hc), iteT ?_⟩
    refine ⟨_, rfl, a, _, d, _, _, rfl, ea, T.c_Program, T.n_Program__parts, rfl, _, rfl, t, us, p, c, rfl, et, pt, ok, hl, hw, by omega, fun H' s' => ⟨_, _, rfl, rfl, ?_⟩⟩
    have e : decide ((0 : Int) < (p.cnt c : Int)) = decide (0 < p.cnt c) := decide_eq_decide.mpr (by omega)
    show Q (.bl (decide ((0 : Int) < (p.cnt c : Int)))) H'
    rw [e]
    exact q H' s'
end
end K04P

set_option Elab.async false
set_option linter.all false
set_option maxRecDepth 100000
set_option maxHeartbeats 4000000
set_option exponentiation.threshold 3000
namespace K04P
open PySem PySem.Spec PyProof.Rows L2 RT WM K04 TL
def Tb (K : PySem.W.Frag) (w : World) : Prop := ∃ es n, KDict K w (He.ga K "UNDONE") es n
theorem undo_at {K : PySem.W.Frag} {mg : Str → Option Value} {w : World} (T : Tx K mg) (B : Tb K w) {c : Nat} (h : c ∈ four) : KDct K w (He.ga K "UNDONE") ⟨#[c]⟩ (.str ⟨#[undo c]⟩) := by
  obtain ⟨es, n, D⟩ := B
  unfold four at h
  simp only [List.mem_cons, List.not_mem_nil, or_false] at h
  rcases h with rfl | rfl | rfl | rfl
  · obtain ⟨u, e, r⟩ := T.has_UNDONE_f; exact ⟨es, n, u, D.at_, D.lit, e, r⟩
  · obtain ⟨u, e, r⟩ := T.has_UNDONE_b; exact ⟨es, n, u, D.at_, D.lit, e, r⟩
  · obtain ⟨u, e, r⟩ := T.has_UNDONE_l; exact ⟨es, n, u, D.at_, D.lit, e, r⟩
  · obtain ⟨u, e, r⟩ := T.has_UNDONE_r; exact ⟨es, n, u, D.at_, D.lit, e, r⟩
theorem rev_at {α : Type} {xs : List α} {i : Nat} {x : α} (hi : i < xs.length) (h : xs[xs.length - 1 - i]? = some x) : xs.reverse[i]? = some x := by
  rw [List.getElem?_reverse hi]
  exact h
theorem lt_first (c n : Nat) : (Wd.lt c n).str.cps[(0 : Int).toNat]? = some c := by
  show ((if n = 1 then [c] else c :: numL n).toArray)[0]? = some c
  split <;> rfl
theorem lt_rest (c n : Nat) : ∃ r : Str, cutS (Wd.lt c n).str (some 1) none = r ∧ r.length ≤ (Wd.lt c n).str.length ∧ (⟨#[undo c]⟩ : Str) ++ r = (Wd.lt (undo c) n).str := by
  refine ⟨_, rfl, cutS_length _ _ _, ?_⟩
  by_cases h : n = 1
  · subst h
    rfl
  · rw [(lt_cut c h).2]
    refine ext_tl ?_
    rw [tl_append]
    show [undo c] ++ numL n = (if n = 1 then [undo c] else undo c :: numL n)
    rw [if_neg h]
    rfl
theorem bst_len : ∀ (ws : List Wd) (st : List Wd × List Nat), (ws.foldl bst st).1.length ≤ st.1.length + ws.length ∧ (ws.foldl bst st).2.length ≤ st.2.length + ws.length
  | [], st => ⟨Nat.le_refl _, Nat.le_refl _⟩
  | x :: ws, st => by
    have ih := bst_len ws (bst st x)
    have h : (bst st x).1.length ≤ st.1.length + 1 ∧ (bst st x).2.length ≤ st.2.length + 1 := by
      obtain ⟨f, u⟩ := st
      cases x with
      | op =>
        cases u with
        | nil => exact ⟨Nat.le_succ _, Nat.zero_le _⟩
        | cons n u => exact ⟨by show (f ++ [Wd.cl n]).length ≤ _; rw [List.length_append]; exact Nat.le_refl _, by show u.length ≤ (n :: u).length + 1; rw [List.length_cons]; omega⟩
      | cl n => exact ⟨by show (f ++ [Wd.op]).length ≤ _; rw [List.length_append]; exact Nat.le_refl _, Nat.le_refl _⟩
      | lt c n => exact ⟨by show (f ++ [Wd.lt (undo c) n]).length ≤ _; rw [List.length_append]; exact Nat.le_refl _, Nat.le_succ _⟩
    rw [List.foldl_cons, List.length_cons]
    omega
theorem bst_small : ∀ (ws : List Wd) (st : List Wd × List Nat), (∀ x ∈ ws, x.ok) → (∀ m ∈ st.2, m ≤ T30) → ∀ m ∈ (ws.foldl bst st).2, m ≤ T30
  | [], st, _, h => h
  | x :: ws, st, hw, h => by
    rw [List.foldl_cons]
    refine bst_small ws (bst st x) (fun y hy => hw y (List.mem_cons_of_mem _ hy)) ?_
    obtain ⟨f, u⟩ := st
    cases x with
    | op =>
      cases u with
      | nil => exact h
      | cons n u => exact fun m hm => h m (List.mem_cons_of_mem _ hm)
    | cl n =>
      intro m hm
      rcases List.mem_cons.mp hm with rfl | hm
      · exact (hw _ (List.mem_cons_self ..)).2
      · exact h m hm
    | lt c n => exact h
theorem wstrs_snoc (ws : List Wd) (x : Wd) : wstrs (ws ++ [x]) = wstrs ws ++ [.str x.str] := by
  unfold wstrs
  rw [List.map_append]
  rfl
section
variable {P : Program} {w : World} {K : PySem.W.Frag} {mg : Str → Option Value} {base : Heap}
def spBack (K : PySem.W.Frag) : Sp := fun vs H Q _ => ∃ (a : Addr) (p : Ps), vs = [.ref a] ∧ H a = some (.tup (wstrs p.words)) ∧ p.ok ∧ p.words.length ≤ 1000 ∧ (∀ c n, Wd.lt c n ∈ p.words → c ∈ four) ∧
  ∀ r H', Same H H' → H r = none → H' r = some (.lst (wstrs p.back.words)) → Q (.ref r) H'
theorem ok_back (D : Ds K) (T : Tx K mg) (B : Tb K w) : FnOk P w K mg base CX0 1 (dbackward.adr K) D.fd_backward ["words"] (spBack K) := by
  refine D.F_backward.ok scbackward (fun vs H Q E h => ?_) (fun cdv A outer s H vs Q E hr h => ?_)
  · obtain ⟨a, p, rfl, _⟩ := h
    rfl
  · obtain ⟨a, p, rfl, ea, ok, hw, h4, q⟩ := h
    have nd := scbackward.nd
    refine ⟨_, PSs.nox (pss_cons (ps_set (i := 1) nd rfl (.inl rfl) (pe_lst pa_nil))
      (pss_cons (ps_set (i := 2) nd rfl (.inl rfl) (pe_lst pa_nil))
      (pss_cons (ps_for PassesOwn.never rfl (pi_revA (by rfl) T.z_reversed (pv 0)) (pg_name (i := 3) nd rfl (.inl rfl))
        (pss_one (ps_if (pt_val (pe_m1 PySem.F.slot_str_startswith PySem.F.type_str_startswith mt_startswith (pv 3) pe_str))
          (pss_cons (ps_expr (pe_bm PySem.F.plainAttrs_list PySem.F.slot_list_append PySem.F.type_list_append mt_append (pv 2) (pa_cons (pe_slice sl_str (pv 3) (po_some pe_int) po_none) pa_nil)))
            (pss_one (ps_expr (pe_bm PySem.F.plainAttrs_list PySem.F.slot_list_append PySem.F.type_list_append mt_append (pv 1) (pa_cons pe_str pa_nil)))))
          (pss_one (ps_if (pt_cmpR op_eq (pv 3) pe_str (nomark _))
            (pss_one (ps_expr (pe_bm PySem.F.plainAttrs_list PySem.F.slot_list_append PySem.F.type_list_append mt_append (pv 1) (pa_cons (pe_op op_add_str pe_str (pe_bm0 PySem.F.plainAttrs_list PySem.F.slot_list_pop PySem.F.type_list_pop mt_pop (pv 2))) pa_nil))))
            (pss_one (ps_expr (pe_bm PySem.F.plainAttrs_list PySem.F.slot_list_append PySem.F.type_list_append mt_append (pv 1) (pa_cons (pe_op op_add_str (pe_ix ix_kdict (pe_glob (v := .ref (He.ga K "UNDONE")) rfl T.g_UNDONE rfl) (pe_item_str (pv 3) pe_int (fun _ _ => rfl)) (fun _ _ => rfl)) (pe_slice sl_str (pv 3) (po_some pe_int) po_none)) pa_nil)))))))))
      (pss_one (ps_ret (pv 1)))))), ?_⟩
    refine ⟨by show 0 ≤ sizeLine; decide, fun fl hfl => ⟨by show 0 ≤ sizeLine; decide, fun nl hnl => ?_⟩⟩
    have s2 := (same_new (o := .lst []) hfl).trans (same_new (o := .lst []) hnl)
    have efl := (same_new (o := .lst []) hnl) _ _ (upd_same (H := H) (a := fl) (o := .lst []))
    have enl : (upd (upd H fl (.lst [])) nl (.lst [])) nl = some (.lst []) := upd_same
    have fn : fl ≠ nl := fun z => by
      rw [← z, upd_same] at hnl
      cases hnl
    generalize upd (upd H fl (.lst [])) nl (.lst []) = H2 at s2 efl enl ⊢
    show Ends.nx _ [some (.ref a), some (.ref fl), some (.ref nl), none] H2
    refine ⟨_, rfl, a, _, rfl, .inr ⟨tupT (s2 _ _ ea), ?_⟩⟩
    have al : (wstrs p.words).length = p.words.length := List.length_map ..
    refine for_ItvT (xs := wstrs p.words) (fun i σ H' => ∃ z3, σ = [some (.ref a), some (.ref fl), some (.ref nl), z3] ∧ Same H H' ∧ i ≤ p.words.length ∧ H' fl = some (.lst (wstrs ((p.words.reverse.take i).foldl bst ([], [])).1)) ∧ H' nl = some (.lst ((((p.words.reverse.take i).foldl bst ([], [])).2.reverse).map fun n => V.str (dgS n)))) ⟨none, rfl, s2, Nat.zero_le _, efl, enl⟩ (fun i σ H' hp => ?_) (fun i x σ H' hi hx hp => ?_) fun σ H' hp => ?_
    · obtain ⟨_, _, s, _⟩ := hp
      exact tupT (s _ _ ea)
    · obtain ⟨z3, rfl, s, hin, ef, en⟩ := hp
      rw [al] at hi
      obtain ⟨y, hy, rfl⟩ : ∃ y, p.words.reverse[i]? = some y ∧ x = .str y.str := by
        have h := rev_at (by rw [al]; exact hi) hx
        unfold wstrs at h
        rw [← List.map_reverse, List.getElem?_map] at h
        cases e : p.words.reverse[i]? with
        | none => rw [e] at h; cases h
        | some y => rw [e] at h; exact ⟨y, rfl, (Option.some.inj h).symm⟩
      have hyok : y.ok := words_ok p ok y (List.mem_reverse.mp (List.mem_of_getElem? hy))
      have step : (p.words.reverse.take (i + 1)).foldl bst ([], []) = bst ((p.words.reverse.take i).foldl bst ([], [])) y := by
        rw [List.take_succ, hy, List.foldl_append]
        rfl
      have ready := fun z : y = .op => back_ready p ([], []) i (by rw [← z]; exact hy)
      have lens := bst_len (p.words.reverse.take i) ([], [])
      have small := bst_small (p.words.reverse.take i) ([], []) (fun x hx => words_ok p ok x (List.mem_reverse.mp (List.mem_of_mem_take hx))) (fun m hm => nomatch hm)
      have tl1 : (p.words.reverse.take i).length ≤ 1000 := by rw [List.length_take, List.length_reverse]; omega
      rw [step]
      generalize (p.words.reverse.take i).foldl bst ([], []) = st at ef en ready lens small
      obtain ⟨fw, nw⟩ := st
      have big : 5000 ≤ sizeLine := by decide
      have l1 : fw.length ≤ 1000 := Nat.le_trans lens.1 (by show 0 + _ ≤ 1000; omega)
      have l2 : nw.length ≤ 1000 := Nat.le_trans lens.2 (by show 0 + _ ≤ 1000; omega)
      have lf : (wstrs fw).length < sizeLine := by
        have : (wstrs fw).length = fw.length := List.length_map ..
        omega
      have ln : ((nw.reverse).map fun n => V.str (dgS n)).length < sizeLine := by
        rw [List.length_map, List.length_reverse]; omega
      have hz : y.str.length ≤ sizeLine := by
        rw [WM.len_tl]
        exact Nat.le_trans (cps_len hyok) (by decide)
      show tIfS _ _ _ _ [some (V.ref a), some (V.ref fl), some (V.ref nl), some (V.str y.str)] H'
      have sU : ∀ {o : HO} {b : Addr} {G : Hp}, Same H G → (b = fl ∨ b = nl) → Same H (upd G b o) := fun {o b G} sg hb => fun x o' e => by
        have n1 : x ≠ fl := ne_of_none e hfl
        have n2 : x ≠ nl := fun z => by
          have := same_new (o := .lst []) hfl _ _ e
          rw [z, hnl] at this
          cases this
        rcases hb with rfl | rfl
        · rw [upd_ne n1]; exact sg _ _ e
        · rw [upd_ne n2]; exact sg _ _ e
      cases y with
      | cl n =>
        refine ⟨_, rfl, ⟨_, rfl⟩, _, _, rfl, rfl, true, congrArg V.bl (cl_starts n), iteT ?_⟩
        refine ⟨_, rfl, .inl ⟨rfl, _, lstL en⟩, _, rfl, _, rfl, _, rfl, hz, nl, _, _, rfl, rfl, en, ln, ?_⟩
        rw [(cl_cut n).2]
        have ef2 := (upd_ne (o := .lst ((nw.reverse.map fun n => V.str (dgS n)) ++ [V.str (dgS n)])) fn).trans ef
        refine ⟨_, rfl, .inl ⟨rfl, _, lstL ef2⟩, fl, _, _, rfl, rfl, ef2, lf, ?_⟩
        refine ⟨_, rfl, sU (sU s (.inr rfl)) (.inl rfl), by omega, ?_, ?_⟩
        · rw [upd_same]
          show _ = some (HO.lst (wstrs (fw ++ [.op])))
          rw [wstrs_snoc]
          rfl
        · rw [upd_ne (Ne.symm fn), upd_same]
          show _ = some (HO.lst ((n :: nw).reverse.map fun n => V.str (dgS n)))
          rw [List.reverse_cons, List.map_append]
          rfl
      | op =>
        refine ⟨_, rfl, ⟨_, rfl⟩, _, _, rfl, rfl, false, congrArg V.bl op_starts, iteF ?_⟩
        refine ⟨_, rfl, rfl, true, rfl, iteT ?_⟩
        cases nw with
        | nil => exact absurd rfl (ready rfl)
        | cons n nw =>
          rw [List.reverse_cons, List.map_append] at en
          have en' : H' nl = some (.lst ((nw.reverse.map fun n => V.str (dgS n)) ++ [V.str (dgS n)])) := en
          have hn := dg_len (small n (List.mem_cons_self ..))
          refine ⟨_, rfl, .inl ⟨rfl, _, lstL ef⟩, _, rfl, .inl ⟨rfl, _, lstL en'⟩, nl, _, .str (dgS n), rfl, rfl, en', ?_, ?_⟩
          · rw [List.length_append, List.length_singleton, Nat.add_sub_cancel, List.getElem?_append_right (Nat.le_refl _), Nat.sub_self]
            rfl
          rw [List.dropLast_concat]
          have ef2 := (upd_ne (o := .lst (nw.reverse.map fun n => V.str (dgS n))) fn).trans ef
          refine ⟨_, _, rfl, rfl, ?_, fl, _, _, rfl, rfl, ef2, lf, ?_⟩
          · exact Nat.le_trans (Nat.add_le_add_left hn 1) (by decide)
          refine ⟨_, rfl, sU (sU s (.inr rfl)) (.inl rfl), by omega, ?_, ?_⟩
          · rw [upd_same]
            show _ = some (HO.lst (wstrs (fw ++ [.cl n])))
            rw [wstrs_snoc, show ((")" : Str) ++ dgS n) = (Wd.cl n).str from ext_tl (by rw [tl_append]; rfl)]
          · rw [upd_ne (Ne.symm fn), upd_same]
            rfl
      | lt c n =>
        have hc := h4 c n (List.mem_reverse.mp (List.mem_of_getElem? hy))
        refine ⟨_, rfl, ⟨_, rfl⟩, _, _, rfl, rfl, false, congrArg V.bl (lt_starts hyok.1), iteF ?_⟩
        refine ⟨_, rfl, rfl, false, ?_, iteF ?_⟩
        · exact congrArg V.bl (decide_eq_false fun z => by
            injection z with z
            have := (is_op (.lt c n) hyok).mp z
            cases this)
        obtain ⟨r, er, lr, es⟩ := lt_rest c n
        refine ⟨_, rfl, .inl ⟨rfl, _, lstL ef⟩, _, rfl, _, _, c, rfl, rfl, Int.le_refl _, by decide, ?_, lt_first c n, He.ga K "UNDONE", ⟨#[c]⟩, _, rfl, rfl, undo_at T B hc, _, rfl, _, rfl, _, rfl, hz, _, _, rfl, rfl, ?_, ?_⟩
        · rw [WM.len_tl, tl_str]
          show (0 : Int) < (((if n = 1 then [c] else c :: numL n).length : Nat) : Int)
          split <;> simp
        · rw [er]
          exact Nat.le_trans (Nat.add_le_add_left (Nat.le_trans lr (by rw [WM.len_tl]; exact cps_len hyok)) 1) (by decide)
        rw [er, es]
        refine ⟨fl, _, _, rfl, rfl, ef, lf, ?_⟩
        refine ⟨_, rfl, sU s (.inl rfl), by omega, ?_, ?_⟩
        · rw [upd_same]
          show _ = some (HO.lst (wstrs (fw ++ [.lt (undo c) n])))
          rw [wstrs_snoc]
        · rw [upd_ne (Ne.symm fn)]
          exact en
    · obtain ⟨z3, rfl, s, hin, ef, en⟩ := hp
      rw [al, ← List.length_reverse, List.take_length, back_fold] at ef
      exact ⟨_, rfl, q fl H' s hfl ef⟩
abbrev EHp (K : PySem.W.Frag) : Value := .ref (He.ga K "HasPen")
def spInvX (K : PySem.W.Frag) : Sp := fun vs H Q E => ∃ (a : Addr) (p : Ps), vs = [.ref a] ∧ IsP K H a p ∧
  ((0 < p.cnt 117 ∨ 0 < p.cnt 100) → ∀ H', Same H H' → E (EHp K) none H') ∧ (¬ (0 < p.cnt 117 ∨ 0 < p.cnt 100) → ∀ r H', Same H H' → IsP K H' r p.back → Q (.ref r) H')
theorem ok_invX (D : Ds K) (T : Tx K mg) (B : Tb K w) : FnOk P w K mg base (L2N.CX P w) 21 (dProgram_invert.adr K) D.fd_Program_invert ["self"] (spInvX K) := by
  have GH : FnOk P w K mg base CX0 15 _ _ _ (spHas K) := ok_has D T
  have GB : FnOk P w K mg base CX0 1 _ _ _ (spBack K) := ok_back D T B
  have GI : FnOk P w K mg base CX0 19 _ _ _ (spProg K) := ok_prog D T
  obtain ⟨x1, x2, x3, x4⟩ := T.x_HasPen
  refine D.F_Program_invert.ok scProgram_invert (fun vs H Q E h => ?_) (fun cdv A outer s H vs Q E hr h => ?_)
  · obtain ⟨a, p, rfl, _⟩ := h
    rfl
  · obtain ⟨a, p, rfl, ha, q1, q2⟩ := h
    refine ⟨_, (pss_cons (ps_if (PT.nox (PW.pt (pw_or (pt_cmpR (op_inO T.m_Program_contains GH (hr.mono (by decide)) (b_Program_contains D) pass0) pe_str (pv 0) rfl) (pw_or1 (pt_cmpR (op_inO T.m_Program_contains GH (hr.mono (by decide)) (b_Program_contains D) pass0) pe_str (pv 0) rfl)))))
        (pss_one (L2N.ps_raise rfl (L2N.takes_of rfl rfl rfl rfl) (L2N.pmk_own PySem.F.excBase_ValueError x1 T.g_HasPen x2 (raises_own x3 x4) rfl))) pss_nil)
      (PSs.nox (pss_one (ps_ret (pe_make T.k_Program GI hr (by rfl) T.g_Program (b_Program_init D) .nil pass0 (pa_cons (pe_join pe_str (pe_call GB (hr.mono (by decide)) (by rfl) T.g_backward D.F_backward.kp (b_backward D) .nil pass0 (pa_cons (pe_fld (pv 0) rfl) pa_nil))) pa_nil)))))), ?_⟩
    obtain ⟨ok, hl, hw, d, wd, t, us, ea, ew, et, pt⟩ := id ha
    refine ⟨_, rfl, a, d, _, rfl, ea, a, p, 117, rfl, ha, by decide, fun H1 s1 => ⟨_, rfl, _, rfl, ?_⟩⟩
    cases e1 : decide (0 < p.cnt 117) with
    | true => exact iteT (iteT (q1 (.inl (of_decide_eq_true e1)) H1 s1))
    | false =>
      refine iteF ⟨_, rfl, a, d, _, rfl, s1 _ _ ea, a, p, 100, rfl, ha.same s1, by decide, fun H2 s2 => ⟨_, rfl, _, rfl, ?_⟩⟩
      have s12 := s1.trans s2
      cases e2 : decide (0 < p.cnt 100) with
      | true => exact iteT (q1 (.inr (of_decide_eq_true e2)) H2 s12)
      | false =>
        have n1 := of_decide_eq_false e1
        have n2 := of_decide_eq_false e2
        have no : ¬ (0 < p.cnt 117 ∨ 0 < p.cnt 100) := fun z => z.elim n1 n2
        refine iteF ?_
        have bok := back_ok ok
        have bl : p.back.lev ≤ 12 := by rw [back_lev]; exact hl
        have bw : p.back.words.length ≤ 1000 := by rw [back_len]; exact hw
        refine ⟨⟨_, rfl⟩, _, rfl, a, _, d, _, _, rfl, s12 _ _ ea, T.c_Program, T.n_Program__words, rfl, wd, p, rfl, s12 _ _ ew, ok, hw, plain_of ok (by omega) (by omega), fun r H3 s3 n3 e3 => ?_⟩
        refine ⟨_, r, p.back.words.map Wd.str, rfl, rfl, .inl (lstL (by rw [← wstrs_map]; exact e3)), ?_, ?_⟩
        · have h1 := lens_le (words_ok _ bok)
          have h2 : (" " : Str).length = 1 := rfl
          rw [List.length_map, h2]
          omega
        · exact fun x dx nx nd _ => make_p nx nd (join_eq _ _) bok bl bw fun H4 s4 hp4 => ⟨rfl, q2 no x H4 (s12.trans (s3.trans s4)) hp4⟩
end
end K04P

set_option Elab.async false
set_option linter.all false
set_option maxRecDepth 100000
set_option maxHeartbeats 4000000
set_option exponentiation.threshold 3000
namespace K04P
open PySem PySem.Spec PyProof.Rows L2 RT WM K04 TL
theorem takesN0 {X : Cx} : L2N.Takes X (fun _ _ _ _ => False) := fun u s' x => by
  obtain ⟨_, _, _, _, _, _, _, _, _, _, _, _, _, _, _, _, w⟩ := x
  exact w.elim
theorem seq_via2 {A B C : TS} {D : Ends} {σ : L2.St} {H : Hp} (G0 Good : L2.St → Hp → Prop) (h0 : ∀ D' : Ends, (∀ σ' H', G0 σ' H' → D'.nx σ' H') → A D' σ H) (h1 : ∀ σ' H', G0 σ' H' → ∀ D' : Ends, (∀ σ'' H'', Good σ'' H'' → D'.nx σ'' H'') → B D' σ' H')
    (h2 : ∀ σ' H', Good σ' H' → C D σ' H') : tSeq A (tSeq B C) D σ H := h0 _ fun σ' H' g => h1 σ' H' g _ h2
def kinds : List String := ["NoneType", "int", "bool", "str", "list", "tuple", "dict"]
/-- a value of a built-in kind -/
def Kd (K : PySem.W.Frag) (H : Hp) (v : V) : Prop := ∃ Ty, (∀ H', Same H H' → TyY K H' v (.type Ty)) ∧ Ty ∈ kinds
def mulT (p : Ps) : Option Int → Str
  | none => "InvalidTimes"
  | some i => if inR (some i) 0 1000000000000000000000000000000 = false then "InvalidTimes" else if i ≤ 1 ∨ p.words = [] then "fine" else if 1000 < p.words.length + 2 then "TooLarge 1000" else if 12 < p.lev + 1 then "TooDeep 12" else "fine"
/-- what is asked of `_law_told`, and its answer -/
inductive Asks (K : PySem.W.Frag) (H : Hp) : Int → V → V → Str → Prop
  | add {a b : Addr} {p q : Ps} : IsP K H a p → IsP K H b q → Asks K H 0 (.ref a) (.ref b) (if p.words.length + q.words.length ≤ 1000 then "fine" else "TooLarge 1000")
  | addN {a : Addr} {v : V} {p : Ps} : IsP K H a p → Kd K H v → Asks K H 0 (.ref a) v "InvalidProgram"
  | mul {a : Addr} {v : V} {p : Ps} {o : Option Int} : IsP K H a p → (∀ H', Same H H' → Nu K H' v o) → Kd K H v → Asks K H 1 (.ref a) v (mulT p o)
  | mulP {a b : Addr} {p q : Ps} : IsP K H a p → IsP K H b q → Asks K H 1 (.ref a) (.ref b) "InvalidTimes"
  | inv {a : Addr} {v : V} {p : Ps} : IsP K H a p → Asks K H 2 (.ref a) v (if 0 < p.cnt 117 ∨ 0 < p.cnt 100 then "HasPen" else "fine")
theorem reprO_len (n : Nat) (h : n ≤ 5000) : (reprO (some n)).length ≤ 400 := by
  have h30 : n ≤ T30 := Nat.le_trans h (by decide)
  have := dg_len h30
  rw [← dgS_eq] at this
  exact Nat.le_trans this (by decide)
section
variable {P : Program} {w : World} {K : PySem.W.Frag} {mg : Str → Option Value} {base : Heap}
theorem cls_Pr (T : Tx K mg) : ClsAt K (He.ga K "InvalidProgram") 2 := ⟨by decide, T.e_InvalidProgram, T.q_InvalidProgram_InvalidText, T.q_InvalidProgram_InvalidSource, T.q_InvalidProgram_InvalidProgram, T.q_InvalidProgram_InvalidTimes, T.q_InvalidProgram_InvalidIndex, T.q_InvalidProgram_InvalidLetter, T.q_InvalidProgram_InvalidName, T.q_InvalidProgram_HasPen, T.q_InvalidProgram_TooDeep, T.q_InvalidProgram_TooLarge, T.q_InvalidProgram_VE, T.qa0_InvalidProgram, T.qa1_InvalidProgram, T.qa2_InvalidProgram⟩
theorem cls_Ti (T : Tx K mg) : ClsAt K (He.ga K "InvalidTimes") 3 := ⟨by decide, T.e_InvalidTimes, T.q_InvalidTimes_InvalidText, T.q_InvalidTimes_InvalidSource, T.q_InvalidTimes_InvalidProgram, T.q_InvalidTimes_InvalidTimes, T.q_InvalidTimes_InvalidIndex, T.q_InvalidTimes_InvalidLetter, T.q_InvalidTimes_InvalidName, T.q_InvalidTimes_HasPen, T.q_InvalidTimes_TooDeep, T.q_InvalidTimes_TooLarge, T.q_InvalidTimes_VE, T.qa0_InvalidTimes, T.qa1_InvalidTimes, T.qa2_InvalidTimes⟩
theorem cls_Hp (T : Tx K mg) : ClsAt K (He.ga K "HasPen") 7 := ⟨by decide, T.e_HasPen, T.q_HasPen_InvalidText, T.q_HasPen_InvalidSource, T.q_HasPen_InvalidProgram, T.q_HasPen_InvalidTimes, T.q_HasPen_InvalidIndex, T.q_HasPen_InvalidLetter, T.q_HasPen_InvalidName, T.q_HasPen_HasPen, T.q_HasPen_TooDeep, T.q_HasPen_TooLarge, T.q_HasPen_VE, T.qa0_HasPen, T.qa1_HasPen, T.qa2_HasPen⟩
theorem cls_Td (T : Tx K mg) : ClsAt K (He.ga K "TooDeep") 8 := ⟨by decide, T.e_TooDeep, T.q_TooDeep_InvalidText, T.q_TooDeep_InvalidSource, T.q_TooDeep_InvalidProgram, T.q_TooDeep_InvalidTimes, T.q_TooDeep_InvalidIndex, T.q_TooDeep_InvalidLetter, T.q_TooDeep_InvalidName, T.q_TooDeep_HasPen, T.q_TooDeep_TooDeep, T.q_TooDeep_TooLarge, T.q_TooDeep_VE, T.qa0_TooDeep, T.qa1_TooDeep, T.qa2_TooDeep⟩
theorem cls_Tl (T : Tx K mg) : ClsAt K (He.ga K "TooLarge") 9 := ⟨by decide, T.e_TooLarge, T.q_TooLarge_InvalidText, T.q_TooLarge_InvalidSource, T.q_TooLarge_InvalidProgram, T.q_TooLarge_InvalidTimes, T.q_TooLarge_InvalidIndex, T.q_TooLarge_InvalidLetter, T.q_TooLarge_InvalidName, T.q_TooLarge_HasPen, T.q_TooLarge_TooDeep, T.q_TooLarge_TooLarge, T.q_TooLarge_VE, T.qa0_TooLarge, T.qa1_TooLarge, T.qa2_TooLarge⟩
theorem right_Add (T : Tx K mg) {Ty : String} (h : Ty ∈ kinds) : RightT K (He.ga K "Program") .Add Ty := by
  unfold kinds at h
  simp only [List.mem_cons, List.not_mem_nil, or_false] at h
  rcases h with rfl | rfl | rfl | rfl | rfl | rfl | rfl
  · exact T.r_Add_NoneType
  · exact T.r_Add_int
  · exact T.r_Add_bool
  · exact T.r_Add_str
  · exact T.r_Add_list
  · exact T.r_Add_tuple
  · exact T.r_Add_dict
theorem right_Mult (T : Tx K mg) {Ty : String} (h : Ty ∈ kinds) : RightT K (He.ga K "Program") .Mult Ty := by
  unfold kinds at h
  simp only [List.mem_cons, List.not_mem_nil, or_false] at h
  rcases h with rfl | rfl | rfl | rfl | rfl | rfl | rfl
  · exact T.r_Mult_NoneType
  · exact T.r_Mult_int
  · exact T.r_Mult_bool
  · exact T.r_Mult_str
  · exact T.r_Mult_list
  · exact T.r_Mult_tuple
  · exact T.r_Mult_dict
theorem noP (T : Tx K mg) {H H' : Hp} {v : V} (h : Kd K H v) (s : Same H H') : NoP K H' v := by
  obtain ⟨Ty, ty, h⟩ := h
  refine ⟨_, ty H' s, ?_⟩
  unfold kinds at h
  simp only [List.mem_cons, List.not_mem_nil, or_false] at h
  rcases h with rfl | rfl | rfl | rfl | rfl | rfl | rfl
  · exact T.kp_NoneType
  · exact T.kp_int
  · exact T.kp_bool
  · exact T.kp_str
  · exact T.kp_list
  · exact T.kp_tuple
  · exact T.kp_dict
def spTold (K : PySem.W.Frag) : Sp := fun vs H Q _ => ∃ i x y out, vs = [.int i, x, y] ∧ Asks K H i x y out ∧ ∀ H', Same H H' → Q (.str out) H'
/-- what stands in caught and made behind the try -/
def Caught (K : PySem.W.Frag) (H : Hp) (c m : V) (out : Str) : Prop := (c = .non ∧ ∃ r p, m = .ref r ∧ IsP K H r p ∧ out = "fine") ∨ ∃ a C j od, c = .ref a ∧ H a = some (ExT a (.ref C) od) ∧ ClsAt K C j ∧ Says K H C j od out
theorem ok_told (D : Ds K) (T : Tx K mg) (B : Tb K w) : FnOk P w K mg base CX0 22 (d_law_told.adr K) D.fd__law_told ["way", "one", "other"] (spTold K) := by
  have GA : FnOk P w K mg base (L2N.CX P w) 21 _ _ _ (spAddX K) := ok_addX D T
  have GM : FnOk P w K mg base (L2N.CX P w) 21 _ _ _ (spMulX K) := ok_mulX D T
  have GV : FnOk P w K mg base (L2N.CX P w) 21 _ _ _ (spInvX K) := ok_invX D T B
  have GC : FnOk P w K mg base CX0 1 _ _ _ (spClass K) := ok_class D T
  refine D.F__law_told.ok sc_law_told (fun vs H Q E h => ?_) (fun cdv A outer s H vs Q E hr h => ?_)
  · obtain ⟨i, x, y, out, rfl, _⟩ := h
    rfl
  · obtain ⟨i, x, y, out, rfl, h, q⟩ := h
    have nd := sc_law_told.nd
    refine ⟨_, PSs.nox (pss_cons (ps_asg (pe_tup (pa_cons pe_non (pa_cons pe_non pa_nil))) (pg_tup (by rfl) (pgs_cons (pg_name (i := 3) nd rfl (.inl rfl)) (pgs_cons (pg_name (i := 4) nd rfl (.inl rfl)) pgs_nil))))
      (pss_cons (ps_try_asT (i := 5) rfl rfl rfl nd rfl rfl ⟨rfl, by decide, .inl T.g_PlotError⟩ takesN0
        (fun W pn xe tk _ => pss_one (ps_set (i := 4) nd rfl (.inl rfl) (pe_ifExp (pt_cmpR op_eq (pv 0) pe_int (nomark _)) (pe_invOS T.m_Program_invert GV hr (b_Program_invert D) (fun σ => L2N.passAt tk σ) (pv 1))
          (pe_ifExp (pt_cmpR op_eq (pv 0) pe_int (nomark _)) (pe_binOS (op := .Add) K T.f_Program T.m_Program_add GA hr (b_Program_add D) (fun σ => L2N.passAt tk σ) (pv 1) (pv 2)) (pe_binOS (op := .Mult) K T.f_Program T.m_Program_mul GM hr (b_Program_mul D) (fun σ => L2N.passAt tk σ) (pv 1) (pv 2))))))
        (fun a oe cls d pn hz hf => pss_one (ps_set (i := 3) nd rfl (.inl rfl) (pv 5))))
      (pss_one (ps_ret (pe_ifExp (PW.pt (pw_and (pt_cmpR op_isN (pv 3) pe_non (nomark _)) (pw_and1 (pt_val (pe_callB call_isiY (by rfl) T.z_isinstance (by decide +kernel) (pa_cons (pv 4) (pa_cons (pe_glob (v := .ref (He.ga K "Program")) rfl T.g_Program rfl) pa_nil))))))) pe_str (pe_call GC (hr.mono (by decide)) (by rfl) T.g__law_class D.F__law_class.kp (b__law_class D) .nil pass0 (pa_cons (pv 3) pa_nil))))))), ?_⟩
    refine seq_via2 (G0 := fun σ H' => σ = [some (.int i), some x, some y, some .non, some .non, none] ∧ Same H H') (Good := fun σ H' => ∃ c m, σ = [some (.int i), some x, some y, some c, some m, none] ∧ Same H H' ∧ Caught K H' c m out) (fun D' hD => ⟨by show 2 ≤ sizeLine; decide, fun t ht => ⟨t, _, rfl, tupT upd_same, rfl, _, _, rfl, _, _, rfl, rfl, hD _ _ ⟨rfl, same_new (o := .tup [.non, .non]) ht⟩⟩⟩) (fun σ H1 g0 D' hD => ?_) (fun σ H' g => ?_)
    · obtain ⟨rfl, s0⟩ := g0
      have none_ : ∀ {C : Addr} {j : Nat} {H' : Hp} {o2 : Str}, o2 = out → Same H1 H' → ClsAt K C j → 2 ≤ j → j ≤ 7 → clsNames.getD j "" = o2 → ∀ a, H' a = none → ∃ c m, [some (V.int i), some x, some y, some (V.ref a), some V.non, none] = [some (V.int i), some x, some y, some c, some m, none] ∧ Same H (upd H' a (ExT a (.ref C) none)) ∧ Caught K (upd H' a (ExT a (.ref C) none)) c m out := fun {C j H' o2} eo s' cj j2 j7 en a ha =>
        ⟨.ref a, .non, rfl, s0.trans (s'.trans (same_new ha)), .inr ⟨a, C, j, none, rfl, upd_same, cj, .inr (.inr (.inr ⟨j2, j7, rfl, by rw [← eo, en]⟩))⟩⟩
      have lim_ : ∀ {X : Str} {j n : Nat} {H' : Hp} {d : Addr} {o2 : Str}, o2 = out → Same H1 H' → H' d = some (.xd [("limit", optV (some n))]) → PySem.W.findIn K (.ref (He.ga K X)) "limit" = some none → n ≤ 5000 → ClsAt K (He.ga K X) j → (j = 8 ∨ j = 9) → clsNames.getD j "" ++ (" " ++ reprO (some n)) = o2 → ∀ a, H' a = none → ∃ c m, [some (V.int i), some x, some y, some (V.ref a), some V.non, none] = [some (V.int i), some x, some y, some c, some m, none] ∧ Same H (upd H' a (ExT a (.ref (He.ga K X)) (some d))) ∧ Caught K (upd H' a (ExT a (.ref (He.ga K X)) (some d))) c m out := fun {X j n H' d o2} eo s' ed hno hn cj hj en a ha =>
        ⟨.ref a, .non, rfl, s0.trans (s'.trans (same_new ha)), .inr ⟨a, _, j, some d, rfl, upd_same, cj, .inr (.inr (.inl ⟨hj, d, n, rfl, (same_new ha) _ _ ed, hno, Nat.lt_of_le_of_lt hn (by decide), reprO_len n hn, by rw [← eo, en]⟩))⟩⟩
      have fine_ : ∀ {H' : Hp} {r : Addr} {p : Ps} {o2 : Str}, o2 = out → o2 = "fine" → Same H1 H' → IsP K H' r p → ∃ c m, [some (V.int i), some x, some y, some V.non, some (V.ref r), none] = [some (V.int i), some x, some y, some c, some m, none] ∧ Same H H' ∧ Caught K H' c m out := fun {H' r p o2} eo ef s' hp =>
        ⟨.non, .ref r, rfl, s0.trans s', .inl ⟨rfl, r, p, rfl, hp, by rw [← eo, ef]⟩⟩
      cases h with
      | @add a b p p2 hp hq =>
        obtain ⟨_, _, _, d1, wd1, t1, us1, ea, _⟩ := id hp
        obtain ⟨_, _, _, d2, wd2, t2, us2, eb, _⟩ := id hq
        refine ⟨_, rfl, rfl, false, rfl, iteF ⟨_, rfl, rfl, true, rfl, iteT ⟨_, rfl, _, rfl, a, d1, _, rfl, s0 _ _ ea, .inl ⟨b, d2, _, rfl, s0 _ _ eb⟩, a, .ref b, p, rfl, hp.same s0, .inl ⟨b, p2, rfl, hq.same s0, fun hle r H' s' hr => ?_, fun hgt d H' s' nd ed => ⟨true, T.pe_TooLarge, fun _ a' ha => ⟨_, rfl, hD _ _ (lim_ rfl s' ed T.no_TooLarge_limit (by decide) (cls_Tl T) (.inr rfl) ?_ a' ha)⟩, fun z => nomatch z⟩⟩⟩⟩⟩
        · exact hD _ _ (fine_ rfl (if_pos hle) s' hr)
        · rw [if_neg (by omega)]
          decide +kernel
      | @addN a v p hp hk =>
        obtain ⟨_, _, _, d1, wd1, t1, us1, ea, _⟩ := id hp
        obtain ⟨Ty, ty, kTy⟩ := id hk
        exact ⟨_, rfl, rfl, false, rfl, iteF ⟨_, rfl, rfl, true, rfl, iteT ⟨_, rfl, _, rfl, a, d1, _, rfl, s0 _ _ ea, .inr ⟨Ty, ty _ s0, right_Add T kTy⟩, a, _, p, rfl, hp.same s0, .inr ⟨noP T hk s0, true, T.pe_InvalidProgram, fun _ a' ha => ⟨_, rfl, hD _ _ (none_ rfl (fun _ _ e => e) (cls_Pr T) (by decide) (by decide) rfl a' ha)⟩, fun z => nomatch z⟩⟩⟩⟩
      | @mul a v p o hp hn hk =>
        obtain ⟨ok, _, _, d1, wd1, t1, us1, ea, _⟩ := id hp
        obtain ⟨Ty, ty, kTy⟩ := id hk
        refine ⟨_, rfl, rfl, false, rfl, iteF ⟨_, rfl, rfl, false, rfl, iteF ⟨_, rfl, _, rfl, a, d1, _, rfl, s0 _ _ ea, .inr ⟨Ty, ty _ s0, right_Mult T kTy⟩, a, _, p, o, rfl, hp.same s0, hn _ s0, fun e => ⟨true, T.pe_InvalidTimes, fun _ a' ha => ⟨_, rfl, hD _ _ (none_ (o2 := "InvalidTimes") ?_ (fun _ _ e => e) (cls_Ti T) (by decide) (by decide) rfl a' ha)⟩, fun z => nomatch z⟩, fun n eo hn30 => ?_⟩⟩⟩
        · cases o with
          | none => rfl
          | some z => exact (if_pos e).symm
        have inr : inR o 0 1000000000000000000000000000000 = true := by
          rw [eo]
          show (decide ((0 : Int) ≤ (n : Int)) && decide ((n : Int) ≤ 1000000000000000000000000000000)) = true
          have : n ≤ 1000000000000000000000000000000 := hn30
          rw [decide_eq_true (by omega), decide_eq_true (by omega)]
          rfl
        have wn : p.words = [] ↔ p = .nil := by
          refine ⟨fun z => ?_, fun z => by rw [z]; rfl⟩
          cases p with
          | nil => rfl
          | lf c n r => cases z
          | rp b n r => cases z
        subst eo
        refine ⟨fun fits r H' s' hr => hD _ _ (fine_ (o2 := mulT p (some (n : Int))) rfl ?_ s' hr), fun h2 hp0 hw d H' s' nd ed => ⟨true, T.pe_TooLarge, fun _ a' ha => ⟨_, rfl, hD _ _ (lim_ (o2 := mulT p (some (n : Int))) rfl s' ed T.no_TooLarge_limit (by decide) (cls_Tl T) (.inr rfl) ?_ a' ha)⟩, fun z => nomatch z⟩,
          fun h2 hp0 hw hl d H' s' nd ed => ⟨true, T.pe_TooDeep, fun _ a' ha => ⟨_, rfl, hD _ _ (lim_ (o2 := mulT p (some (n : Int))) rfl s' ed T.no_TooDeep_limit (by decide) (cls_Td T) (.inl rfl) ?_ a' ha)⟩, fun z => nomatch z⟩⟩
        · show (if inR (some (n : Int)) 0 1000000000000000000000000000000 = false then _ else _) = _
          rw [inr, if_neg (fun z => nomatch z)]
          by_cases c : (n : Int) ≤ 1 ∨ p.words = []
          · rw [if_pos c]
          · rw [if_neg c]
            have c1 : ¬ (n : Int) ≤ 1 := fun z => c (.inl z)
            obtain ⟨f1, f2⟩ := fits (by omega) (fun z => c (.inr (wn.mpr z)))
            rw [if_neg (by omega), if_neg (by omega)]
        · show _ = (if inR (some (n : Int)) 0 1000000000000000000000000000000 = false then _ else _)
          rw [inr, if_neg (fun z => nomatch z), if_neg (fun z => z.elim (fun z => by omega) fun z => hp0 (wn.mp z)), if_pos hw]
          decide +kernel
        · show _ = (if inR (some (n : Int)) 0 1000000000000000000000000000000 = false then _ else _)
          rw [inr, if_neg (fun z => nomatch z), if_neg (fun z => z.elim (fun z => by omega) fun z => hp0 (wn.mp z)), if_neg (by omega), if_pos hl]
          decide +kernel
      | @mulP a b p p2 hp hq =>
        obtain ⟨_, _, _, d1, wd1, t1, us1, ea, _⟩ := id hp
        obtain ⟨_, _, _, d2, wd2, t2, us2, eb, _⟩ := id hq
        exact ⟨_, rfl, rfl, false, rfl, iteF ⟨_, rfl, rfl, false, rfl, iteF ⟨_, rfl, _, rfl, a, d1, _, rfl, s0 _ _ ea, .inl ⟨b, d2, _, rfl, s0 _ _ eb⟩, a, _, p, none, rfl, hp.same s0, .other _ (.base (.base (.ins (s0 _ _ eb) T.c_Program T.i_Program.ha T.i_Program.hn T.i_Program.ht T.i_Program.hm))) T.q_Program_int, fun e => ⟨true, T.pe_InvalidTimes, fun _ a' ha => ⟨_, rfl, hD _ _ (none_ rfl (fun _ _ e => e) (cls_Ti T) (by decide) (by decide) rfl a' ha)⟩, fun z => nomatch z⟩, fun n eo => nomatch eo⟩⟩⟩
      | @inv a v p hp =>
        obtain ⟨_, _, _, d1, wd1, t1, us1, ea, _⟩ := id hp
        refine ⟨_, rfl, rfl, true, rfl, iteT ⟨_, rfl, a, d1, _, rfl, s0 _ _ ea, a, p, rfl, hp.same s0, fun c H' s' => ⟨true, T.pe_HasPen, fun _ a' ha => ⟨_, rfl, hD _ _ (none_ (o2 := "HasPen") (if_pos c).symm s' (cls_Hp T) (by decide) (by decide) rfl a' ha)⟩, fun z => nomatch z⟩, fun c r H' s' hr => hD _ _ (fine_ (o2 := "fine") (if_neg c).symm rfl s' hr)⟩⟩
    · obtain ⟨c, m, rfl, s1, hc⟩ := g
      rcases hc with ⟨rfl, r, p, rfl, hp, er⟩ | ⟨a, C, j, od, rfl, ea, cj, sy⟩
      · obtain ⟨_, _, _, d, wd, t, us, ep, _⟩ := id hp
        rw [er] at q
        exact ⟨_, rfl, rfl, true, rfl, iteT ⟨_, rfl, _, .ref (He.ga K "Program"), _, _, true, rfl, .own _, .base (.base (.ins ep T.c_Program T.i_Program.ha T.i_Program.hn T.i_Program.ht T.i_Program.hm)), T.t_Program, true, rfl, iteT (q _ s1)⟩⟩
      · exact ⟨_, rfl, rfl, false, rfl, iteF (iteF ⟨_, rfl, a, C, j, od, out, rfl, ea, cj, sy, fun H2 s2 => q H2 (s1.trans s2)⟩)⟩
end
end K04P

set_option Elab.async false
set_option linter.all false
set_option maxRecDepth 100000
set_option maxHeartbeats 4000000
/-! lengths of joined texts -/
namespace TJ
open PySem PySem.Spec PyProof.Rows L2 RT WM TL
theorem tl_length (s : Str) : (tl s).length = s.length := Array.length_toList
theorem joinL_sum : ∀ (ps : List (List Nat)), ps ≠ [] → (joinL [32] ps).length + 1 = (ps.map fun p => p.length + 1).sum
  | [], h => absurd rfl h
  | [p], _ => by
    show p.length + 1 = (p.length + 1) + 0
    rfl
  | p :: q :: r, _ => by
    have ih := joinL_sum (q :: r) (by simp)
    show (p ++ ([32] ++ joinL [32] (q :: r))).length + 1 = (p.length + 1) + ((q :: r).map fun p => p.length + 1).sum
    rw [← ih, List.length_append, List.length_append, List.length_singleton]
    omega
theorem sum_each : ∀ (ps : List (List Nat)) (p : List Nat), p ∈ ps → p.length + 1 ≤ (ps.map fun p => p.length + 1).sum
  | [], _, h => nomatch h
  | q :: r, p, h => by
    show _ ≤ (q.length + 1) + (r.map fun p => p.length + 1).sum
    rcases List.mem_cons.mp h with rfl | h
    · omega
    · have := sum_each r p h
      omega
theorem sum_many : ∀ (ps : List (List Nat)), ps.length ≤ (ps.map fun p => p.length + 1).sum
  | [] => Nat.le_refl _
  | q :: r => by
    show r.length + 1 ≤ (q.length + 1) + (r.map fun p => p.length + 1).sum
    have := sum_many r
    omega
theorem sum_most (L : Nat) : ∀ (ps : List (List Nat)), (∀ p ∈ ps, p.length ≤ L) → (ps.map fun p => p.length + 1).sum ≤ ps.length * (L + 1)
  | [], _ => Nat.zero_le _
  | q :: r, h => by
    show (q.length + 1) + (r.map fun p => p.length + 1).sum ≤ (r.length + 1) * (L + 1)
    have h1 := sum_most L r fun p hp => h p (List.mem_cons_of_mem _ hp)
    have h2 := h q (List.mem_cons_self ..)
    rw [Nat.succ_mul]
    omega
theorem join_len {ws : List Str} {L : Nat} (h : ∀ x ∈ ws, x.length ≤ L) : (Txt.join " " ws).length ≤ ws.length * (L + 1) := by
  rw [← tl_length, join_eq, tl_join]
  by_cases hn : ws = []
  · subst hn; exact Nat.zero_le _
  · have h1 := joinL_sum (ws.map tl) (fun z => hn (List.map_eq_nil_iff.mp z))
    have h2 := sum_most L (ws.map tl) (fun p hp => by
      obtain ⟨x, hx, rfl⟩ := List.mem_map.mp hp
      rw [tl_length]
      exact h x hx)
    rw [List.length_map] at h2
    show (joinL [32] (ws.map tl)).length ≤ _
    omega
theorem join_fits {ws : List Str} {L : Nat} (h : ∀ x ∈ ws, x.length ≤ L) : (ws.map (·.length)).sum ≤ ws.length * L := by
  induction ws with
  | nil => exact Nat.zero_le _
  | cons x ws ih =>
    show x.length + (ws.map (·.length)).sum ≤ (ws.length + 1) * L
    have h1 := ih fun y hy => h y (List.mem_cons_of_mem _ hy)
    have h2 := h x (List.mem_cons_self ..)
    rw [Nat.succ_mul]
    omega
theorem rep1 (k : Nat) (x : Str) : (List.replicate k [V.str x]).flatten = (List.replicate k x).map V.str := by
  induction k with
  | zero => rfl
  | succ k ih => rw [List.replicate_succ, List.flatten_cons, ih]; rfl
end TJ

set_option Elab.async false
set_option linter.all false
set_option maxRecDepth 100000
set_option maxHeartbeats 8000000
set_option exponentiation.threshold 3000
namespace K04P
open PySem PySem.Spec PyProof.Rows L2 RT WM K04 TL TJ
theorem partsKeepL {C l : Addr} {H H' : Hp} {us ys : List V} {p : Ps} (h : PartsAt C H us p) (el : H l = some (.lst ys)) (k : ∀ b o, b ≠ l → H b = some o → H' b = some o) : PartsAt C H' us p := by
  induction h with
  | nil => exact .nil
  | lf h1 h2 _ ih =>
    refine .lf (k _ _ (fun z => ?_) h1) (k _ _ (fun z => ?_) h2) ih
    · rw [z, el] at h1; cases h1
    · rw [z, el] at h2; cases h2
  | rp h1 h2 _ _ ih1 ih2 =>
    refine .rp (k _ _ (fun z => ?_) h1) (k _ _ (fun z => ?_) h2) ih1 ih2
    · rw [z, el] at h1; cases h1
    · rw [z, el] at h2; cases h2
theorem IsP.keep {K : PySem.W.Frag} {H H' : Hp} {a b : Addr} {c : Nat} {p : Ps} (h : IsP K H a p) (hb : Bg H b c) (k : Keep b H H') : IsP K H' a p := by
  obtain ⟨h1, h2, h3, d, w, t, us, e1, e2, e3, e4⟩ := h
  obtain ⟨A, B, eb, _⟩ := hb
  refine ⟨h1, h2, h3, d, w, t, us, k _ _ (fun z => ?_) e1, k _ _ (fun z => ?_) e2, k _ _ (fun z => ?_) e3, partsKeepL e4 eb k⟩
  · rw [z, eb] at e1; cases e1
  · rw [z, eb] at e2; cases e2
  · rw [z, eb] at e3; cases e3
def lfs (c : Nat) : Nat → Ps → Ps
  | 0, r => r
  | n + 1, r => .lf c 1 (lfs c n r)
def nst : Nat → Ps
  | 0 => .lf 102 1 .nil
  | d + 1 => .rp (nst d) 2 .nil
theorem lfs_words (c : Nat) (r : Ps) : ∀ n, (lfs c n r).words = List.replicate n (.lt c 1) ++ r.words
  | 0 => rfl
  | n + 1 => by
    show Wd.lt c 1 :: (lfs c n r).words = _
    rw [lfs_words c r n]
    rfl
theorem lfs_len (c n : Nat) : (lfs c n .nil).words.length = n := by
  rw [lfs_words, List.length_append, List.length_replicate]
  rfl
theorem lfs_ok {c : Nat} (h : c ∈ six) : ∀ n, (lfs c n .nil).ok
  | 0 => trivial
  | n + 1 => ⟨⟨h, Nat.le_refl _, by decide⟩, lfs_ok h n⟩
theorem lfs_lev (c : Nat) : ∀ n, (lfs c n .nil).lev = 0
  | 0 => rfl
  | n + 1 => lfs_lev c n
theorem nst_words : ∀ d, (nst d).words = List.replicate d .op ++ (.lt 102 1 :: List.replicate d (.cl 2))
  | 0 => rfl
  | d + 1 => by
    show Wd.op :: ((nst d).words ++ [.cl 2]) = _
    rw [nst_words d, List.append_assoc, List.cons_append, List.replicate_succ (n := d) (a := Wd.op)]
    show _ = Wd.op :: (List.replicate d Wd.op ++ (Wd.lt 102 1 :: List.replicate (d + 1) (.cl 2)))
    rw [List.replicate_succ' (n := d) (a := Wd.cl 2)]
theorem nst_len (d : Nat) : (nst d).words.length = 2 * d + 1 := by
  rw [nst_words, List.length_append, List.length_cons, List.length_replicate, List.length_replicate]
  omega
theorem nst_ne : ∀ d, nst d ≠ .nil
  | 0 => fun z => nomatch z
  | d + 1 => fun z => nomatch z
theorem nst_ok : ∀ d, (nst d).ok
  | 0 => ⟨⟨by decide, by decide, by decide⟩, trivial⟩
  | d + 1 => ⟨nst_ne d, nst_ok d, ⟨by decide, by decide⟩, trivial⟩
theorem nst_lev : ∀ d, (nst d).lev = d
  | 0 => rfl
  | d + 1 => by
    show max (1 + (nst d).lev) 0 = d + 1
    rw [nst_lev d]
    omega
theorem wrep (x : Wd) (n : Nat) : (List.replicate n [V.str x.str]).flatten = wstrs (List.replicate n x) := by
  rw [rep1, wstrs, List.map_replicate, List.map_replicate]
theorem wapp (a b : List Wd) : wstrs (a ++ b) = wstrs a ++ wstrs b := List.map_append
theorem wlen (a : List Wd) : (wstrs a).length = a.length := List.length_map ..
theorem raw_lfs (c n : Nat) : (List.replicate n [V.str (Wd.lt c 1).str]).flatten = wstrs (lfs c n .nil).words := by
  rw [wrep, lfs_words, show Ps.words .nil = [] from rfl, List.append_nil]
theorem fin_p {K : PySem.W.Frag} {H1 : Hp} {p : Ps} (ok : p.ok) (lv : p.lev ≤ 12) (len : p.words.length ≤ 1000) {R : Addr → Hp → Prop} (hR : ∀ r H', Same H1 H' → IsP K H' r p → R r H') {t : Str} (et : t = textOf p.words) :
    ∀ x dx, H1 x = none → H1 dx = none → dx ≠ x → spProg K (.ref x :: ([.str t] ++ [])) (upd (upd H1 dx (.own x)) x (.ins (He.ga K "Program") dx [])) (fun v H2 => v = .non ∧ R x H2) E0 :=
  fun x dx nx nd _ => make_p nx nd et ok lv len fun H2 s2 hp2 => ⟨rfl, hR x H2 s2 hp2⟩
theorem fits_p {p : Ps} (ok : p.ok) (len : p.words.length ≤ 1000) : ((p.words.map Wd.str).map (·.length)).sum + (p.words.map Wd.str).length * (" " : Str).length ≤ 16777216 := by
  have h1 := lens_le (words_ok _ ok)
  have h2 : (" " : Str).length = 1 := rfl
  rw [List.length_map, h2]
  omega
theorem kdI {K : PySem.W.Frag} {H : Hp} (i : Int) : Kd K H (.int i) := ⟨"int", fun _ _ => .base (.base (.int i)), by decide⟩
theorem kdB {K : PySem.W.Frag} {H : Hp} (b : Bool) : Kd K H (.bl b) := ⟨"bool", fun _ _ => .base (.base (.bl b)), by decide⟩
section
variable {P : Program} {w : World} {K : PySem.W.Frag} {mg : Str → Option Value} {base : Heap}
def spSizesR : Sp := fun vs H Q _ => ∃ (b : Addr) (c : Nat), vs = [.ref b] ∧ Bg H b c ∧ c ≤ 800000000000000 ∧ ∀ H', Keep b H H' → Q (.bl true) H'
theorem ok_sizes (D : Ds K) (T : Tx K mg) (B : Tb K w) : FnOk P w K mg base CX0 23 (d_law_sizes_right.adr K) D.fd__law_sizes_right ["bag"] spSizesR := by
  have GP : FnOk P w K mg base CX0 1 _ _ _ spPick := ok_pick D T
  have GT : FnOk P w K mg base CX0 22 _ _ _ (spTold K) := ok_told D T B
  have GI : FnOk P w K mg base CX0 19 _ _ _ (spProg K) := ok_prog D T
  have GN : FnOk P w K mg base CX0 1 _ _ _ (spLenP K) := ok_lenP D T
  refine D.F__law_sizes_right.ok sc_law_sizes_right (fun vs H Q E h => ?_) (fun cdv A outer s H vs Q E hr h => ?_)
  · obtain ⟨b, c, rfl, _⟩ := h
    rfl
  · obtain ⟨b, c, rfl, hb, hc, q⟩ := h
    have nd := sc_law_sizes_right.nd
    refine ⟨_, PSs.nox (pss_cons (ps_set (i := 1) nd rfl (.inl rfl) (pe_op op_add pe_int (pe_call GP (hr.mono (by decide)) (by rfl) T.g__law_pick D.F__law_pick.kp (b__law_pick D) .nil pass0 (pa_cons (pv 0) (pa_cons pe_int pa_nil)))))
        (pss_cons (ps_set (i := 2) nd rfl (.inl rfl) (pe_make T.k_Program GI (hr.mono (by decide)) (by rfl) T.g_Program (b_Program_init D) .nil pass0 (pa_cons (pe_join pe_str (pe_op op_rep (pe_lst (pa_cons pe_str pa_nil)) (pv 1))) pa_nil)))
        (pss_cons (ps_set (i := 3) nd rfl (.inl rfl) (pe_make T.k_Program GI (hr.mono (by decide)) (by rfl) T.g_Program (b_Program_init D) .nil pass0 (pa_cons (pe_join pe_str (pe_op op_rep (pe_lst (pa_cons pe_str pa_nil)) (pe_op op_add (pe_op op_sub pe_int (pv 1)) (pe_call GP (hr.mono (by decide)) (by rfl) T.g__law_pick D.F__law_pick.kp (b__law_pick D) .nil pass0 (pa_cons (pv 0) (pa_cons pe_int pa_nil)))))) pa_nil)))
        (pss_cons (ps_set (i := 4) nd rfl (.inl rfl) (pe_ifExp (pt_cmpR op_lt (pe_op op_add (pe_callB (call_lenO T.m_Program_len GN (hr.mono (by decide)) (b_Program_len D) pass0) (by rfl) T.z_len PySem.boot_len (pa_cons (pv 2) pa_nil)) (pe_callB (call_lenO T.m_Program_len GN (hr.mono (by decide)) (b_Program_len D) pass0) (by rfl) T.z_len PySem.boot_len (pa_cons (pv 3) pa_nil))) pe_int (by rfl)) pe_str pe_str))
        (pss_cons (ps_if (PW.pt (pw_or (pt_cmpR op_ne (pe_call GT hr (by rfl) T.g__law_told D.F__law_told.kp (b__law_told D) .nil pass0 (pa_cons pe_int (pa_cons (pv 2) (pa_cons (pv 3) pa_nil)))) (pv 4) (by rfl)) (pw_or1 (pt_cmpR op_ne (pe_call GT hr (by rfl) T.g__law_told D.F__law_told.kp (b__law_told D) .nil pass0 (pa_cons pe_int (pa_cons (pv 3) (pa_cons (pv 2) pa_nil)))) (pv 4) (by rfl))))) (pss_one (ps_ret pe_bl)) pss_nil)
        (pss_cons (ps_set (i := 5) nd rfl (.inl rfl) (pe_op op_add pe_int (pe_call GP (hr.mono (by decide)) (by rfl) T.g__law_pick D.F__law_pick.kp (b__law_pick D) .nil pass0 (pa_cons (pv 0) (pa_cons pe_int pa_nil)))))
        (pss_cons (ps_set (i := 6) nd rfl (.inl rfl) (pe_make T.k_Program GI (hr.mono (by decide)) (by rfl) T.g_Program (b_Program_init D) .nil pass0 (pa_cons (pe_join pe_str (pe_op op_rep (pe_lst (pa_cons pe_str pa_nil)) (pv 5))) pa_nil)))
        (pss_cons (ps_if (pt_cmpR op_ne (pe_call GT hr (by rfl) T.g__law_told D.F__law_told.kp (b__law_told D) .nil pass0 (pa_cons pe_int (pa_cons (pv 6) (pa_cons pe_int pa_nil)))) (pe_ifExp (pt_cmpR op_lt (pv 5) pe_int (by rfl)) pe_str pe_str) (by rfl)) (pss_one (ps_ret pe_bl)) pss_nil)
        (pss_cons (ps_set (i := 7) nd rfl (.inl rfl) (pe_op op_add pe_int (pe_call GP (hr.mono (by decide)) (by rfl) T.g__law_pick D.F__law_pick.kp (b__law_pick D) .nil pass0 (pa_cons (pv 0) (pa_cons pe_int pa_nil)))))
        (pss_cons (ps_set (i := 8) nd rfl (.inl rfl) (pe_op op_cat (pe_op op_cat (pe_op op_rep (pe_lst (pa_cons pe_str pa_nil)) (pv 7)) (pe_lst (pa_cons pe_str pa_nil))) (pe_op op_rep (pe_lst (pa_cons pe_str pa_nil)) (pv 7))))
        (pss_cons (ps_if (pt_cmpR op_ne (pe_call GT hr (by rfl) T.g__law_told D.F__law_told.kp (b__law_told D) .nil pass0 (pa_cons pe_int (pa_cons (pe_make T.k_Program GI (hr.mono (by decide)) (by rfl) T.g_Program (b_Program_init D) .nil pass0 (pa_cons (pe_join pe_str (pv 8)) pa_nil)) (pa_cons (pe_op op_pow pe_int pe_int) pa_nil)))) (pe_ifExp (pt_cmpR op_lt (pv 7) pe_int (by rfl)) pe_str pe_str) (by rfl)) (pss_one (ps_ret pe_bl)) pss_nil)
        (pss_cons (ps_set (i := 9) nd rfl (.inl rfl) (pe_make T.k_Program GI (hr.mono (by decide)) (by rfl) T.g_Program (b_Program_init D) .nil pass0 (pa_cons (pe_join pe_str (pe_op op_cat (pv 8) (pe_op op_rep (pe_lst (pa_cons pe_str pa_nil)) (pe_op op_add (pe_op op_sub pe_int (pe_callB call_len_seq (by rfl) T.z_len PySem.boot_len (pa_cons (pv 8) pa_nil))) pe_int)))) pa_nil)))
        (pss_cons (ps_if (pt_cmpR op_ne (pe_call GT hr (by rfl) T.g__law_told D.F__law_told.kp (b__law_told D) .nil pass0 (pa_cons pe_int (pa_cons (pv 9) (pa_cons pe_int pa_nil)))) pe_str (by rfl)) (pss_one (ps_ret pe_bl)) pss_nil)
        (pss_one (ps_ret (pe_cmpR (op_eqD hr.units) (pe_lst (pa_cons (pe_call GT hr (by rfl) T.g__law_told D.F__law_told.kp (b__law_told D) .nil pass0 (pa_cons pe_int (pa_cons (pv 9) (pa_cons pe_int pa_nil)))) (pa_cons (pe_call GT hr (by rfl) T.g__law_told D.F__law_told.kp (b__law_told D) .nil pass0 (pa_cons pe_int (pa_cons (pv 9) (pa_cons pe_int pa_nil)))) (pa_cons (pe_call GT hr (by rfl) T.g__law_told D.F__law_told.kp (b__law_told D) .nil pass0 (pa_cons pe_int (pa_cons (pv 9) (pa_cons pe_bl pa_nil)))) pa_nil)))) (pe_lst (pa_cons pe_str (pa_cons pe_str (pa_cons pe_str pa_nil)))) (by rfl))))))))))))))))), ?_⟩
    have big : ∀ {n : Nat}, n ≤ 2000 → 1 * n ≤ sizeLine := fun h => by
      have : 5000 ≤ sizeLine := by decide
      omega
    have nb : ∀ {x : Addr} {o : HO} {G : Hp} {n : Nat}, Bg G b n → G x = some o → (∀ A B : Int, ∀ i : Int, o ≠ .lst [.int A, .int B, .int i]) → x ≠ b := fun hb e hn z => by
      obtain ⟨A1, B1, e1, _⟩ := hb
      rw [z, e1] at e
      exact hn _ _ _ (Option.some.inj e).symm
    refine seq_via (Good := fun σ H' => ∃ m : Nat, σ = [some (.ref b), some (.int (m : Int)), none, none, none, none, none, none, none, none] ∧ 490 ≤ m ∧ m < 510 ∧ Bg H' b (c + 1) ∧ Keep b H H') (fun D' hD => ?_) (fun σ H1 g => ?_)
    · refine ⟨_, rfl, b, 20, c, rfl, hb, by omega, by decide, by decide, fun u H1 k1 b1 u0 u1 => ⟨_, _, rfl, rfl, hD _ _ ⟨(490 + u).toNat, ?_, by omega, by omega, b1, k1⟩⟩⟩
      have e : (490 + u : Int) = (((490 + u).toNat : Nat) : Int) := by omega
      rw [← e]
      rfl
    obtain ⟨m, rfl, m0, m1, b1, k1⟩ := g
    refine seq_via (Good := fun σ H' => ∃ a1, σ = [some (.ref b), some (.int (m : Int)), some (.ref a1), none, none, none, none, none, none, none] ∧ IsP K H' a1 (lfs 102 m .nil) ∧ Bg H' b (c + 1) ∧ Keep b H H') (fun D' hD => ?_) (fun σ H2 g => ?_)
    · refine ⟨⟨_, rfl⟩, by show 1 ≤ sizeLine; decide, fun l1 hl1 => ⟨_, rfl, l1, m, _, rfl, rfl, upd_same, by omega, by omega, big (by omega), fun p1 hp1 => ?_⟩⟩
      rw [show (List.replicate ((m : Int)).toNat [V.str "f"]).flatten = wstrs (lfs 102 m .nil).words from raw_lfs 102 m]
      refine ⟨_, p1, (lfs 102 m .nil).words.map Wd.str, rfl, rfl, .inl (lstL (by rw [← wstrs_map]; exact upd_same)), fits_p (lfs_ok (by decide) m) (by rw [lfs_len]; omega), fin_p (lfs_ok (by decide) m) (by rw [lfs_lev]; decide) (by rw [lfs_len]; omega) (fun r H' s' hp => hD _ _ ?_) (join_eq _ _)⟩
      have s := (same_new hl1).trans ((same_new hp1).trans s')
      exact ⟨r, rfl, hp, b1.same s, k1.trans (Same.keep s)⟩
    obtain ⟨a1, rfl, p1, b2, k2⟩ := g
    refine seq_via (Good := fun σ H' => ∃ a2 n, σ = [some (.ref b), some (.int (m : Int)), some (.ref a1), some (.ref a2), none, none, none, none, none, none] ∧ IsP K H' a1 (lfs 102 m .nil) ∧ IsP K H' a2 (lfs 108 n .nil) ∧ n ≤ 520 ∧ Bg H' b (c + 2) ∧ Keep b H H') (fun D' hD => ?_) (fun σ H3 g => ?_)
    · refine ⟨⟨_, rfl⟩, by show 1 ≤ sizeLine; decide, fun l1 hl1 => ⟨_, rfl, _, _, rfl, rfl, _, rfl, b, 3, c + 1, rfl, b2.same (same_new hl1), by omega, by decide, by decide, fun u H3 k3 b3 u0 u1 => ?_⟩⟩
      obtain ⟨n, en⟩ : ∃ n : Nat, 1000 - (m : Int) + u = (n : Int) := ⟨(1000 - (m : Int) + u).toNat, by omega⟩
      have l1b : l1 ≠ b := nb (b2.same (same_new (o := .lst [.str "l"]) hl1)) upd_same (fun _ _ _ z => by injection z with z; injection z with z; cases z)
      have p1' := (p1.same (same_new hl1)).keep (b2.same (same_new hl1)) k3
      have k3' := k2.trans ((Same.keep (same_new hl1)).trans k3)
      have el := k3 _ _ l1b upd_same
      refine ⟨_, _, rfl, rfl, l1, 1000 - (m : Int) + u, _, rfl, rfl, el, by omega, by omega, big (by omega), fun p hp => ?_⟩
      rw [en, show (List.replicate ((n : Int)).toNat [V.str "l"]).flatten = wstrs (lfs 108 n .nil).words from raw_lfs 108 n]
      refine ⟨_, p, (lfs 108 n .nil).words.map Wd.str, rfl, rfl, .inl (lstL (by rw [← wstrs_map]; exact upd_same)), fits_p (lfs_ok (by decide) n) (by rw [lfs_len]; omega), fin_p (lfs_ok (by decide) n) (by rw [lfs_lev]; decide) (by rw [lfs_len]; omega) (fun r H' s' hp2 => hD _ _ ?_) (join_eq _ _)⟩
      have s := (same_new hp).trans s'
      exact ⟨r, n, rfl, p1'.same s, hp2, by omega, b3.same s, k3'.trans (Same.keep s)⟩
    obtain ⟨a2, n, rfl, h1, h2, hn, b3, k3⟩ := g
    clear p1 b2 k2 b1 k1
    refine seq_via2 (G0 := fun σ H' => σ = [some (.ref b), some (.int (m : Int)), some (.ref a1), some (.ref a2), some (.str (if m + n ≤ 1000 then "fine" else "TooLarge 1000")), none, none, none, none, none] ∧ H' = H3) (Good := fun σ H' => ∃ z1 z2 z3 z4, σ = [some (.ref b), z1, z2, z3, z4, none, none, none, none, none] ∧ Bg H' b (c + 2) ∧ Keep b H H') (fun D' hD => ?_) (fun σ H4 g0 D' hD => ?_) (fun σ H4 g => ?_)
    · obtain ⟨_, _, _, d1, wd1, t1, us1, ea1, _⟩ := id h1
      obtain ⟨_, _, _, d2, wd2, t2, us2, ea2, _⟩ := id h2
      refine ⟨_, rfl, a1, d1, _, rfl, ea1, a1, _, rfl, h1, _, rfl, by omega, by rw [lfs_len]; omega, _, rfl, a2, d2, _, rfl, ea2, a2, _, rfl, h2, _, rfl, by omega, by rw [lfs_len]; omega, _, _, rfl, rfl, ?_⟩
      rw [lfs_len, lfs_len]
      by_cases c1 : m + n ≤ 1000
      · rw [if_pos c1] at hD
        exact ⟨_, _, rfl, rfl, true, congrArg V.bl (decide_eq_true (by omega)), iteT (hD _ _ ⟨rfl, rfl⟩)⟩
      · rw [if_neg c1] at hD
        exact ⟨_, _, rfl, rfl, false, congrArg V.bl (decide_eq_false (by omega)), iteF (hD _ _ ⟨rfl, rfl⟩)⟩
    · obtain ⟨rfl, rfl⟩ := g0
      have k1 : Asks K H4 0 (.ref a1) (.ref a2) (if m + n ≤ 1000 then "fine" else "TooLarge 1000") := by
        have := Asks.add h1 h2
        rw [lfs_len, lfs_len] at this
        exact this
      have k2 : ∀ H', Same H4 H' → Asks K H' 0 (.ref a2) (.ref a1) (if m + n ≤ 1000 then "fine" else "TooLarge 1000") := fun H' s => by
        have := Asks.add (h2.same s) (h1.same s)
        rw [lfs_len, lfs_len, Nat.add_comm] at this
        exact this
      have ed : (if m + n ≤ 1000 then "fine" else "TooLarge 1000" : Str) = "fine" ∨ (if m + n ≤ 1000 then "fine" else "TooLarge 1000" : Str) = "TooLarge 1000" := by
        by_cases c1 : m + n ≤ 1000
        · exact .inl (if_pos c1)
        · exact .inr (if_neg c1)
      generalize (if m + n ≤ 1000 then "fine" else "TooLarge 1000" : Str) = due at k1 k2 ed ⊢
      have fin : Same H4 H4 → ∀ H', Same H4 H' → D'.nx [some (V.ref b), some (V.int (m : Int)), some (V.ref a1), some (V.ref a2), some (V.str due), none, none, none, none, none] H' := fun _ H' s => hD _ _ ⟨_, _, _, _, rfl, b3.same s, k3.trans (Same.keep s)⟩
      rcases ed with rfl | rfl
      · exact ⟨_, rfl, _, rfl, 0, _, _, _, rfl, k1, fun H5 s5 => ⟨_, rfl, rfl, false, by decide +kernel, iteF ⟨_, rfl, _, rfl, 0, _, _, _, rfl, k2 _ s5, fun H6 s6 => ⟨_, rfl, rfl, false, by decide +kernel, iteF (fin (fun _ _ e => e) _ (s5.trans s6))⟩⟩⟩⟩
      · exact ⟨_, rfl, _, rfl, 0, _, _, _, rfl, k1, fun H5 s5 => ⟨_, rfl, rfl, false, by decide +kernel, iteF ⟨_, rfl, _, rfl, 0, _, _, _, rfl, k2 _ s5, fun H6 s6 => ⟨_, rfl, rfl, false, by decide +kernel, iteF (fin (fun _ _ e => e) _ (s5.trans s6))⟩⟩⟩⟩
    obtain ⟨z1, z2, z3, z4, rfl, b4, k4⟩ := g
    clear h1 h2 b3 k3
    refine seq_via (Good := fun σ H' => ∃ sz : Nat, σ = [some (.ref b), z1, z2, z3, z4, some (.int (sz : Int)), none, none, none, none] ∧ 996 ≤ sz ∧ sz ≤ 1000 ∧ Bg H' b (c + 3) ∧ Keep b H H') (fun D' hD => ?_) (fun σ H5 g => ?_)
    · refine ⟨_, rfl, b, 5, c + 2, rfl, b4, by omega, by decide, by decide, fun u H5 k5 b5 u0 u1 => ⟨_, _, rfl, rfl, hD _ _ ⟨(996 + u).toNat, ?_, by omega, by omega, b5, k4.trans k5⟩⟩⟩
      have e : (996 + u : Int) = (((996 + u).toNat : Nat) : Int) := by omega
      rw [← e]
      rfl
    obtain ⟨sz, rfl, sz0, sz1, b5, k5⟩ := g
    clear b4 k4
    refine seq_via2 (G0 := fun σ H' => ∃ lp, σ = [some (.ref b), z1, z2, z3, z4, some (.int (sz : Int)), some (.ref lp), none, none, none] ∧ IsP K H' lp (lfs 102 sz .nil) ∧ Bg H' b (c + 3) ∧ Keep b H H') (Good := fun σ H' => ∃ z5 z6, σ = [some (.ref b), z1, z2, z3, z4, z5, z6, none, none, none] ∧ Bg H' b (c + 3) ∧ Keep b H H') (fun D' hD => ?_) (fun σ H6 g0 D' hD => ?_) (fun σ H6 g => ?_)
    · refine ⟨⟨_, rfl⟩, by show 1 ≤ sizeLine; decide, fun l1 hl1 => ⟨_, rfl, l1, sz, _, rfl, rfl, upd_same, by omega, by omega, big (by omega), fun p1 hp1 => ?_⟩⟩
      rw [show (List.replicate ((sz : Int)).toNat [V.str "f"]).flatten = wstrs (lfs 102 sz .nil).words from raw_lfs 102 sz]
      refine ⟨_, p1, (lfs 102 sz .nil).words.map Wd.str, rfl, rfl, .inl (lstL (by rw [← wstrs_map]; exact upd_same)), fits_p (lfs_ok (by decide) sz) (by rw [lfs_len]; omega), fin_p (lfs_ok (by decide) sz) (by rw [lfs_lev]; decide) (by rw [lfs_len]; omega) (fun r H' s' hp => hD _ _ ?_) (join_eq _ _)⟩
      have s := (same_new hl1).trans ((same_new hp1).trans s')
      exact ⟨r, rfl, hp, b5.same s, k5.trans (Same.keep s)⟩
    · obtain ⟨lp, rfl, h1, b6, k6⟩ := g0
      refine ⟨_, rfl, 1, _, _, _, rfl, .mul (o := some 2) h1 (fun _ _ => .int 2) (kdI 2), fun H7 s7 => ?_⟩
      have fin : D'.nx [some (V.ref b), z1, z2, z3, z4, some (V.int (sz : Int)), some (V.ref lp), none, none, none] H7 := hD _ _ ⟨_, _, rfl, b6.same s7, k6.trans (Same.keep s7)⟩
      have ne : (lfs 102 sz .nil).words ≠ [] := fun z => by
        have := lfs_len 102 sz
        rw [z] at this
        exact absurd this (by show ¬ (0 = sz); omega)
      by_cases c1 : sz < 999
      · rw [show mulT (lfs 102 sz .nil) (some 2) = "fine" by
          unfold mulT
          show (if inR (some 2) 0 1000000000000000000000000000000 = false then _ else _) = _
          rw [if_neg (by decide), if_neg (fun z => z.elim (fun z => absurd z (by decide)) ne), lfs_len, lfs_lev, if_neg (by omega), if_neg (by decide)]]
        exact ⟨_, rfl, _, _, rfl, rfl, true, congrArg V.bl (decide_eq_true (by omega)), iteT ⟨rfl, false, by decide +kernel, iteF fin⟩⟩
      · rw [show mulT (lfs 102 sz .nil) (some 2) = "TooLarge 1000" by
          unfold mulT
          show (if inR (some 2) 0 1000000000000000000000000000000 = false then _ else _) = _
          rw [if_neg (by decide), if_neg (fun z => z.elim (fun z => absurd z (by decide)) ne), lfs_len, if_pos (by omega)]]
        exact ⟨_, rfl, _, _, rfl, rfl, false, congrArg V.bl (decide_eq_false (by omega)), iteF ⟨rfl, false, by decide +kernel, iteF fin⟩⟩
    obtain ⟨z5, z6, rfl, b6, k6⟩ := g
    clear b5 k5
    refine seq_via (Good := fun σ H' => ∃ d : Nat, σ = [some (.ref b), z1, z2, z3, z4, z5, z6, some (.int (d : Int)), none, none] ∧ 10 ≤ d ∧ d ≤ 12 ∧ Bg H' b (c + 4) ∧ Keep b H H') (fun D' hD => ?_) (fun σ H7 g => ?_)
    · refine ⟨_, rfl, b, 3, c + 3, rfl, b6, by omega, by decide, by decide, fun u H5 k5 b5 u0 u1 => ⟨_, _, rfl, rfl, hD _ _ ⟨(10 + u).toNat, ?_, by omega, by omega, b5, k6.trans k5⟩⟩⟩
      have e : (10 + u : Int) = (((10 + u).toNat : Nat) : Int) := by omega
      rw [← e]
      rfl
    obtain ⟨d, rfl, d0, d1, b7, k7⟩ := g
    clear b6 k6
    have szl : 5000 ≤ sizeLine := by decide
    refine seq_via (Good := fun σ H' => ∃ wl, σ = [some (.ref b), z1, z2, z3, z4, z5, z6, some (.int (d : Int)), some (.ref wl), none] ∧ H' wl = some (.lst (wstrs (nst d).words)) ∧ Keep b H H') (fun D' hD => ?_) (fun σ H8 g => ?_)
    · refine ⟨by show 1 ≤ sizeLine; decide, fun l1 hl1 => ⟨_, rfl, l1, d, _, rfl, rfl, upd_same, by omega, by omega, big (by omega), fun p1 hp1 => ?_⟩⟩
      rw [show (List.replicate ((d : Int)).toNat [V.str "("]).flatten = wstrs (List.replicate d Wd.op) from wrep .op d]
      refine ⟨by show 1 ≤ sizeLine; decide, fun l2 hl2 => ⟨p1, l2, _, _, rfl, rfl, same_new hl2 _ _ upd_same, upd_same, ?_, fun p3 hp3 => ?_⟩⟩
      · rw [wlen, List.length_replicate]
        show d + 1 ≤ sizeLine
        omega
      refine ⟨by show 1 ≤ sizeLine; decide, fun l3 hl3 => ⟨_, rfl, l3, d, _, rfl, rfl, upd_same, by omega, by omega, big (by omega), fun p4 hp4 => ?_⟩⟩
      rw [show (List.replicate ((d : Int)).toNat [V.str ")2"]).flatten = wstrs (List.replicate d (Wd.cl 2)) from wrep (.cl 2) d]
      refine ⟨p3, p4, _, _, rfl, rfl, same_new hp4 _ _ (same_new hl3 _ _ upd_same), upd_same, ?_, fun p5 hp5 => hD _ _ ?_⟩
      · rw [List.length_append, wlen, wlen, List.length_replicate, List.length_replicate]
        show d + 1 + d ≤ sizeLine
        omega
      refine ⟨p5, rfl, ?_, k7.trans (Same.keep ((same_new hl1).trans ((same_new hp1).trans ((same_new hl2).trans ((same_new hp3).trans ((same_new hl3).trans ((same_new hp4).trans (same_new hp5))))))))⟩
      rw [upd_same, nst_words, wapp, List.append_assoc]
      rfl
    obtain ⟨wl, rfl, ew, k8⟩ := g
    clear b7 k7
    refine seq_via (Good := fun σ H' => σ = [some (.ref b), z1, z2, z3, z4, z5, z6, some (.int (d : Int)), some (.ref wl), none] ∧ Same H8 H') (fun D' hD => ?_) (fun σ H9 g => ?_)
    · refine ⟨⟨_, rfl⟩, _, rfl, _, wl, (nst d).words.map Wd.str, rfl, rfl, .inl (lstL (by rw [← wstrs_map]; exact ew)), fits_p (nst_ok d) (by rw [nst_len]; omega), fin_p (nst_ok d) (by rw [nst_lev]; exact d1) (by rw [nst_len]; omega) (fun r H' s' hp => ?_) (join_eq _ _)⟩
      refine ⟨_, _, rfl, rfl, pw_ok (by decide) (by decide), 1, _, _, _, rfl, .mul (o := some (10 ^ (30 : Int).toNat)) hp (fun _ _ => .int _) (kdI _), fun H9 s9 => ?_⟩
      have fin : D'.nx [some (.ref b), z1, z2, z3, z4, z5, z6, some (.int (d : Int)), some (.ref wl), none] H9 := hD _ _ ⟨rfl, s'.trans s9⟩
      have ne : (nst d).words ≠ [] := fun z => by
        have := nst_len d
        rw [z] at this
        exact absurd this (by show ¬ (0 = 2 * d + 1); omega)
      by_cases c1 : d < 12
      · rw [show mulT (nst d) (some (10 ^ (30 : Int).toNat)) = "fine" by
          unfold mulT
          show (if inR (some ((10 : Int) ^ (30 : Int).toNat)) 0 1000000000000000000000000000000 = false then _ else _) = _
          rw [p30, if_neg (by decide), if_neg (fun z => z.elim (fun z => absurd z (by decide)) ne), nst_len, nst_lev, if_neg (by omega), if_neg (by omega)]]
        exact ⟨_, rfl, _, _, rfl, rfl, true, congrArg V.bl (decide_eq_true (by omega)), iteT ⟨rfl, false, by decide +kernel, iteF fin⟩⟩
      · rw [show mulT (nst d) (some (10 ^ (30 : Int).toNat)) = "TooDeep 12" by
          unfold mulT
          show (if inR (some ((10 : Int) ^ (30 : Int).toNat)) 0 1000000000000000000000000000000 = false then _ else _) = _
          rw [p30, if_neg (by decide), if_neg (fun z => z.elim (fun z => absurd z (by decide)) ne), nst_len, nst_lev, if_neg (by omega), if_pos (by omega)]]
        exact ⟨_, rfl, _, _, rfl, rfl, false, congrArg V.bl (decide_eq_false (by omega)), iteF ⟨rfl, false, by decide +kernel, iteF fin⟩⟩
    obtain ⟨rfl, s9⟩ := g
    have ew9 := s9 _ _ ew
    have k9 := k8.trans (Same.keep s9)
    clear ew k8
    refine seq_via (Good := fun σ H' => ∃ pb, σ = [some (.ref b), z1, z2, z3, z4, z5, z6, some (.int (d : Int)), some (.ref wl), some (.ref pb)] ∧ IsP K H' pb ((nst d).app (lfs 102 (998 - (2 * d + 1) + 1) .nil)) ∧ Keep b H H') (fun D' hD => ?_) (fun σ H10 g => ?_)
    · obtain ⟨pB, epB⟩ : ∃ pB, pB = (nst d).app (lfs 102 (998 - (2 * d + 1) + 1) .nil) := ⟨_, rfl⟩
      have wB : pB.words = (nst d).words ++ (lfs 102 (998 - (2 * d + 1) + 1) .nil).words := by rw [epB, app_words]
      have lB : pB.words.length = 999 := by
        rw [wB, List.length_append, nst_len, lfs_len]
        omega
      have oB : pB.ok := by
        rw [epB]
        exact app_ok (nst_ok d) (lfs_ok (by decide) _)
      have vB : pB.lev ≤ 12 := by
        rw [epB, app_lev, nst_lev, lfs_lev]
        omega
      rw [← epB] at hD
      refine ⟨⟨_, rfl⟩, _, rfl, by show 1 ≤ sizeLine; decide, fun l1 hl1 => ⟨_, rfl, wl, _, rfl, .inl (lstL (same_new hl1 _ _ ew9)), _, _, rfl, rfl, _, _, rfl, rfl, ?_⟩⟩
      rw [wlen, nst_len]
      obtain ⟨n, en⟩ : ∃ n : Nat, 998 - ((2 * d + 1 : Nat) : Int) + 1 = (n : Int) := ⟨(998 - ((2 * d + 1 : Nat) : Int) + 1).toNat, by omega⟩
      have nn : n = 998 - (2 * d + 1) + 1 := by omega
      refine ⟨l1, 998 - ((2 * d + 1 : Nat) : Int) + 1, _, rfl, rfl, upd_same, by omega, by omega, big (by omega), fun p hp => ?_⟩
      rw [en, show (List.replicate ((n : Int)).toNat [V.str "f"]).flatten = wstrs (lfs 102 n .nil).words from raw_lfs 102 n]
      refine ⟨wl, p, _, _, rfl, rfl, same_new hp _ _ (same_new hl1 _ _ ew9), upd_same, ?_, fun p3 hp3 => ?_⟩
      · rw [wlen, wlen, nst_len, lfs_len]
        omega
      have es : wstrs (nst d).words ++ wstrs (lfs 102 n .nil).words = (pB.words.map Wd.str).map V.str := by rw [← wapp, nn, ← wB, wstrs_map]
      refine ⟨_, p3, pB.words.map Wd.str, rfl, rfl, .inl (lstL (by rw [← es]; exact upd_same)), fits_p oB (by rw [lB]; decide), fin_p oB vB (by rw [lB]; decide) (fun r H' s' hp2 => hD _ _ ?_) (join_eq _ _)⟩
      exact ⟨r, rfl, hp2, k9.trans (Same.keep ((same_new hl1).trans ((same_new hp).trans ((same_new hp3).trans s'))))⟩
    obtain ⟨pb, rfl, hp, k10⟩ := g
    clear k9 ew9 s9
    have wB : ((nst d).app (lfs 102 (998 - (2 * d + 1) + 1) .nil)).words.length = 999 := by
      rw [app_words, List.length_append, nst_len, lfs_len]
      omega
    generalize (nst d).app (lfs 102 (998 - (2 * d + 1) + 1) .nil) = pB at hp wB
    have ne : pB.words ≠ [] := fun z => by
      rw [z] at wB
      exact absurd wB (by decide)
    have m5 : mulT pB (some 5) = "TooLarge 1000" := by
      unfold mulT
      show (if inR (some 5) 0 1000000000000000000000000000000 = false then _ else _) = _
      rw [if_neg (by decide), if_neg (fun z => z.elim (fun z => absurd z (by decide)) ne), wB, if_pos (by decide)]
    have m1 : mulT pB (some 1) = "fine" := by
      unfold mulT
      show (if inR (some 1) 0 1000000000000000000000000000000 = false then _ else _) = _
      rw [if_neg (by decide), if_pos (.inl (by decide))]
    have m0 : mulT pB (some 0) = "fine" := by
      unfold mulT
      show (if inR (some 0) 0 1000000000000000000000000000000 = false then _ else _) = _
      rw [if_neg (by decide), if_pos (.inl (by decide))]
    refine ⟨_, rfl, 1, _, _, _, rfl, .mul (o := some 5) hp (fun _ _ => .int 5) (kdI 5), fun H11 s11 => ?_⟩
    rw [m5]
    refine ⟨rfl, false, by decide +kernel, iteF ?_⟩
    refine ⟨_, rfl, 1, _, _, _, rfl, .mul (o := some 1) (hp.same s11) (fun _ _ => .int 1) (kdI 1), fun H12 s12 => ?_⟩
    refine ⟨_, rfl, 1, _, _, _, rfl, .mul (o := some 0) ((hp.same s11).same s12) (fun _ _ => .int 0) (kdI 0), fun H13 s13 => ?_⟩
    refine ⟨_, rfl, 1, _, _, _, rfl, .mul (o := none) (((hp.same s11).same s12).same s13) (fun _ _ => .bl true) (kdB true), fun H14 s14 => ?_⟩
    rw [m1, m0, show mulT pB none = "InvalidTimes" from rfl]
    refine ⟨by show 3 ≤ sizeLine; decide, fun l hl => ⟨by show 3 ≤ sizeLine; decide, fun l2 hl2 => ⟨_, _, .lst (lstL (same_new hl2 _ _ upd_same)) (.cons (.str _) (.cons (.str _) (.cons (.str _) .nil))), .lst (lstL upd_same) (.cons (.str _) (.cons (.str _) (.cons (.str _) .nil))), by decide +kernel, by decide +kernel, ?_⟩⟩⟩
    rw [show (PyData.list [PyData.str "fine", PyData.str "fine", PyData.str "InvalidTimes"]).eqv (PyData.list [PyData.str "fine", PyData.str "fine", PyData.str "InvalidTimes"]) = true by decide +kernel]
    exact q _ (k10.trans (Same.keep (s11.trans (s12.trans (s13.trans (s14.trans ((same_new hl).trans (same_new hl2))))))))

end
end K04P

set_option Elab.async false
set_option linter.all false
set_option maxRecDepth 100000
set_option maxHeartbeats 8000000
set_option exponentiation.threshold 3000
namespace K04P
open PySem PySem.Spec PyProof.Rows L2 RT WM K04 TL
/-- an exception of the program's, made as a value -/
def Mad (K : PySem.W.Frag) (H : Hp) (v : V) : Prop := ∃ (a C : Addr) (od : Option Addr), v = .ref a ∧ H a = some (ExT a (.ref C) od) ∧ (∀ d, od = some d → ∃ fs, H d = some (.xd fs)) ∧ ExcC K C ∧ PySem.W.kitOne K (.ref C) (.ref (He.ga K "PlotError")) = some true ∧ PySem.W.kitOne K (.ref C) (.type "ValueError") = some true
theorem Mad.same {K : PySem.W.Frag} {H H' : Hp} {v : V} (h : Mad K H v) (s : Same H H') : Mad K H' v := by
  obtain ⟨a, C, od, e, ea, ed, r⟩ := h
  exact ⟨a, C, od, e, s _ _ ea, fun d hd => (ed d hd).imp fun fs h => s _ _ h, r⟩
theorem Mad.upd {K : PySem.W.Frag} {H : Hp} {v : V} {l : Addr} {xs : List V} {o : HO} (h : Mad K H v) (el : H l = some (.lst xs)) : Mad K (upd H l o) v := by
  obtain ⟨a, C, od, e, ea, ed, r⟩ := h
  have na : a ≠ l := fun z => by
    rw [z, el] at ea
    have z2 : HO.lst xs = HO.ext _ := Option.some.inj ea
    cases z2
  refine ⟨a, C, od, e, (upd_ne na).trans ea, fun d hd => (ed d hd).imp fun fs h => ?_, r⟩
  have nd : d ≠ l := fun z => by
    rw [z, el] at h
    cases h
  exact (upd_ne nd).trans h
theorem Mad.ty {K : PySem.W.Frag} {H : Hp} {v : V} (h : Mad K H v) : ∃ C, TyY K H v (.ref C) ∧ PySem.W.kitOne K (.ref C) (.ref (He.ga K "PlotError")) = some true ∧ PySem.W.kitOne K (.ref C) (.type "ValueError") = some true := by
  obtain ⟨a, C, od, rfl, ea, ed, ec, k1, k2⟩ := h
  refine ⟨C, ?_, k1, k2⟩
  cases od with
  | none => exact .exc0 ea ec
  | some d =>
    obtain ⟨fs, e⟩ := ed d rfl
    exact .exc1 ea e ec
theorem mad_new {K : PySem.W.Frag} {H H' : Hp} {a C : Addr} (e : ExcC K C) (k1 : PySem.W.kitOne K (.ref C) (.ref (He.ga K "PlotError")) = some true) (k2 : PySem.W.kitOne K (.ref C) (.type "ValueError") = some true) (s : Same (upd H a (ExT a (.ref C) none)) H') : Mad K H' (.ref a) :=
  ⟨a, C, none, rfl, s _ _ upd_same, (fun _ z => nomatch z), e, k1, k2⟩
theorem mad_newD {K : PySem.W.Frag} {H H' : Hp} {a d C : Addr} {fs : List (Str × V)} (e : ExcC K C) (k1 : PySem.W.kitOne K (.ref C) (.ref (He.ga K "PlotError")) = some true) (k2 : PySem.W.kitOne K (.ref C) (.type "ValueError") = some true) (ed : H d = some (.xd fs)) (na : H a = none) (s : Same (upd H a (ExT a (.ref C) (some d))) H') : Mad K H' (.ref a) :=
  ⟨a, C, some d, rfl, s _ _ upd_same, fun d' z => by
    cases z
    exact ⟨fs, s _ _ ((upd_ne (fun z => by rw [z, na] at ed; cases ed)).trans ed)⟩, e, k1, k2⟩
theorem boomS {K : PySem.W.Frag} {l n : Nat} {H H1 : Hp} {R : XK} (s1 : Same H H1) (hl : l ≤ 5000) (hn : n ≤ 5000) (told : ∀ d H', Same H H' → H d = none → H' d = some (.xd [("index", optV (some n)), ("line", optV (some l))]) → R (.ref (He.ga K "InvalidSource")) (some d) H') : ∀ a, H1 a = none → spSrcInit K (.ref a :: ([optV (some l), optV (some n)] ++ [])) (upd H1 a (exo a (He.ga K "InvalidSource") none))
    (fun v H2 => v = .non ∧ ∃ (d : Addr) (fs : List (Str × V)), H2 a = some (exo a (He.ga K "InvalidSource") (some d)) ∧ H2 d = some (exd d fs) ∧ H1 d = none ∧ R (.ref (He.ga K "InvalidSource")) (some d) (upd (del H2 a) d (.xd fs))) (fun _ _ _ => False) := by
  intro a na
  refine ⟨a, l, n, rfl, hl, hn, upd_same, fun d nd hne => ⟨rfl, d, [("index", optV (some n)), ("line", optV (some l))], (upd_ne (Ne.symm hne)).trans upd_same, upd_same, ?_, ?_⟩⟩
  · rw [upd_ne hne] at nd
    exact nd
  · rw [upd_ne hne] at nd
    refine told d _ (fun b o e => ?_) ?_ upd_same
    · have e1 := s1 b o e
      have ba : b ≠ a := ne_of_none e1 na
      have bd : b ≠ d := ne_of_none e1 nd
      rw [upd_ne bd, del_ne ba, upd_ne bd, upd_ne ba, upd_ne bd, upd_ne ba]
      exact e1
    · cases e : H d with
      | none => rfl
      | some o =>
        rw [s1 d o e] at nd
        cases nd
theorem same_none {H H' : Hp} {p : Addr} (s : Same H H') (h : H' p = none) : H p = none := by
  cases e : H p with
  | none => rfl
  | some o =>
    rw [s p o e] at h
    cases h
theorem dne {G : Hp} {a d : Addr} {o : HO} (e : G d = some o) (h : G a = none) : d ≠ a := fun z => by rw [z, h] at e; cases e
theorem mkO1 {K : PySem.W.Frag} {C f : Str} (n : Nat) {σ : L2.St} {H : Hp} {Q : XK} (hn : n ≤ 5000) (h : ∀ d H', Same H H' → H d = none → H' d = some (.xd [(f, optV (some n))]) → Q (.ref (He.ga K C)) (some d) H') : tMkO (He.ga K C) (spOneInit K C f) [] (tCons (tC (.int (n : Int))) tNil) σ H Q :=
  ⟨by show 1 ≤ 1000; decide, boom1 (fun _ _ e => e) hn h⟩
theorem mkOS {K : PySem.W.Frag} (l n : Nat) {σ : L2.St} {H : Hp} {Q : XK} (hl : l ≤ 5000) (hn : n ≤ 5000) (h : ∀ d H', Same H H' → H d = none → H' d = some (.xd [("index", optV (some n)), ("line", optV (some l))]) → Q (.ref (He.ga K "InvalidSource")) (some d) H') : tMkO (He.ga K "InvalidSource") (spSrcInit K) [] (tCons (tC (.int (l : Int))) (tCons (tC (.int (n : Int))) tNil)) σ H Q :=
  ⟨by show 2 ≤ 1000; decide, boomS (fun _ _ e => e) hl hn h⟩
section
variable {P : Program} {w : World} {K : PySem.W.Frag} {mg : Str → Option Value} {base : Heap}
def spMadeR : Sp := fun vs H Q _ => vs = [] ∧ ∀ H', Same H H' → Q (.bl true) H'
theorem ok_madeR (D : Ds K) (T : Tx K mg) : FnOk P w K mg base CX0 3 (d_law_made_right.adr K) D.fd__law_made_right [] spMadeR := by
  have GL : FnOk P w K mg base CX0 1 _ _ _ (spOneInit K "TooLarge" "limit") := ok_largeI D T
  have GD : FnOk P w K mg base CX0 1 _ _ _ (spOneInit K "TooDeep" "limit") := ok_deepI D T
  have GT : FnOk P w K mg base CX0 1 _ _ _ (spOneInit K "InvalidText" "index") := ok_textI D T
  have GS : FnOk P w K mg base CX0 1 _ _ _ (spSrcInit K) := ok_srcI D T
  refine D.F__law_made_right.ok sc_law_made_right (fun vs H Q E h => ?_) (fun cdv A outer s H vs Q E hr h => ?_)
  · obtain ⟨rfl, _⟩ := h
    rfl
  · obtain ⟨rfl, q⟩ := h
    have nd := sc_law_made_right.nd
    refine ⟨_, PSs.nox (pss_cons (ps_set (i := 0) nd rfl (.inl rfl) (pe_lst (pa_cons (pe_ofMk (L2N.pmk_own PySem.F.excBase_ValueError T.x_InvalidProgram.1 T.g_InvalidProgram T.x_InvalidProgram.2.1 (raises_own T.x_InvalidProgram.2.2.1 T.x_InvalidProgram.2.2.2) rfl)) (pa_cons (pe_ofMk (L2N.pmk_own PySem.F.excBase_ValueError T.x_InvalidTimes.1 T.g_InvalidTimes T.x_InvalidTimes.2.1 (raises_own T.x_InvalidTimes.2.2.1 T.x_InvalidTimes.2.2.2) rfl)) (pa_cons (pe_ofMk (L2N.pmk_own PySem.F.excBase_ValueError T.x_InvalidIndex.1 T.g_InvalidIndex T.x_InvalidIndex.2.1 (raises_own T.x_InvalidIndex.2.2.1 T.x_InvalidIndex.2.2.2) rfl)) (pa_cons (pe_ofMk (L2N.pmk_own PySem.F.excBase_ValueError T.x_InvalidLetter.1 T.g_InvalidLetter T.x_InvalidLetter.2.1 (raises_own T.x_InvalidLetter.2.2.1 T.x_InvalidLetter.2.2.2) rfl)) (pa_cons (pe_ofMk (L2N.pmk_own PySem.F.excBase_ValueError T.x_InvalidName.1 T.g_InvalidName T.x_InvalidName.2.1 (raises_own T.x_InvalidName.2.2.1 T.x_InvalidName.2.2.2) rfl)) pa_nil)))))))
        (pss_cons (ps_set (i := 0) nd rfl (.inl rfl) (pe_op op_cat (pv 0) (pe_lst (pa_cons (pe_ofMk (L2N.pmk_own PySem.F.excBase_ValueError T.x_HasPen.1 T.g_HasPen T.x_HasPen.2.1 (raises_own T.x_HasPen.2.2.1 T.x_HasPen.2.2.2) rfl)) (pa_cons (pe_ofMk (L2N.pmk_own PySem.F.excBase_ValueError T.x_InvalidMotion.1 T.g_InvalidMotion T.x_InvalidMotion.2.1 (raises_own T.x_InvalidMotion.2.2.1 T.x_InvalidMotion.2.2.2) rfl)) (pa_cons (pe_ofMk (L2N.pmk_own PySem.F.excBase_ValueError T.x_InvalidPose.1 T.g_InvalidPose T.x_InvalidPose.2.1 (raises_own T.x_InvalidPose.2.2.1 T.x_InvalidPose.2.2.2) rfl)) (pa_cons (pe_ofMk (L2N.pmk_own PySem.F.excBase_ValueError T.x_InvalidPoint.1 T.g_InvalidPoint T.x_InvalidPoint.2.1 (raises_own T.x_InvalidPoint.2.2.1 T.x_InvalidPoint.2.2.2) rfl)) (pa_cons (pe_ofMk (L2N.pmk_own PySem.F.excBase_ValueError T.x_InvalidEdge.1 T.g_InvalidEdge T.x_InvalidEdge.2.1 (raises_own T.x_InvalidEdge.2.2.1 T.x_InvalidEdge.2.2.2) rfl)) pa_nil))))))))
        (pss_cons (ps_expr (pe_bm PySem.F.plainAttrs_list PySem.F.slot_list_append PySem.F.type_list_append mt_append (pv 0) (pa_cons (pe_ofMk (L2N.pmk_own PySem.F.excBase_ValueError T.x_InvalidPicture.1 T.g_InvalidPicture T.x_InvalidPicture.2.1 (raises_own T.x_InvalidPicture.2.2.1 T.x_InvalidPicture.2.2.2) rfl)) pa_nil)))
        (pss_cons (ps_set (i := 0) nd rfl (.inl rfl) (pe_op op_cat (pv 0) (pe_lst (pa_cons (pe_ofMk (L2N.pmk_own PySem.F.excBase_ValueError T.x_InvalidTurn.1 T.g_InvalidTurn T.x_InvalidTurn.2.1 (raises_own T.x_InvalidTurn.2.2.1 T.x_InvalidTurn.2.2.2) rfl)) (pa_cons (pe_ofMk (L2N.pmk_own PySem.F.excBase_ValueError T.x_InvalidFace.1 T.g_InvalidFace T.x_InvalidFace.2.1 (raises_own T.x_InvalidFace.2.2.1 T.x_InvalidFace.2.2.2) rfl)) (pa_cons (pe_ofMk (L2N.pmk_own PySem.F.excBase_ValueError T.x_InvalidFaces.1 T.g_InvalidFaces T.x_InvalidFaces.2.1 (raises_own T.x_InvalidFaces.2.2.1 T.x_InvalidFaces.2.2.2) rfl)) (pa_cons (pe_ofMk (L2N.pmk_own PySem.F.excBase_ValueError T.x_NotEven.1 T.g_NotEven T.x_NotEven.2.1 (raises_own T.x_NotEven.2.2.1 T.x_NotEven.2.2.2) rfl)) (pa_cons (pe_ofMk (L2N.pmk_own PySem.F.excBase_ValueError T.x_NotClosed.1 T.g_NotClosed T.x_NotClosed.2.1 (raises_own T.x_NotClosed.2.2.1 T.x_NotClosed.2.2.2) rfl)) (pa_cons (pe_ofMk (L2N.pmk_own PySem.F.excBase_ValueError T.x_Nothing.1 T.g_Nothing T.x_Nothing.2.1 (raises_own T.x_Nothing.2.2.1 T.x_Nothing.2.2.2) rfl)) pa_nil)))))))))
        (pss_cons (ps_set (i := 0) nd rfl (.inl rfl) (pe_op op_cat (pv 0) (pe_lst (pa_cons (pe_ofMk (L2N.pmk_own PySem.F.excBase_ValueError T.x_InvalidIntervals.1 T.g_InvalidIntervals T.x_InvalidIntervals.2.1 (raises_own T.x_InvalidIntervals.2.2.1 T.x_InvalidIntervals.2.2.2) rfl)) (pa_cons (pe_ofMk (L2N.pmk_own PySem.F.excBase_ValueError T.x_InvalidPlace.1 T.g_InvalidPlace T.x_InvalidPlace.2.1 (raises_own T.x_InvalidPlace.2.2.1 T.x_InvalidPlace.2.2.2) rfl)) (pa_cons (pe_ofMk (L2N.pmk_own PySem.F.excBase_ValueError T.x_NotDrifting.1 T.g_NotDrifting T.x_NotDrifting.2.1 (raises_own T.x_NotDrifting.2.2.1 T.x_NotDrifting.2.2.2) rfl)) (pa_cons (pe_ofMk (L2N.pmk_own PySem.F.excBase_ValueError T.x_InvalidCount.1 T.g_InvalidCount T.x_InvalidCount.2.1 (raises_own T.x_InvalidCount.2.2.1 T.x_InvalidCount.2.2.2) rfl)) (pa_cons (pe_ofMk (L2N.pmk_own PySem.F.excBase_ValueError T.x_NoSteps.1 T.g_NoSteps T.x_NoSteps.2.1 (raises_own T.x_NoSteps.2.2.1 T.x_NoSteps.2.2.2) rfl)) pa_nil))))))))
        (pss_cons (ps_set (i := 0) nd rfl (.inl rfl) (pe_op op_cat (pv 0) (pe_lst (pa_cons (pe_ofMk (L2N.pmk_own PySem.F.excBase_ValueError T.x_InvalidOperation.1 T.g_InvalidOperation T.x_InvalidOperation.2.1 (raises_own T.x_InvalidOperation.2.2.1 T.x_InvalidOperation.2.2.2) rfl)) (pa_cons (pe_ofMk (L2N.pmk_own PySem.F.excBase_ValueError T.x_InvalidArt.1 T.g_InvalidArt T.x_InvalidArt.2.1 (raises_own T.x_InvalidArt.2.2.1 T.x_InvalidArt.2.2.2) rfl)) (pa_cons (pe_ofMk (L2N.pmk_own PySem.F.excBase_ValueError T.x_InvalidCommand.1 T.g_InvalidCommand T.x_InvalidCommand.2.1 (raises_own T.x_InvalidCommand.2.2.1 T.x_InvalidCommand.2.2.2) rfl)) (pa_cons (pe_ofMk (pmkN_oex T.ox_InvalidText T.oi_InvalidText.1 T.oi_InvalidText.2 GT (hr.mono (by decide)) (b_InvalidText_init D) .nil pass0 (by rfl) T.g_InvalidText (pa_cons pe_int pa_nil))) (pa_cons (pe_ofMk (pmkN_oex T.ox_InvalidSource T.oi_InvalidSource.1 T.oi_InvalidSource.2 GS (hr.mono (by decide)) (b_InvalidSource_init D) .nil pass0 (by rfl) T.g_InvalidSource (pa_cons pe_int (pa_cons pe_int pa_nil)))) pa_nil))))))))
        (pss_cons (ps_for PassesOwn.never rfl (pi_list (pe_op op_cat (pv 0) (pe_lst (pa_cons (pe_ofMk (pmkN_oex T.ox_TooDeep T.oi_TooDeep.1 T.oi_TooDeep.2 GD (hr.mono (by decide)) (b_TooDeep_init D) .nil pass0 (by rfl) T.g_TooDeep (pa_cons pe_int pa_nil))) (pa_cons (pe_ofMk (pmkN_oex T.ox_TooLarge T.oi_TooLarge.1 T.oi_TooLarge.2 GL (hr.mono (by decide)) (b_TooLarge_init D) .nil pass0 (by rfl) T.g_TooLarge (pa_cons pe_int pa_nil))) pa_nil))))) (pg_name (i := 1) nd rfl (.inl rfl))
      (pss_one (ps_if (PW.pt (pw_or (pt_not (pt_val (pe_callB call_isiY (by rfl) T.z_isinstance (by decide +kernel) (pa_cons (pv 1) (pa_cons (pe_glob (v := .ref (He.ga K "PlotError")) rfl T.g_PlotError rfl) pa_nil))))) (pw_or1 (pt_not (pt_val (pe_callB call_isiY (by rfl) T.z_isinstance (by decide +kernel) (pa_cons (pv 1) (pa_cons (pe_bltn (v := .ty "ValueError") (by rfl) T.z_ValueError (by decide +kernel) rfl) pa_nil)))))))) (pss_one (ps_ret pe_bl)) pss_nil)))
        (pss_cons (ps_set (i := 2) nd rfl (.inl rfl) (pe_lst (pa_cons (pe_xfT (pe_ofMk (pmkN_oex T.ox_InvalidText T.oi_InvalidText.1 T.oi_InvalidText.2 GT (hr.mono (by decide)) (b_InvalidText_init D) .nil pass0 (by rfl) T.g_InvalidText (pa_cons pe_int pa_nil)))) (pa_cons (pe_xfT (pe_ofMk (pmkN_oex T.ox_InvalidSource T.oi_InvalidSource.1 T.oi_InvalidSource.2 GS (hr.mono (by decide)) (b_InvalidSource_init D) .nil pass0 (by rfl) T.g_InvalidSource (pa_cons pe_int (pa_cons pe_int pa_nil))))) (pa_cons (pe_xfT (pe_ofMk (pmkN_oex T.ox_InvalidSource T.oi_InvalidSource.1 T.oi_InvalidSource.2 GS (hr.mono (by decide)) (b_InvalidSource_init D) .nil pass0 (by rfl) T.g_InvalidSource (pa_cons pe_int (pa_cons pe_int pa_nil))))) (pa_cons (pe_xfT (pe_ofMk (pmkN_oex T.ox_TooDeep T.oi_TooDeep.1 T.oi_TooDeep.2 GD (hr.mono (by decide)) (b_TooDeep_init D) .nil pass0 (by rfl) T.g_TooDeep (pa_cons pe_int pa_nil)))) pa_nil))))))
        (pss_one (ps_ret (pe_and (pe_cmpR (op_eqD hr.units) (pe_op op_cat (pv 2) (pe_lst (pa_cons (pe_xfT (pe_ofMk (pmkN_oex T.ox_TooLarge T.oi_TooLarge.1 T.oi_TooLarge.2 GL (hr.mono (by decide)) (b_TooLarge_init D) .nil pass0 (by rfl) T.g_TooLarge (pa_cons pe_int pa_nil)))) pa_nil))) (pe_lst (pa_cons pe_int (pa_cons pe_int (pa_cons pe_int (pa_cons pe_int (pa_cons pe_int pa_nil)))))) (nomark _)) (pe_one (pe_not (pe_callB call_isiTY (by rfl) T.z_isinstance (by decide +kernel) (pa_cons (pe_ofMk (L2N.pmk_own PySem.F.excBase_ValueError T.x_PlotError.1 T.g_PlotError T.x_PlotError.2.1 (raises_own T.x_PlotError.2.2.1 T.x_PlotError.2.2.2) rfl)) (pa_cons (pe_tup (pa_cons (pe_glob (v := .ref (He.ga K "InvalidText")) rfl T.g_InvalidText rfl) (pa_cons (pe_glob (v := .ref (He.ga K "HasPen")) rfl T.g_HasPen rfl) pa_nil))) pa_nil)))))))))))))))), ?_⟩
    refine seq_via (Good := fun σ H' => ∃ l vs, σ = [some (.ref l), none, none] ∧ H' l = some (.lst vs) ∧ (∀ v ∈ vs, Mad K H' v) ∧ vs.length ≤ 5 ∧ Same H H' ∧ H l = none) (fun D' hD => ?_) (fun σ H1 g => ?_)
    · refine fun a1 h1 a2 h2 a3 h3 a4 h4 a5 h5 => ⟨by show 5 ≤ sizeLine; decide, fun l hl => hD _ _ ⟨l, _, rfl, upd_same, fun v hv => ?_, by show 5 ≤ 5; decide, (same_new h1).trans ((same_new h2).trans ((same_new h3).trans ((same_new h4).trans ((same_new h5).trans (same_new hl))))), same_none ((same_new h1).trans ((same_new h2).trans ((same_new h3).trans ((same_new h4).trans (same_new h5))))) hl⟩⟩
      simp only [List.mem_cons, List.not_mem_nil, or_false] at hv
      rcases hv with rfl | rfl | rfl | rfl | rfl
      · exact mad_new T.e_InvalidProgram T.pk_InvalidProgram T.vk_InvalidProgram ((same_new h2).trans ((same_new h3).trans ((same_new h4).trans ((same_new h5).trans (same_new hl)))))
      · exact mad_new T.e_InvalidTimes T.pk_InvalidTimes T.vk_InvalidTimes ((same_new h3).trans ((same_new h4).trans ((same_new h5).trans (same_new hl))))
      · exact mad_new T.e_InvalidIndex T.pk_InvalidIndex T.vk_InvalidIndex ((same_new h4).trans ((same_new h5).trans (same_new hl)))
      · exact mad_new T.e_InvalidLetter T.pk_InvalidLetter T.vk_InvalidLetter ((same_new h5).trans (same_new hl))
      · exact mad_new T.e_InvalidName T.pk_InvalidName T.vk_InvalidName (same_new hl)
    obtain ⟨l0, vs, rfl, e0, m0, n0, w0, z0⟩ := g
    refine seq_via (Good := fun σ H' => ∃ l vs, σ = [some (.ref l), none, none] ∧ H' l = some (.lst vs) ∧ (∀ v ∈ vs, Mad K H' v) ∧ vs.length ≤ 10 ∧ Same H H' ∧ H l = none) (fun D' hD => ?_) (fun σ H1 g => ?_)
    · refine ⟨_, rfl, fun a1 h1 a2 h2 a3 h3 a4 h4 a5 h5 => ⟨by show 5 ≤ sizeLine; decide, fun l hl => ⟨l0, l, vs, _, rfl, rfl, ?_, upd_same, ?_, fun r hr => hD _ _ ⟨r, _, rfl, upd_same, fun v hv => ?_, ?_, (w0).trans ((same_new h1).trans ((same_new h2).trans ((same_new h3).trans ((same_new h4).trans ((same_new h5).trans ((same_new hl).trans (same_new hr))))))), same_none ((w0).trans ((same_new h1).trans ((same_new h2).trans ((same_new h3).trans ((same_new h4).trans ((same_new h5).trans (same_new hl))))))) hr⟩⟩⟩⟩
      · exact ((same_new h1).trans ((same_new h2).trans ((same_new h3).trans ((same_new h4).trans ((same_new h5).trans (same_new hl)))))) _ _ e0
      · exact Nat.le_trans (Nat.add_le_add_right n0 5) (by decide)
      · rcases List.mem_append.mp hv with hv | hv
        · exact (m0 v hv).same ((same_new h1).trans ((same_new h2).trans ((same_new h3).trans ((same_new h4).trans ((same_new h5).trans ((same_new hl).trans (same_new hr)))))))
        · simp only [List.mem_cons, List.not_mem_nil, or_false] at hv
          rcases hv with rfl | rfl | rfl | rfl | rfl
          · exact mad_new T.e_HasPen T.pk_HasPen T.vk_HasPen ((same_new h2).trans ((same_new h3).trans ((same_new h4).trans ((same_new h5).trans ((same_new hl).trans (same_new hr))))))
          · exact mad_new T.e_InvalidMotion T.pk_InvalidMotion T.vk_InvalidMotion ((same_new h3).trans ((same_new h4).trans ((same_new h5).trans ((same_new hl).trans (same_new hr)))))
          · exact mad_new T.e_InvalidPose T.pk_InvalidPose T.vk_InvalidPose ((same_new h4).trans ((same_new h5).trans ((same_new hl).trans (same_new hr))))
          · exact mad_new T.e_InvalidPoint T.pk_InvalidPoint T.vk_InvalidPoint ((same_new h5).trans ((same_new hl).trans (same_new hr)))
          · exact mad_new T.e_InvalidEdge T.pk_InvalidEdge T.vk_InvalidEdge ((same_new hl).trans (same_new hr))
      · rw [List.length_append]; exact Nat.add_le_add_right n0 5
    obtain ⟨l0, vs, rfl, e0, m0, n0, w0, z0⟩ := g
    refine seq_via (Good := fun σ H' => ∃ l vs, σ = [some (.ref l), none, none] ∧ H' l = some (.lst vs) ∧ (∀ v ∈ vs, Mad K H' v) ∧ vs.length ≤ 11 ∧ Same H H' ∧ H l = none) (fun D' hD => ?_) (fun σ H1 g => ?_)
    · refine ⟨_, rfl, .inl ⟨rfl, _, lstL e0⟩, fun a1 h1 => ⟨l0, vs, _, rfl, rfl, same_new h1 _ _ e0, Nat.lt_of_le_of_lt n0 (by decide), hD _ _ ⟨l0, _, rfl, upd_same, fun v hv => ?_, ?_, fun b o e => (upd_ne (ne_of_none e z0)).trans ((w0.trans (same_new h1)) b o e), z0⟩⟩⟩
      · rcases List.mem_append.mp hv with hv | hv
        · exact ((m0 v hv).same (same_new h1)).upd (same_new h1 _ _ e0)
        · rw [List.mem_singleton.mp hv]
          exact (mad_new T.e_InvalidPicture T.pk_InvalidPicture T.vk_InvalidPicture (fun _ _ e => e)).upd (same_new h1 _ _ e0)
      · rw [List.length_append]; exact Nat.add_le_add_right n0 1
    obtain ⟨l0, vs, rfl, e0, m0, n0, w0, z0⟩ := g
    refine seq_via (Good := fun σ H' => ∃ l vs, σ = [some (.ref l), none, none] ∧ H' l = some (.lst vs) ∧ (∀ v ∈ vs, Mad K H' v) ∧ vs.length ≤ 17 ∧ Same H H' ∧ H l = none) (fun D' hD => ?_) (fun σ H1 g => ?_)
    · refine ⟨_, rfl, fun a1 h1 a2 h2 a3 h3 a4 h4 a5 h5 a6 h6 => ⟨by show 6 ≤ sizeLine; decide, fun l hl => ⟨l0, l, vs, _, rfl, rfl, ?_, upd_same, ?_, fun r hr => hD _ _ ⟨r, _, rfl, upd_same, fun v hv => ?_, ?_, (w0).trans ((same_new h1).trans ((same_new h2).trans ((same_new h3).trans ((same_new h4).trans ((same_new h5).trans ((same_new h6).trans ((same_new hl).trans (same_new hr)))))))), same_none ((w0).trans ((same_new h1).trans ((same_new h2).trans ((same_new h3).trans ((same_new h4).trans ((same_new h5).trans ((same_new h6).trans (same_new hl)))))))) hr⟩⟩⟩⟩
      · exact ((same_new h1).trans ((same_new h2).trans ((same_new h3).trans ((same_new h4).trans ((same_new h5).trans ((same_new h6).trans (same_new hl))))))) _ _ e0
      · exact Nat.le_trans (Nat.add_le_add_right n0 6) (by decide)
      · rcases List.mem_append.mp hv with hv | hv
        · exact (m0 v hv).same ((same_new h1).trans ((same_new h2).trans ((same_new h3).trans ((same_new h4).trans ((same_new h5).trans ((same_new h6).trans ((same_new hl).trans (same_new hr))))))))
        · simp only [List.mem_cons, List.not_mem_nil, or_false] at hv
          rcases hv with rfl | rfl | rfl | rfl | rfl | rfl
          · exact mad_new T.e_InvalidTurn T.pk_InvalidTurn T.vk_InvalidTurn ((same_new h2).trans ((same_new h3).trans ((same_new h4).trans ((same_new h5).trans ((same_new h6).trans ((same_new hl).trans (same_new hr)))))))
          · exact mad_new T.e_InvalidFace T.pk_InvalidFace T.vk_InvalidFace ((same_new h3).trans ((same_new h4).trans ((same_new h5).trans ((same_new h6).trans ((same_new hl).trans (same_new hr))))))
          · exact mad_new T.e_InvalidFaces T.pk_InvalidFaces T.vk_InvalidFaces ((same_new h4).trans ((same_new h5).trans ((same_new h6).trans ((same_new hl).trans (same_new hr)))))
          · exact mad_new T.e_NotEven T.pk_NotEven T.vk_NotEven ((same_new h5).trans ((same_new h6).trans ((same_new hl).trans (same_new hr))))
          · exact mad_new T.e_NotClosed T.pk_NotClosed T.vk_NotClosed ((same_new h6).trans ((same_new hl).trans (same_new hr)))
          · exact mad_new T.e_Nothing T.pk_Nothing T.vk_Nothing ((same_new hl).trans (same_new hr))
      · rw [List.length_append]; exact Nat.add_le_add_right n0 6
    obtain ⟨l0, vs, rfl, e0, m0, n0, w0, z0⟩ := g
    refine seq_via (Good := fun σ H' => ∃ l vs, σ = [some (.ref l), none, none] ∧ H' l = some (.lst vs) ∧ (∀ v ∈ vs, Mad K H' v) ∧ vs.length ≤ 22 ∧ Same H H' ∧ H l = none) (fun D' hD => ?_) (fun σ H1 g => ?_)
    · refine ⟨_, rfl, fun a1 h1 a2 h2 a3 h3 a4 h4 a5 h5 => ⟨by show 5 ≤ sizeLine; decide, fun l hl => ⟨l0, l, vs, _, rfl, rfl, ?_, upd_same, ?_, fun r hr => hD _ _ ⟨r, _, rfl, upd_same, fun v hv => ?_, ?_, (w0).trans ((same_new h1).trans ((same_new h2).trans ((same_new h3).trans ((same_new h4).trans ((same_new h5).trans ((same_new hl).trans (same_new hr))))))), same_none ((w0).trans ((same_new h1).trans ((same_new h2).trans ((same_new h3).trans ((same_new h4).trans ((same_new h5).trans (same_new hl))))))) hr⟩⟩⟩⟩
      · exact ((same_new h1).trans ((same_new h2).trans ((same_new h3).trans ((same_new h4).trans ((same_new h5).trans (same_new hl)))))) _ _ e0
      · exact Nat.le_trans (Nat.add_le_add_right n0 5) (by decide)
      · rcases List.mem_append.mp hv with hv | hv
        · exact (m0 v hv).same ((same_new h1).trans ((same_new h2).trans ((same_new h3).trans ((same_new h4).trans ((same_new h5).trans ((same_new hl).trans (same_new hr)))))))
        · simp only [List.mem_cons, List.not_mem_nil, or_false] at hv
          rcases hv with rfl | rfl | rfl | rfl | rfl
          · exact mad_new T.e_InvalidIntervals T.pk_InvalidIntervals T.vk_InvalidIntervals ((same_new h2).trans ((same_new h3).trans ((same_new h4).trans ((same_new h5).trans ((same_new hl).trans (same_new hr))))))
          · exact mad_new T.e_InvalidPlace T.pk_InvalidPlace T.vk_InvalidPlace ((same_new h3).trans ((same_new h4).trans ((same_new h5).trans ((same_new hl).trans (same_new hr)))))
          · exact mad_new T.e_NotDrifting T.pk_NotDrifting T.vk_NotDrifting ((same_new h4).trans ((same_new h5).trans ((same_new hl).trans (same_new hr))))
          · exact mad_new T.e_InvalidCount T.pk_InvalidCount T.vk_InvalidCount ((same_new h5).trans ((same_new hl).trans (same_new hr)))
          · exact mad_new T.e_NoSteps T.pk_NoSteps T.vk_NoSteps ((same_new hl).trans (same_new hr))
      · rw [List.length_append]; exact Nat.add_le_add_right n0 5
    obtain ⟨l0, vs, rfl, e0, m0, n0, w0, z0⟩ := g
    refine seq_via (Good := fun σ H' => ∃ l vs, σ = [some (.ref l), none, none] ∧ H' l = some (.lst vs) ∧ (∀ v ∈ vs, Mad K H' v) ∧ vs.length ≤ 27 ∧ Same H H' ∧ H l = none) (fun D' hD => ?_) (fun σ H1 g => ?_)
    · refine ⟨_, rfl, fun a1 h1 a2 h2 a3 h3 => ?_⟩
      dsimp only [tCons, tLst]
      refine mkO1 3 (by decide) (fun d4 G4 s4 nd4 ed4 a4 h4 => mkOS 1 2 (by decide) (by decide) (fun d5 G5 s5 nd5 ed5 a5 h5 => ⟨by show 5 ≤ sizeLine; decide, fun l hl => ⟨l0, l, vs, _, rfl, rfl, ?_, upd_same, ?_, fun r hr => hD _ _ ⟨r, _, rfl, upd_same, fun v hv => ?_, ?_, w0.trans ((same_new h1).trans ((same_new h2).trans ((same_new h3).trans ((s4).trans ((same_new h4).trans ((s5).trans ((same_new h5).trans ((same_new hl).trans (same_new hr))))))))), same_none (w0.trans ((same_new h1).trans ((same_new h2).trans ((same_new h3).trans ((s4).trans ((same_new h4).trans ((s5).trans ((same_new h5).trans (same_new hl))))))))) hr⟩⟩⟩))
      · exact ((same_new h1).trans ((same_new h2).trans ((same_new h3).trans ((s4).trans ((same_new h4).trans ((s5).trans ((same_new h5).trans (same_new hl)))))))) _ _ e0
      · exact Nat.le_trans (Nat.add_le_add_right n0 5) (by decide)
      · rcases List.mem_append.mp hv with hv | hv
        · exact (m0 v hv).same ((same_new h1).trans ((same_new h2).trans ((same_new h3).trans ((s4).trans ((same_new h4).trans ((s5).trans ((same_new h5).trans ((same_new hl).trans (same_new hr)))))))))
        · simp only [List.mem_cons, List.not_mem_nil, or_false] at hv
          rcases hv with rfl | rfl | rfl | rfl | rfl
          · exact mad_new T.e_InvalidOperation T.pk_InvalidOperation T.vk_InvalidOperation ((same_new h2).trans ((same_new h3).trans ((s4).trans ((same_new h4).trans ((s5).trans ((same_new h5).trans ((same_new hl).trans (same_new hr))))))))
          · exact mad_new T.e_InvalidArt T.pk_InvalidArt T.vk_InvalidArt ((same_new h3).trans ((s4).trans ((same_new h4).trans ((s5).trans ((same_new h5).trans ((same_new hl).trans (same_new hr)))))))
          · exact mad_new T.e_InvalidCommand T.pk_InvalidCommand T.vk_InvalidCommand ((s4).trans ((same_new h4).trans ((s5).trans ((same_new h5).trans ((same_new hl).trans (same_new hr))))))
          · exact mad_newD T.e_InvalidText T.pk_InvalidText T.vk_InvalidText ed4 h4 ((s5).trans ((same_new h5).trans ((same_new hl).trans (same_new hr))))
          · exact mad_newD T.e_InvalidSource T.pk_InvalidSource T.vk_InvalidSource ed5 h5 ((same_new hl).trans (same_new hr))
      · rw [List.length_append]; exact Nat.add_le_add_right n0 5
    obtain ⟨l0, vs, rfl, e0, m0, n0, w0, z0⟩ := g
    refine seq_via (Good := fun σ H' => ∃ z1, σ = [some (.ref l0), z1, none] ∧ Same H H') (fun D' hD => ?_) (fun σ H2 g => ?_)
    · refine ⟨_, rfl, ?_⟩
      dsimp only [tCons, tLst]
      refine mkO1 12 (by decide) (fun d1 G1 s1 nd1 ed1 a1 h1 => mkO1 60 (by decide) (fun d2 G2 s2 nd2 ed2 a2 h2 => ⟨by show 2 ≤ sizeLine; decide, fun l hl => ⟨l0, l, vs, _, rfl, rfl, ?_, upd_same, ?_, fun r hr => ⟨r, rfl, ⟨_, lstL upd_same⟩, ?_⟩⟩⟩))
      · exact (s1.trans ((same_new h1).trans (s2.trans ((same_new h2).trans (same_new hl))))) _ _ e0
      · exact Nat.le_trans (Nat.add_le_add_right n0 2) (by decide)
      have m2 : ∀ v ∈ vs ++ [V.ref a1, V.ref a2], Mad K (upd (upd (upd G2 a2 (ExT a2 (.ref (He.ga K "TooLarge")) (some d2))) l (.lst [.ref a1, .ref a2])) r (.lst (vs ++ [.ref a1, .ref a2]))) v := fun v hv => by
        rcases List.mem_append.mp hv with hv | hv
        · exact (m0 v hv).same (s1.trans ((same_new h1).trans (s2.trans ((same_new h2).trans ((same_new hl).trans (same_new hr))))))
        · simp only [List.mem_cons, List.not_mem_nil, or_false] at hv
          rcases hv with rfl | rfl
          · exact mad_newD T.e_TooDeep T.pk_TooDeep T.vk_TooDeep ed1 h1 (s2.trans ((same_new h2).trans ((same_new hl).trans (same_new hr))))
          · exact mad_newD T.e_TooLarge T.pk_TooLarge T.vk_TooLarge ed2 h2 ((same_new hl).trans (same_new hr))
      have er : (upd (upd (upd G2 a2 (ExT a2 (.ref (He.ga K "TooLarge")) (some d2))) l (.lst [.ref a1, .ref a2])) r (.lst (vs ++ [.ref a1, .ref a2]))) r = some (.lst (vs ++ [.ref a1, .ref a2])) := upd_same
      have w3 : Same H (upd (upd (upd G2 a2 (ExT a2 (.ref (He.ga K "TooLarge")) (some d2))) l (.lst [.ref a1, .ref a2])) r (.lst (vs ++ [.ref a1, .ref a2]))) := w0.trans (s1.trans ((same_new h1).trans (s2.trans ((same_new h2).trans ((same_new hl).trans (same_new hr))))))
      generalize upd (upd (upd G2 a2 (ExT a2 (.ref (He.ga K "TooLarge")) (some d2))) l (.lst [.ref a1, .ref a2])) r (.lst (vs ++ [.ref a1, .ref a2])) = H3 at m2 er w3 ⊢
      refine for_list (xs := vs ++ [V.ref a1, V.ref a2]) (fun i σ H' => ∃ z1, σ = [some (.ref l0), z1, none] ∧ Same H3 H') ⟨none, rfl, fun _ _ e => e⟩ (fun i σ H' _ hp => ?_) (fun i v σ H' hx hp => ?_) (fun σ H' hp => ?_)
      · obtain ⟨_, _, s⟩ := hp
        exact lstL (s _ _ er)
      · obtain ⟨z1, rfl, s⟩ := hp
        obtain ⟨C, ty, k1, k2⟩ := ((m2 v (List.mem_of_getElem? hx)).same s).ty
        exact ⟨_, rfl, _, .ref (He.ga K "PlotError"), _, _, true, rfl, .own _, ty, k1, true, rfl, iteF ⟨_, rfl, _, .ty "ValueError", _, _, true, rfl, .ty "ValueError", ty, k2, true, rfl, iteF ⟨_, rfl, s⟩⟩⟩
      · obtain ⟨z1, rfl, s⟩ := hp
        exact hD _ _ ⟨z1, rfl, w3.trans s⟩
    · obtain ⟨z1, rfl, w2⟩ := g
      clear m0 n0 e0 w0 z0
      dsimp only [tSeq, tAsg, tLst, tCons, tXfT, tNil]
      refine mkO1 3 (by decide) (fun d1 G1 s1 nd1 ed1 a1 h1 => ⟨a1, _, d1, _, optV (some 3), rfl, XfC.ofE T.e_InvalidText, T.no_InvalidText_index, upd_same, (upd_ne (dne ed1 h1)).trans ed1, rfl, ?_⟩)
      refine mkOS 1 2 (by decide) (by decide) (fun d2 G2 s2 nd2 ed2 a2 h2 => ⟨a2, _, d2, _, optV (some 1), rfl, XfC.ofE T.e_InvalidSource, T.no_InvalidSource_line, upd_same, (upd_ne (dne ed2 h2)).trans ed2, rfl, ?_⟩)
      refine mkOS 1 2 (by decide) (by decide) (fun d3 G3 s3 nd3 ed3 a3 h3 => ⟨a3, _, d3, _, optV (some 2), rfl, XfC.ofE T.e_InvalidSource, T.no_InvalidSource_index, upd_same, (upd_ne (dne ed3 h3)).trans ed3, rfl, ?_⟩)
      refine mkO1 12 (by decide) (fun d4 G4 s4 nd4 ed4 a4 h4 => ⟨a4, _, d4, _, optV (some 12), rfl, XfC.ofE T.e_TooDeep, T.no_TooDeep_limit, upd_same, (upd_ne (dne ed4 h4)).trans ed4, rfl, ?_⟩)
      refine ⟨by show 4 ≤ sizeLine; decide, fun fl hfl => ?_⟩
      have efl : (upd (upd G4 a4 (ExT a4 (.ref (He.ga K "TooDeep")) (some d4))) fl (.lst [optV (some 3), optV (some 1), optV (some 2), optV (some 12)])) fl = some (.lst [optV (some 3), optV (some 1), optV (some 2), optV (some 12)]) := upd_same
      have w5 : Same H (upd (upd G4 a4 (ExT a4 (.ref (He.ga K "TooDeep")) (some d4))) fl (.lst [optV (some 3), optV (some 1), optV (some 2), optV (some 12)])) := w2.trans (s1.trans ((same_new h1).trans (s2.trans ((same_new h2).trans (s3.trans ((same_new h3).trans (s4.trans ((same_new h4).trans (same_new hfl)))))))))
      generalize upd (upd G4 a4 (ExT a4 (.ref (He.ga K "TooDeep")) (some d4))) fl (.lst [optV (some 3), optV (some 1), optV (some 2), optV (some 12)]) = G5 at efl w5 ⊢
      refine ⟨_, rfl, ?_⟩
      dsimp only [tCons, tLst, tXfT, tNil]
      refine mkO1 60 (by decide) (fun d6 G6 s6 nd6 ed6 a6 h6 => ⟨a6, _, d6, _, optV (some 60), rfl, XfC.ofE T.e_TooLarge, T.no_TooLarge_limit, upd_same, (upd_ne (dne ed6 h6)).trans ed6, rfl, by show 1 ≤ sizeLine; decide, fun l2 hl2 => ⟨fl, l2, _, _, rfl, rfl, (s6.trans ((same_new h6).trans (same_new hl2))) _ _ efl, upd_same, by show 5 ≤ sizeLine; decide, fun r hr => ⟨by show 5 ≤ sizeLine; decide, fun l3 hl3 => ⟨.list [.int ((3 : Nat) : Int), .int ((1 : Nat) : Int), .int ((2 : Nat) : Int), .int ((12 : Nat) : Int), .int ((60 : Nat) : Int)], .list [.int 3, .int 1, .int 2, .int 12, .int 60], .lst (lstL (same_new hl3 _ _ upd_same)) (.cons (.int _) (.cons (.int _) (.cons (.int _) (.cons (.int _) (.cons (.int _) .nil))))), .lst (lstL upd_same) (.cons (.int _) (.cons (.int _) (.cons (.int _) (.cons (.int _) (.cons (.int _) .nil))))), rfl, rfl, true, by decide +kernel, iteT ?_⟩⟩⟩⟩)
      show tNotV _ _ _ _
      intro a ha
      refine ⟨by show 2 ≤ sizeLine; decide, fun t ht => ⟨_, t, _, _, _, false, rfl, upd_same, .cons (.own _) (.cons (.own _) .nil), .exc0 (same_new ht _ _ upd_same) T.e_PlotError, T.qm_PlotError, ?_⟩⟩
      exact ⟨false, rfl, q _ (w5.trans (s6.trans ((same_new h6).trans ((same_new hl2).trans ((same_new hr).trans ((same_new hl3).trans ((same_new ha).trans (same_new ht))))))))⟩
end
end K04P

set_option Elab.async false
set_option linter.all false
set_option maxRecDepth 100000
set_option maxHeartbeats 8000000
set_option exponentiation.threshold 3000
namespace K04P
open PySem PySem.Spec PyProof.Rows L2 RT WM K04 TL DQ
theorem sqlS {K : PySem.W.Frag} {H H' : Hp} {a : Addr} {xs : List V} (e : Same H H') (h : SqL K H a xs) : SqL K H' a xs := by
  rcases h with (h | ⟨o, h⟩) | h
  · exact .inl (.inl (e _ _ h))
  · exact .inl (.inr ⟨o, e _ _ h⟩)
  · exact .inr h
theorem mem_join (c : Nat) (hc : c ≠ 32) : ∀ ps : List (List Nat), c ∈ joinL [32] ps ↔ ∃ p ∈ ps, c ∈ p
  | [] => ⟨fun h => (nomatch h), fun ⟨_, h, _⟩ => (nomatch h)⟩
  | [p] => ⟨fun h => ⟨p, List.mem_singleton.mpr rfl, h⟩, fun ⟨q, hq, h⟩ => by rw [List.mem_singleton.mp hq] at h; exact h⟩
  | p :: q :: r => by
    have ih := mem_join c hc (q :: r)
    show c ∈ p ++ ([32] ++ joinL [32] (q :: r)) ↔ _
    rw [List.mem_append, List.mem_append, ih]
    constructor
    · rintro (h | h | ⟨x, hx, h⟩)
      · exact ⟨p, List.mem_cons_self .., h⟩
      · exact absurd (List.mem_singleton.mp h) hc
      · exact ⟨x, List.mem_cons_of_mem _ hx, h⟩
    · rintro ⟨x, hx, h⟩
      rcases List.mem_cons.mp hx with rfl | hx
      · exact .inl h
      · exact .inr (.inr ⟨x, hx, h⟩)
theorem mem_word {c : Nat} (h1 : 57 < c) (x : Wd) (hx : x.ok) : c ∈ x.cps ↔ ∃ n, x = .lt c n := by
  have hd : ∀ n, c ∉ numL n := fun n h => by
    have := numL_digits n c h
    omega
  cases x with
  | op =>
    constructor
    · intro h
      have : c = 40 := List.mem_singleton.mp h
      omega
    · rintro ⟨n, h⟩
      cases h
  | cl n =>
    constructor
    · intro h
      rcases List.mem_cons.mp h with h | h
      · omega
      · exact absurd h (hd n)
    · rintro ⟨m, h⟩
      cases h
  | lt k n =>
    constructor
    · intro h
      simp only [Wd.cps] at h
      split at h
      · exact ⟨n, by rw [List.mem_singleton.mp h]⟩
      · rcases List.mem_cons.mp h with rfl | h
        · exact ⟨n, rfl⟩
        · exact absurd h (hd n)
    · rintro ⟨m, h⟩
      cases h
      simp only [Wd.cps]
      split
      · exact List.mem_singleton.mpr rfl
      · exact List.mem_cons_self ..
theorem text_has {c : Nat} (h1 : 57 < c) {p : Ps} (ok : p.ok) : c ∈ (textOf p.words).cps.toList ↔ 0 < p.cnt c := by
  have e : (textOf p.words).cps.toList = joinL [32] ((p.words.map Wd.str).map tl) := by
    have := tl_join " " (p.words.map Wd.str)
    exact this
  rw [e, mem_join c (by omega)]
  have z := cnt_zero (c := c) ok
  constructor
  · rintro ⟨q, hq, h⟩
    obtain ⟨y, hy, rfl⟩ := List.mem_map.mp hq
    obtain ⟨x, hx, rfl⟩ := List.mem_map.mp hy
    obtain ⟨n, rfl⟩ := (mem_word h1 x (words_ok p ok x hx)).mp h
    refine Nat.pos_of_ne_zero fun z0 => z.mp z0 n hx
  · intro h
    refine Classical.byContradiction fun no => ?_
    have : p.cnt c = 0 := z.mpr fun n hn => no ⟨_, List.mem_map_of_mem (List.mem_map_of_mem hn), (mem_word h1 _ (words_ok p ok _ hn)).mpr ⟨n, rfl⟩⟩
    omega
theorem cut8 (ns : List Int) : (cutV (ns.map V.int) none (some 8)).length ≤ 8 ∧ ∀ x ∈ cutV (ns.map V.int) none (some 8) ++ [V.int 0], ∃ z, x = V.int z := by
  refine ⟨?_, fun x hx => ?_⟩
  · unfold cutV
    rw [List.length_take]
    refine Nat.le_trans (Nat.min_le_left _ _) (Nat.le_trans (Nat.sub_le _ _) ?_)
    have := HT.sIx_nat (ns.map V.int).length (ns.map V.int).length 8
    show HT.sIx (ns.map V.int).length (ns.map V.int).length (some ((8 : Nat) : Int)) ≤ 8
    rw [this]
    exact Nat.min_le_left _ _
  · rcases List.mem_append.mp hx with hx | hx
    · unfold cutV at hx
      obtain ⟨z, _, rfl⟩ := List.mem_map.mp (List.mem_of_mem_drop (List.mem_of_mem_take hx))
      exact ⟨z, rfl⟩
    · exact ⟨0, List.mem_singleton.mp hx⟩
theorem let_at {u : Int} (h0 : 0 ≤ u) (h : u < 4) : ∃ S : Str, atI [V.str "fblrud", V.str "fblr", V.str "fu", V.str "ld"] u = some (.str S) ∧ (∀ x ∈ S.cps.toList, x ∈ six) ∧ 1 ≤ S.length ∧ S.length ≤ 10 := by
  have e : u = 0 ∨ u = 1 ∨ u = 2 ∨ u = 3 := by omega
  rcases e with rfl | rfl | rfl | rfl
  · exact ⟨"fblrud", atI_nat (j := 0) rfl, by decide +kernel, by decide +kernel, by decide +kernel⟩
  · exact ⟨"fblr", atI_nat (j := 1) rfl, by decide +kernel, by decide +kernel, by decide +kernel⟩
  · exact ⟨"fu", atI_nat (j := 2) rfl, by decide +kernel, by decide +kernel, by decide +kernel⟩
  · exact ⟨"ld", atI_nat (j := 3) rfl, by decide +kernel, by decide +kernel, by decide +kernel⟩
theorem p60 : (10 : Int) ^ ((60 : Int).toNat) = 1000000000000000000000000000000000000000000000000000000000000 := by decide +kernel
theorem kit_i {K : PySem.W.Frag} {Ty : String} (h : Ty ∈ kinds) (n1 : Ty ≠ "int") (n2 : Ty ≠ "bool") : PySem.W.kitOne K (.type Ty) (.type "int") = some false := by
  unfold kinds at h
  simp only [List.mem_cons, List.not_mem_nil, or_false] at h
  rcases h with rfl | rfl | rfl | rfl | rfl | rfl | rfl
  · exact kit_ty (by decide +kernel)
  · exact absurd rfl n1
  · exact absurd rfl n2
  · exact kit_ty (by decide +kernel)
  · exact kit_ty (by decide +kernel)
  · exact kit_ty (by decide +kernel)
  · exact kit_ty (by decide +kernel)
theorem Kd.same {K : PySem.W.Frag} {H H' : Hp} {v : V} (h : Kd K H v) (s : Same H H') : Kd K H' v := by
  obtain ⟨Ty, ty, hk⟩ := h
  exact ⟨Ty, fun H2 s2 => ty H2 (s.trans s2), hk⟩
/-- never a number of times -/
def Bad2 (K : PySem.W.Frag) (H : Hp) (v : V) : Prop := (∃ o, (∀ H', Same H H' → Nu K H' v o) ∧ (∀ H', Same H H' → Kd K H' v) ∧ ∀ p, mulT p o = "InvalidTimes") ∨ ∃ a p, v = .ref a ∧ IsP K H a p
theorem Bad2.same {K : PySem.W.Frag} {H H' : Hp} {v : V} (h : Bad2 K H v) (s : Same H H') : Bad2 K H' v := by
  rcases h with ⟨o, h1, h2, h3⟩ | ⟨a, p, e, h⟩
  · exact .inl ⟨o, fun H2 s2 => h1 H2 (s.trans s2), fun H2 s2 => h2 H2 (s.trans s2), h3⟩
  · exact .inr ⟨a, p, e, h.same s⟩
theorem Bad2.ask {K : PySem.W.Frag} {H : Hp} {v : V} {a : Addr} {p : Ps} (h : Bad2 K H v) (hp : IsP K H a p) : Asks K H 1 (.ref a) v "InvalidTimes" := by
  rcases h with ⟨o, h1, h2, h3⟩ | ⟨b, q, rfl, h⟩
  · rw [← h3 p]
    exact .mul hp h1 (h2 H fun _ _ e => e)
  · exact .mulP hp h
theorem bad_int {K : PySem.W.Frag} {H : Hp} (i : Int) (h : inR (some i) 0 1000000000000000000000000000000 = false) : Bad2 K H (.int i) := .inl ⟨some i, fun _ _ => .int i, fun _ _ => kdI i, fun p => by
  unfold mulT
  exact if_pos h⟩
theorem bad_kd {K : PySem.W.Frag} {H : Hp} {v : V} {Ty : String} (ty : ∀ H', Same H H' → TyY K H' v (.type Ty)) (h : Ty ∈ kinds) (n1 : Ty ≠ "int") (n2 : Ty ≠ "bool") : Bad2 K H v :=
  .inl ⟨none, fun H' s => .other _ (ty H' s) (kit_i h n1 n2), fun H' s => ⟨Ty, fun H2 s2 => ty H2 (s.trans s2), h⟩, fun _ => rfl⟩
section
variable {P : Program} {w : World} {K : PySem.W.Frag} {mg : Str → Option Value} {base : Heap}
def spLaw (K : PySem.W.Frag) : Sp := fun vs H Q _ => ∃ (a : Addr) (ns : List Int), vs = [.ref a] ∧ SqL K H a (ns.map V.int) ∧ ∀ H', Q (.bl true) H'
theorem ok_law (D : Ds K) (T : Tx K mg) (B : Tb K w) : FnOk P w K mg base CX0 24 (dlaw.adr K) D.fd_law ["script"] (spLaw K) := by
  have GP : FnOk P w K mg base CX0 1 _ _ _ spPick := ok_pick D T
  have GB : FnOk P w K mg base CX0 1 _ _ _ spBag := ok_bag D T
  have GW : FnOk P w K mg base CX0 15 _ _ _ (spLW 12) := ok_lw D T 12
  have GT : FnOk P w K mg base CX0 22 _ _ _ (spTold K) := ok_told D T B
  have GI : FnOk P w K mg base CX0 19 _ _ _ (spProg K) := ok_prog D T
  have GX : FnOk P w K mg base CX0 1 _ _ _ (spText K) := ok_text D T
  have GM : FnOk P w K mg base CX0 3 _ _ _ spMadeR := ok_madeR D T
  have GZ : FnOk P w K mg base CX0 23 _ _ _ spSizesR := ok_sizes D T B
  refine D.F_law.ok sclaw (fun vs H Q E h => ?_) (fun cdv A outer s H vs Q E hr h => ?_)
  · obtain ⟨a, ns, rfl, _⟩ := h
    rfl
  · obtain ⟨a, ns, rfl, hS, q⟩ := h
    have nd := sclaw.nd
    refine ⟨_, PSs.nox (pss_cons (ps_if (pt_not (pt_val (pe_call0 GM (hr.mono (by decide)) (by rfl) T.g__law_made_right D.F__law_made_right.kp (b__law_made_right D) .nil pass0))) (pss_one (ps_ret pe_bl)) pss_nil)
        (pss_cons (ps_for PassesOwn.never rfl (pi_list (pe_op op_cat (pe_slice sl_list (pv 0) po_none (po_some pe_int)) (pe_lst (pa_cons pe_int pa_nil)))) (pg_name (i := 1) nd rfl (.inl rfl))
      (pss_cons (ps_set (i := 2) nd rfl (.inl rfl) (pe_call GB (hr.mono (by decide)) (by rfl) T.g__law_bag D.F__law_bag.kp (b__law_bag D) .nil pass0 (pa_cons (pv 1) pa_nil)))
        (pss_cons (ps_set (i := 3) nd rfl (.inl rfl) (pe_ix ix_list (pe_lst (pa_cons pe_str (pa_cons pe_str (pa_cons pe_str (pa_cons pe_str pa_nil))))) (pe_call GP (hr.mono (by decide)) (by rfl) T.g__law_pick D.F__law_pick.kp (b__law_pick D) .nil pass0 (pa_cons (pv 2) (pa_cons pe_int pa_nil))) (fun _ _ => rfl)))
        (pss_cons (ps_set (i := 4) nd rfl (.inl rfl) (pe_call GW (hr.mono (by decide)) (by rfl) T.g__law_words D.F__law_words.kp (b__law_words D) .nil pass0 (pa_cons (pv 2) (pa_cons pe_int (pa_cons pe_int (pa_cons (pv 3) (pa_cons pe_int pa_nil)))))))
        (pss_cons (ps_set (i := 5) nd rfl (.inl rfl) (pe_make T.k_Program GI (hr.mono (by decide)) (by rfl) T.g_Program (b_Program_init D) .nil pass0 (pa_cons (pe_join pe_str (pv 4)) pa_nil)))
        (pss_cons (ps_for PassesOwn.never rfl (pi_list (pe_lst (pa_cons pe_non (pa_cons pe_str (pa_cons pe_str (pa_cons pe_int (pa_cons pe_int (pa_cons pe_bl (pa_cons (pe_lst (pa_cons pe_str pa_nil)) (pa_cons (pe_tup (pa_cons pe_str pa_nil)) (pa_cons pe_dnewK (pa_cons (pv 4) pa_nil)))))))))))) (pg_name (i := 6) nd rfl (.inl rfl))
      (pss_one (ps_if (PW.pt (pw_or (pt_cmpR op_ne (pe_call GT (hr.mono (by decide)) (by rfl) T.g__law_told D.F__law_told.kp (b__law_told D) .nil pass0 (pa_cons pe_int (pa_cons (pv 5) (pa_cons (pv 6) pa_nil)))) pe_str (nomark _)) (pw_or1 (pt_cmpR op_ne (pe_call GT (hr.mono (by decide)) (by rfl) T.g__law_told D.F__law_told.kp (b__law_told D) .nil pass0 (pa_cons pe_int (pa_cons (pe_make T.k_Program GI (hr.mono (by decide)) (by rfl) T.g_Program (b_Program_init D) .nil pass0 (pa_cons pe_str pa_nil)) (pa_cons (pv 6) pa_nil)))) pe_str (nomark _))))) (pss_one (ps_ret pe_bl)) pss_nil)))
        (pss_cons (ps_for PassesOwn.never rfl (pi_list (pe_lst (pa_cons pe_non (pa_cons (pe_un un_neg pe_int) (pa_cons (pe_un un_neg pe_int) (pa_cons (pe_op op_sub pe_int (pe_op op_pow pe_int pe_int)) (pa_cons (pe_op op_add (pe_op op_pow pe_int pe_int) pe_int) (pa_cons (pe_op op_pow pe_int pe_int) (pa_cons pe_bl (pa_cons pe_bl (pa_cons pe_str (pa_cons (pe_tup (pa_cons pe_int pa_nil)) (pa_cons (pe_lst pa_nil) (pa_cons pe_dnewK (pa_cons (pv 5) pa_nil))))))))))))))) (pg_name (i := 6) nd rfl (.inl rfl))
      (pss_one (ps_if (PW.pt (pw_or (pt_cmpR op_ne (pe_call GT (hr.mono (by decide)) (by rfl) T.g__law_told D.F__law_told.kp (b__law_told D) .nil pass0 (pa_cons pe_int (pa_cons (pv 5) (pa_cons (pv 6) pa_nil)))) pe_str (nomark _)) (pw_or1 (pt_cmpR op_ne (pe_call GT (hr.mono (by decide)) (by rfl) T.g__law_told D.F__law_told.kp (b__law_told D) .nil pass0 (pa_cons pe_int (pa_cons (pe_make T.k_Program GI (hr.mono (by decide)) (by rfl) T.g_Program (b_Program_init D) .nil pass0 (pa_cons pe_str pa_nil)) (pa_cons (pv 6) pa_nil)))) pe_str (nomark _))))) (pss_one (ps_ret pe_bl)) pss_nil)))
        (pss_cons (ps_if (pt_cmpR op_ne (pe_call GT (hr.mono (by decide)) (by rfl) T.g__law_told D.F__law_told.kp (b__law_told D) .nil pass0 (pa_cons pe_int (pa_cons (pv 5) (pa_cons pe_non pa_nil)))) (pe_ifExp (PW.pt (pw_or (pt_cmpR op_in_sign pe_str (pe_prop (pv 5) T.c_Program T.p_Program_text GX (hr.mono (by decide)) (b_Program_text D) .nil pass0 rfl) (by rfl)) (pw_or1 (pt_cmpR op_in_sign pe_str (pe_prop (pv 5) T.c_Program T.p_Program_text GX (hr.mono (by decide)) (b_Program_text D) .nil pass0 rfl) (by rfl))))) pe_str pe_str) (nomark _)) (pss_one (ps_ret pe_bl)) pss_nil)
        (pss_one (ps_if (pt_not (pt_val (pe_call GZ hr (by rfl) T.g__law_sizes_right D.F__law_sizes_right.kp (b__law_sizes_right D) .nil pass0 (pa_cons (pv 2) pa_nil)))) (pss_one (ps_ret pe_bl)) pss_nil))))))))))
        (pss_one (ps_ret pe_bl)))), ?_⟩
    refine seq_via (Good := fun σ H' => σ = [some (.ref a), none, none, none, none, none, none] ∧ Same H H') (fun D' hD => ⟨rfl, fun H1 s1 => ⟨true, rfl, iteF (hD _ _ ⟨rfl, s1⟩)⟩⟩) (fun σ H1 g => ?_)
    obtain ⟨rfl, s1⟩ := g
    have hS1 := sqlS s1 hS
    refine seq_via (Good := fun σ H' => True) (fun D' hD => ?_) (fun σ H2 g => q _)
    refine ⟨_, rfl, _, rfl, a, _, rfl, hS1, fun p hp => ⟨by show 1 ≤ sizeLine; decide, fun l hl => ?_⟩⟩
    have sl := same_new (o := .lst [.int 0]) hl
    refine ⟨p, l, _, _, rfl, rfl, sl _ _ upd_same, upd_same, ?_, fun cl hcl => ?_⟩
    · have := (cut8 ns).1
      have h2 : 9 ≤ sizeLine := by decide
      show _ + 1 ≤ sizeLine
      omega
    refine ⟨cl, rfl, ⟨_, lstL upd_same⟩, ?_⟩
    refine for_list (xs := cutV (ns.map V.int) none (some 8) ++ [V.int 0]) (fun i σ H' => ∃ z1 z2 z3 z4 z5 z6, σ = [some (.ref a), z1, z2, z3, z4, z5, z6] ∧ H' cl = some (.lst (cutV (ns.map V.int) none (some 8) ++ [V.int 0]))) ⟨none, none, none, none, none, none, rfl, upd_same⟩ (fun i σ H' _ hp => ?_) (fun i v σ H3 hx hp => ?_) (fun σ H' hp => ?_)
    · obtain ⟨_, _, _, _, _, _, _, e⟩ := hp
      exact lstL e
    · obtain ⟨z1, z2, z3, z4, z5, z6, rfl, ecl⟩ := hp
      obtain ⟨z, rfl⟩ := (cut8 ns).2 v (List.mem_of_getElem? hx)
      refine ⟨_, rfl, z, rfl, fun t H4 s4 n4 b4 => ?_⟩
      show Ends.nx _ [some (.ref a), some (.int z), some (.ref t), z3, z4, z5, z6] H4
      have ecl4 := s4 _ _ ecl
      have clt : cl ≠ t := ne_of_none ecl n4
      refine ⟨by show 4 ≤ sizeLine; decide, fun l6 hl6 => ⟨_, rfl, t, 4, 0, rfl, b4.same (same_new hl6), by decide, by decide, by decide, fun u H5 k5 b5 u0 u1 => ?_⟩⟩
      have l6t : l6 ≠ t := fun z => by
        obtain ⟨A, B, e1, _⟩ := b4
        rw [z, e1] at hl6
        cases hl6
      obtain ⟨S, em, m1, m2, m3⟩ := let_at u0 u1
      refine ⟨l6, _, _, _, rfl, rfl, lstL (k5 _ _ l6t upd_same), em, ?_⟩
      show Ends.nx _ [some (.ref a), some (.int z), some (.ref t), some (.str S), z4, z5, z6] H5
      refine ⟨_, rfl, _, rfl, t, 40, 11, S, 1, 1, rfl, by decide, b5, by decide, by decide, by decide, m1, m2, m3, by decide, by decide, fun wl p c' H6 k6 b6 c1 c2 pok plev p1 pm nwl ewl => ?_⟩
      show Ends.nx _ [some (.ref a), some (.int z), some (.ref t), some (.str S), some (.ref wl), z5, z6] H6
      have ecl6 := k6 _ _ clt (k5 _ _ clt (same_new hl6 _ _ ecl4))
      have hc' : c' ≤ 1000 := by omega
      clear k6 k5 b5 em ecl4 s4 n4 hl6 l6t nwl ecl hx
      dsimp only
      refine seq_via (Good := fun σ H' => ∃ pr, σ = [some (.ref a), some (.int z), some (.ref t), some (.str S), some (.ref wl), some (.ref pr), z6] ∧ Same H6 H' ∧ IsP K H' pr p) (fun D2 hD2 => ?_) (fun σ H7 g => ?_)
      · refine ⟨⟨_, rfl⟩, _, rfl, _, wl, p.words.map Wd.str, rfl, rfl, .inl (lstL (by rw [← wstrs_map]; exact ewl)), fits_p pok (by omega), fin_p pok (by omega) (by omega) (fun r H' s' hp => hD2 _ _ ?_) (join_eq _ _)⟩
        exact ⟨r, rfl, s', hp⟩
      obtain ⟨pr, rfl, s7, hp⟩ := g
      have b7 := b6.same s7
      have ewl7 := s7 _ _ ewl
      have ecl7 := s7 _ _ ecl6
      clear b6 ewl ecl6 s7
      refine seq_via (Good := fun σ H' => ∃ z6, σ = [some (.ref a), some (.int z), some (.ref t), some (.str S), some (.ref wl), some (.ref pr), z6] ∧ Same H7 H') (fun D2 hD2 => ?_) (fun σ H8 g => ?_)
      · refine ⟨by show 1 ≤ sizeLine; decide, fun l1 h1 => ⟨by show 1 ≤ sizeLine; decide, fun t1 h2 => fun d1 h3 => ⟨_, rfl, by show 10 ≤ sizeLine; decide, fun l hl => ⟨l, rfl, ⟨_, lstL upd_same⟩, ?_⟩⟩⟩⟩
        have e_l1 : (upd (upd (upd (upd H7 l1 (.lst [.str "f"])) t1 (.tup [.str "f"])) d1 (.dK [])) l (.lst [.non, .str "f", .str "", .int 0, .int 1, .bl true, .ref l1, .ref t1, .ref d1, .ref wl])) l1 = some (.lst [.str "f"]) := ((same_new h2).trans ((same_new h3).trans (same_new hl))) _ _ upd_same
        have e_t1 : (upd (upd (upd (upd H7 l1 (.lst [.str "f"])) t1 (.tup [.str "f"])) d1 (.dK [])) l (.lst [.non, .str "f", .str "", .int 0, .int 1, .bl true, .ref l1, .ref t1, .ref d1, .ref wl])) t1 = some (.tup [.str "f"]) := ((same_new h3).trans (same_new hl)) _ _ upd_same
        have e_d1 : (upd (upd (upd (upd H7 l1 (.lst [.str "f"])) t1 (.tup [.str "f"])) d1 (.dK [])) l (.lst [.non, .str "f", .str "", .int 0, .int 1, .bl true, .ref l1, .ref t1, .ref d1, .ref wl])) d1 = some (.dK []) := (same_new hl) _ _ upd_same
        have e_l : (upd (upd (upd (upd H7 l1 (.lst [.str "f"])) t1 (.tup [.str "f"])) d1 (.dK [])) l (.lst [.non, .str "f", .str "", .int 0, .int 1, .bl true, .ref l1, .ref t1, .ref d1, .ref wl])) l = some (.lst [.non, .str "f", .str "", .int 0, .int 1, .bl true, .ref l1, .ref t1, .ref d1, .ref wl]) := upd_same
        have S0 : Same H7 (upd (upd (upd (upd H7 l1 (.lst [.str "f"])) t1 (.tup [.str "f"])) d1 (.dK [])) l (.lst [.non, .str "f", .str "", .int 0, .int 1, .bl true, .ref l1, .ref t1, .ref d1, .ref wl])) := (same_new h1).trans ((same_new h2).trans ((same_new h3).trans (same_new hl)))
        generalize (upd (upd (upd (upd H7 l1 (.lst [.str "f"])) t1 (.tup [.str "f"])) d1 (.dK [])) l (.lst [.non, .str "f", .str "", .int 0, .int 1, .bl true, .ref l1, .ref t1, .ref d1, .ref wl])) = G at S0 e_l1 e_t1 e_d1 e_l ⊢
        have no : ∀ v ∈ ([.non, .str "f", .str "", .int 0, .int 1, .bl true, .ref l1, .ref t1, .ref d1, .ref wl] : List V), Kd K G v := by
          intro v hv
          simp only [List.mem_cons, List.not_mem_nil, or_false] at hv
          rcases hv with rfl | rfl | rfl | rfl | rfl | rfl | rfl | rfl | rfl | rfl
          · exact ⟨"NoneType", fun _ _ => .base (.base .non), by decide⟩
          · exact ⟨"str", fun _ _ => .base (.base (.str _)), by decide⟩
          · exact ⟨"str", fun _ _ => .base (.base (.str _)), by decide⟩
          · exact kdI 0
          · exact kdI 1
          · exact kdB true
          · exact ⟨"list", fun _ s => .base (.base (.lst (s _ _ e_l1))), by decide⟩
          · exact ⟨"tuple", fun _ s => .base (.base (.tup (s _ _ e_t1))), by decide⟩
          · exact ⟨"dict", fun _ s => .base (.base (.dK (s _ _ e_d1))), by decide⟩
          · exact ⟨"list", fun _ s => .base (.base (.lst (s _ _ (S0 _ _ ewl7)))), by decide⟩
        refine for_list (xs := [.non, .str "f", .str "", .int 0, .int 1, .bl true, .ref l1, .ref t1, .ref d1, .ref wl]) (fun i σ H' => ∃ z6, σ = [some (.ref a), some (.int z), some (.ref t), some (.str S), some (.ref wl), some (.ref pr), z6] ∧ Same G H') ⟨_, rfl, fun _ _ e => e⟩ (fun i σ H' _ hp => ?_) (fun i v σ H' hx hp => ?_) (fun σ H' hp => ?_)
        · obtain ⟨z1, rfl, s⟩ := hp
          exact lstL (s _ _ e_l)
        · obtain ⟨z1, rfl, s⟩ := hp
          have kd := (no v (List.mem_of_getElem? hx)).same s
          exact ⟨_, rfl, _, rfl, 0, _, _, _, rfl, .addN ((hp.same S0).same s) kd, fun H2 s2 => ⟨rfl, false, by decide +kernel, iteF (fin_p (p := .nil) trivial (by decide) (by decide) (fun r H3 s3 hp3 => ⟨_, rfl, 0, _, _, _, rfl, .addN hp3 ((kd.same s2).same s3), fun H4 s4 => ⟨rfl, false, by decide +kernel, iteF ⟨_, rfl, s.trans (s2.trans (s3.trans s4))⟩⟩⟩) rfl)⟩⟩
        · obtain ⟨z1, rfl, s⟩ := hp
          exact hD2 _ _ ⟨z1, rfl, S0.trans s⟩
      obtain ⟨z7, rfl, s8⟩ := g
      refine seq_via (Good := fun σ H' => ∃ z6, σ = [some (.ref a), some (.int z), some (.ref t), some (.str S), some (.ref wl), some (.ref pr), z6] ∧ Same H7 H') (fun D2 hD2 => ?_) (fun σ H9 g => ?_)
      · refine ⟨_, rfl, _, rfl, _, _, rfl, rfl, pw_ok (by decide) (by decide), _, _, rfl, rfl, _, _, rfl, rfl, pw_ok (by decide) (by decide), _, _, rfl, rfl, _, _, rfl, rfl, pw_ok (by decide) (by decide), ?_⟩
        refine ⟨by show 1 ≤ sizeLine; decide, fun t1 h1 => ⟨by show 0 ≤ sizeLine; decide, fun l1 h2 => fun d1 h3 => ⟨_, rfl, by show 13 ≤ sizeLine; decide, fun l hl => ⟨l, rfl, ⟨_, lstL upd_same⟩, ?_⟩⟩⟩⟩
        have hp8 := hp.same s8
        have s78 := s8
        have e_t1 : (upd (upd (upd (upd H8 t1 (.tup [.int 2])) l1 (.lst [])) d1 (.dK [])) l (.lst [.non, .int (-1), .int (-2), .int (0 - 10 ^ (30 : Int).toNat), .int (10 ^ (30 : Int).toNat + 1), .int (10 ^ (60 : Int).toNat), .bl true, .bl false, .str "2", .ref t1, .ref l1, .ref d1, .ref pr])) t1 = some (.tup [.int 2]) := ((same_new h2).trans ((same_new h3).trans (same_new hl))) _ _ upd_same
        have e_l1 : (upd (upd (upd (upd H8 t1 (.tup [.int 2])) l1 (.lst [])) d1 (.dK [])) l (.lst [.non, .int (-1), .int (-2), .int (0 - 10 ^ (30 : Int).toNat), .int (10 ^ (30 : Int).toNat + 1), .int (10 ^ (60 : Int).toNat), .bl true, .bl false, .str "2", .ref t1, .ref l1, .ref d1, .ref pr])) l1 = some (.lst []) := ((same_new h3).trans (same_new hl)) _ _ upd_same
        have e_d1 : (upd (upd (upd (upd H8 t1 (.tup [.int 2])) l1 (.lst [])) d1 (.dK [])) l (.lst [.non, .int (-1), .int (-2), .int (0 - 10 ^ (30 : Int).toNat), .int (10 ^ (30 : Int).toNat + 1), .int (10 ^ (60 : Int).toNat), .bl true, .bl false, .str "2", .ref t1, .ref l1, .ref d1, .ref pr])) d1 = some (.dK []) := (same_new hl) _ _ upd_same
        have e_l : (upd (upd (upd (upd H8 t1 (.tup [.int 2])) l1 (.lst [])) d1 (.dK [])) l (.lst [.non, .int (-1), .int (-2), .int (0 - 10 ^ (30 : Int).toNat), .int (10 ^ (30 : Int).toNat + 1), .int (10 ^ (60 : Int).toNat), .bl true, .bl false, .str "2", .ref t1, .ref l1, .ref d1, .ref pr])) l = some (.lst [.non, .int (-1), .int (-2), .int (0 - 10 ^ (30 : Int).toNat), .int (10 ^ (30 : Int).toNat + 1), .int (10 ^ (60 : Int).toNat), .bl true, .bl false, .str "2", .ref t1, .ref l1, .ref d1, .ref pr]) := upd_same
        have S0 : Same H8 (upd (upd (upd (upd H8 t1 (.tup [.int 2])) l1 (.lst [])) d1 (.dK [])) l (.lst [.non, .int (-1), .int (-2), .int (0 - 10 ^ (30 : Int).toNat), .int (10 ^ (30 : Int).toNat + 1), .int (10 ^ (60 : Int).toNat), .bl true, .bl false, .str "2", .ref t1, .ref l1, .ref d1, .ref pr])) := (same_new h1).trans ((same_new h2).trans ((same_new h3).trans (same_new hl)))
        generalize (upd (upd (upd (upd H8 t1 (.tup [.int 2])) l1 (.lst [])) d1 (.dK [])) l (.lst [.non, .int (-1), .int (-2), .int (0 - 10 ^ (30 : Int).toNat), .int (10 ^ (30 : Int).toNat + 1), .int (10 ^ (60 : Int).toNat), .bl true, .bl false, .str "2", .ref t1, .ref l1, .ref d1, .ref pr])) = G at S0 e_t1 e_l1 e_d1 e_l ⊢
        have no : ∀ v ∈ ([.non, .int (-1), .int (-2), .int (0 - 10 ^ (30 : Int).toNat), .int (10 ^ (30 : Int).toNat + 1), .int (10 ^ (60 : Int).toNat), .bl true, .bl false, .str "2", .ref t1, .ref l1, .ref d1, .ref pr] : List V), Bad2 K G v := by
          intro v hv
          simp only [List.mem_cons, List.not_mem_nil, or_false] at hv
          rcases hv with rfl | rfl | rfl | rfl | rfl | rfl | rfl | rfl | rfl | rfl | rfl | rfl | rfl
          · exact bad_kd (Ty := "NoneType") (fun _ _ => .base (.base .non)) (by decide) (by decide) (by decide)
          · exact bad_int _ (by decide)
          · exact bad_int _ (by decide)
          · exact bad_int _ (by rw [p30]; decide)
          · exact bad_int _ (by rw [p30]; decide)
          · exact bad_int _ (by rw [p60]; decide)
          · exact .inl ⟨none, fun _ _ => .bl _, fun _ _ => kdB _, fun _ => rfl⟩
          · exact .inl ⟨none, fun _ _ => .bl _, fun _ _ => kdB _, fun _ => rfl⟩
          · exact bad_kd (Ty := "str") (fun _ _ => .base (.base (.str _))) (by decide) (by decide) (by decide)
          · exact bad_kd (Ty := "tuple") (fun _ s => .base (.base (.tup (s _ _ e_t1)))) (by decide) (by decide) (by decide)
          · exact bad_kd (Ty := "list") (fun _ s => .base (.base (.lst (s _ _ e_l1)))) (by decide) (by decide) (by decide)
          · exact bad_kd (Ty := "dict") (fun _ s => .base (.base (.dK (s _ _ e_d1)))) (by decide) (by decide) (by decide)
          · exact .inr ⟨pr, p, rfl, hp8.same S0⟩
        refine for_list (xs := [.non, .int (-1), .int (-2), .int (0 - 10 ^ (30 : Int).toNat), .int (10 ^ (30 : Int).toNat + 1), .int (10 ^ (60 : Int).toNat), .bl true, .bl false, .str "2", .ref t1, .ref l1, .ref d1, .ref pr]) (fun i σ H' => ∃ z6, σ = [some (.ref a), some (.int z), some (.ref t), some (.str S), some (.ref wl), some (.ref pr), z6] ∧ Same G H') ⟨_, rfl, fun _ _ e => e⟩ (fun i σ H' _ hp => ?_) (fun i v σ H' hx hp => ?_) (fun σ H' hp => ?_)
        · obtain ⟨z1, rfl, s⟩ := hp
          exact lstL (s _ _ e_l)
        · obtain ⟨z1, rfl, s⟩ := hp
          have kd := (no v (List.mem_of_getElem? hx)).same s
          exact ⟨_, rfl, _, rfl, 1, _, _, _, rfl, kd.ask ((hp8.same S0).same s), fun H2 s2 => ⟨rfl, false, by decide +kernel, iteF (fin_p (p := .nil) trivial (by decide) (by decide) (fun r H3 s3 hp3 => ⟨_, rfl, 1, _, _, _, rfl, ((kd.same s2).same s3).ask hp3, fun H4 s4 => ⟨rfl, false, by decide +kernel, iteF ⟨_, rfl, s.trans (s2.trans (s3.trans s4))⟩⟩⟩) rfl)⟩⟩
        · obtain ⟨z1, rfl, s⟩ := hp
          exact hD2 _ _ ⟨z1, rfl, s78.trans (S0.trans s)⟩
      obtain ⟨z8, rfl, s9⟩ := g
      refine seq_via (Good := fun σ H' => σ = [some (.ref a), some (.int z), some (.ref t), some (.str S), some (.ref wl), some (.ref pr), z8] ∧ Same H7 H') (fun D2 hD2 => ?_) (fun σ H10 g => ?_)
      · have hp9 := hp.same s9
        obtain ⟨_, _, _, dd, wd, tt, us, ep, _⟩ := id hp9
        refine ⟨_, rfl, 2, _, _, _, rfl, .inv hp9, fun H10 s10 => ?_⟩
        have hp10 := hp9.same s10
        have ep10 := s10 _ _ ep
        have fin : D2.nx [some (V.ref a), some (V.int z), some (V.ref t), some (V.str S), some (V.ref wl), some (V.ref pr), z8] H10 := hD2 _ _ ⟨rfl, s9.trans s10⟩
        by_cases cu : 117 ∈ (textOf p.words).cps.toList
        · have cu' := (text_has (by decide) pok).mp cu
          rw [if_pos (.inl cu')]
          exact ⟨_, rfl, pr, _, _, rfl, ep10, pr, p, rfl, hp10, 117, _, rfl, rfl, true, congrArg V.bl (decide_eq_true cu), iteT ⟨rfl, false, by decide +kernel, iteF fin⟩⟩
        · have cu' : ¬ 0 < p.cnt 117 := fun z => cu ((text_has (by decide) pok).mpr z)
          refine ⟨_, rfl, pr, _, _, rfl, ep10, pr, p, rfl, hp10, 117, _, rfl, rfl, false, congrArg V.bl (decide_eq_false cu), iteF ?_⟩
          by_cases cd : 100 ∈ (textOf p.words).cps.toList
          · have cd' := (text_has (by decide) pok).mp cd
            rw [if_pos (.inr cd')]
            exact ⟨_, rfl, pr, _, _, rfl, ep10, pr, p, rfl, hp10, 100, _, rfl, rfl, true, congrArg V.bl (decide_eq_true cd), iteT ⟨rfl, false, by decide +kernel, iteF fin⟩⟩
          · have cd' : ¬ 0 < p.cnt 100 := fun z => cd ((text_has (by decide) pok).mpr z)
            rw [if_neg (fun z => z.elim cu' cd')]
            exact ⟨_, rfl, pr, _, _, rfl, ep10, pr, p, rfl, hp10, 100, _, rfl, rfl, false, congrArg V.bl (decide_eq_false cd), iteF ⟨rfl, false, by decide +kernel, iteF fin⟩⟩
      obtain ⟨rfl, s10⟩ := g
      refine ⟨_, rfl, t, c', rfl, b7.same s10, by omega, fun H11 k11 => ⟨true, rfl, iteF ?_⟩⟩
      exact ⟨_, _, _, _, _, _, rfl, k11 _ _ clt (s10 _ _ ecl7)⟩
    · exact hD _ _ trivial

end
end K04P

set_option Elab.async false
set_option linter.all false
set_option maxRecDepth 100000
set_option maxHeartbeats 0
open PySem PySem.W PySem.Calls PyProof.Rows
theorem PySem.Challenge.cw_plotpens_k04_operator_errors_holds : PySem.Challenge.rw_plotpens_k04_operator_errors.Holds := by
  w_on; o_law
  refine HandSHeadRun.head_any (r := OpenLaw.row PySem.Challenge.rw_plotpens_k04_operator_errors) (q := view (OpenLaw.row PySem.Challenge.rw_plotpens_k04_operator_errors).prog [76]) (H := K04.hk) (ob := K04.ob) (M := 12000) (loose := K04.names) (d := HandSHeadRun.topDef (OpenLaw.row PySem.Challenge.rw_plotpens_k04_operator_errors).prog 76) (kwd := []) K04.ob_eq
    (by kernel_rfl) (fun s => by kernel_rfl) K04.run (by kernel_rfl) (by kernel_rfl) (by kernel_rfl) (by rfl) (by first | assumption | decide +kernel) (by decide +kernel) ⟨rfl, rfl, rfl, rfl, rfl, by decide +kernel⟩ ?hw ?hc
  case hw => w_witness2
  case hc =>
    refine RT.walk_ofG (l := PySem.Challenge.rw_plotpens_k04_operator_errors) (n := 63) (k := 24) (x := "script") (CX := fun _ => L2.CX0) rfl (by decide) (by kernel_rfl) ⟨rfl, by decide, by decide⟩ ?F (fun _ _ _ _ _ z => z)
    intro w mg fa h Y G hmg0
    obtain ⟨K, KX, c⟩ := Y
    have hmg : mg ("law" : PySem.Str) = some (.ref fa) := by
      have e : (HandSHeadRun.topDef (OpenLaw.row PySem.Challenge.rw_plotpens_k04_operator_errors).prog 76).name = ("law" : PySem.Str) := by kernel_rfl
      rw [← e]
      exact hmg0
    have T := K04.tx_of KX G c.a
    obtain ⟨D⟩ := K04.ds_of c.a
    have e := hmg.symm.trans T.g_law
    cases e
    have b := L2.FunD.bindsA (ps := ["script"]) D.F_law fun _ _ _ _ _ _ us hl => match us, hl with | [_], _ => rfl
    exact ⟨K, D.fd_law, K04P.spLaw K, KX, fun s v => b s [v] rfl, fun H a ns hl _ hS => ⟨a, ns, rfl, hS, fun _ => rfl⟩, fun base _ _ => .of (K04P.ok_law D T (c.tab 0 rfl))⟩
