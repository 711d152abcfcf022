import PyProof.Rows.All
import Wide.All
import OpenK.AllK
import Wide.FinOn
import HandS.ForMost
import HandS.Exc
import HandS.ExcCtx
import HandS.TryOnly
import HandS.ExcInit
import HandS.IsInst
import HandS.ExcIs
import HandS.ExcField
import HandS.SortKw
import HandS.FStr
import HandS.Wide
import KE.DataMinMax
import PyProof.StrBlock2
import PyProof.Rows.RuleB_pow
import HandS.SlotsOwn
import HandS.Property
import HandS.OwnEq
import KE.KOpsOwn
import OpenK.KOps
import HandS.WordsExc
import HandS.Defaults
import HandS.EndBits
import KE.KCallOwn
import PyProof.InstEq
import KE.KStateDown
import Lean
import HandS.Head0
import HandS.Head1
import HandS.Head2
import HandS.HeadEnd
import HandS.HeadHook1
import HandS.HeadHook2
import HandS.Style
import HandS.Comp
import PySem.Challenge.RW_plotpens_k13_motions_put_together
set_option Elab.async false
set_option linter.all false
set_option maxRecDepth 100000
set_option maxHeartbeats 4000000
/-! a try whose clause keeps the exception: behind it the exception stands tracked -/
namespace RT
open PySem PySem.Spec PyProof.Rows L2 L2N
/-- an exception that was caught, at a: its class, its own dict -/
def ExT (a : Addr) (cls : Value) (d : Option Addr) : HO := .ext fun h => ∃ (oe : Obj) (vs : Array Value), h.get? a = some oe ∧ oe.cls = cls ∧ oe.dict = d ∧ oe.data = .fields vs
theorem exT_ok {P : Program} {w : World} {H : Hp} {h : Heap} {a : Addr} {cls : Value} {d : Option Addr} {oe : Obj} {vs : Array Value} (e : h.get? a = some oe) (z : oe.cls = cls) (z2 : oe.dict = d) (dd : oe.data = .fields vs) : ObjOk P w H h a (ExT a cls d) :=
  ⟨⟨oe, vs, e, z, z2, dd⟩, ⟨oe, e⟩, fun _ _ ⟨o, v, q, r⟩ k => ⟨o, v, k o q, r⟩⟩
section
variable {X : Cx} {pins : List (Addr × Obj)} {σ : L2.St} {H : Hp} {s : Shared}
theorem Inv.trackX {a : Addr} {o : HO} {oe : Obj} (I : Inv X pins σ H s) (he : s.heap.get? a = some oe) (hn : H a = none) (n0 : X.s_0.heap.get? a = none) (nL : a ≠ X.env.locals)
    (nC : ∀ x c, X.env.cells.lookup x = some c → c ≠ a) (nP : ∀ p ∈ X.pn ++ pins, p.1 ≠ a) (new : ObjOk X.prog X.w (upd H a o) s.heap a o) : Inv X pins σ (upd H a o) s := by
  have ne0 : ∀ b u, X.s_0.heap.get? b = some u → b ≠ a := fun b u e z => by
    rw [z, n0] at e
    cases e
  have neH : ∀ b u, H b = some u → b ≠ a := fun b u e z => by
    rw [z, hn] at e
    cases e
  refine ⟨I.ok, I.os, I.bare, ⟨I.base.keep, I.base.slot, fun b u e n hx => ?_, I.base.there, fun b xs e => ?_, fun b u xs e => ?_, fun b ps e => ?_⟩, I.loc, I.cell, ?_, fun x c e => ?_, fun p hp => ?_, fun b u e => ?_, I.len⟩
  · rw [upd_ne (ne0 b u e)]
    exact I.base.free b u e n hx
  · have q := I.base.tups b xs e
    rw [upd_ne (neH b _ q)]
    exact q
  · have q := I.base.frzs b u xs e
    rw [upd_ne (neH b _ q)]
    exact q
  · obtain ⟨m, q⟩ := I.base.tbls b ps e
    refine ⟨m, ?_⟩
    rw [upd_ne (neH b _ q)]
    exact q
  · rw [upd_ne (Ne.symm nL)]
    exact I.free
  · rw [upd_ne (nC x c e)]
    exact I.freeC x c e
  · obtain ⟨q1, q2, q3, q4, q5⟩ := I.pin p hp
    refine ⟨q1, ?_, q3, q4, q5⟩
    rw [upd_ne (nP p hp)]
    exact q2
  · by_cases hb : b = a
    · subst hb
      rw [upd_same] at e
      cases e
      exact new
    · rw [upd_ne hb] at e
      refine (I.hok b u e).stay (fun c v _ q => q) (fun c q => ?_) fun c xs q => ?_
      · rw [upd_ne (neH c _ q)]
        exact q
      · rw [upd_ne (neH c _ q)]
        exact q
end
/-- as wAs, but behind the suite the exception is tracked -/
def wAsT (K : PySem.W.Frag) (c : Value) (i : Nat) (ts : Addr → Value → Option Addr → TS) (Wout : WX) (D : Ends) : WX := fun cls d σ H =>
  ∃ b, PySem.W.exmOne K cls c = some b ∧ (b = true → ∀ a, H a = none → ts a cls d { nx := fun σ' H' => D.nx (σ'.set i none) (upd H' a (ExT a cls d)), rt := D.rt, bk := fun σ' H' => D.bk (σ'.set i none) H', ct := fun σ' H' => D.ct (σ'.set i none) H' } (σ.set i (some (.ref a))) H) ∧
    (b = false → Wout cls d σ H)
section
variable {X : Cx} {body : List Stmt} {pos pos' np : Pos} {tb : WX → TS} {Wout : WX} {i : Nat} {n x : Str} {c : Value} {b₀ : Stmt} {suite : List Stmt} {ts : Addr → Value → Option Addr → TS}
theorem ps_try_asT (hs : X.stack = X.env :: X.outer) (hf : X.env.frame = some X.env.locals) (hex : X.ex = []) (hN : X.N.Nodup) (hi : X.N[i]? = some n) (hln : X.env.kindOf n = some .local) (hc : Names X x c) (tk : L2N.Takes X Wout)
    (hb : ∀ (W : WX) (pn : List (Addr × Obj)) (xe : Value → Shared → Prop), L2N.Takes (X.tr pn xe) W → PassesOwn (model X.prog X.w) X.A X.env xe → PSs (X.tr pn xe) body (tb W))
    (hsu : ∀ (a : Addr) (oe : Obj) (cls : Value) (d : Option Addr) (pn : List (Addr × Obj)), Zn cls d oe → (∃ vs, oe.data = .fields vs) → PSs (X.suite a ((a, oe) :: pn)) (b₀ :: suite) (ts a cls d)) :
    PS X (.Try body [.ExceptHandler (some (.Name x np)) (some n) (b₀ :: suite) pos'] [] [] pos) (fun D σ H => tb (wAsT X.K c i ts Wout D) D σ H) := by
  refine ⟨fun pins s σ H D I h => ?_⟩
  have okX := I.ok
  have frEq : X.A.frames = some (X.env :: X.outer) := by rw [okX.frames, hs]
  have locN : Loc X.env.scope n := .inl hln
  refine wpAny_Try_except ?_
  refine wpAny_mono ((hb (wAsT X.K c i ts Wout D) (X.pn ++ pins) (fun e s₁ => wpAny (model X.prog X.w) X.A (noteFrame e X.env) (fun _ s₂ => wpAny (model X.prog X.w) X.A (setFlight e none) (fun _ s₃ =>
    wpAny (model X.prog X.w) X.A (handleBy e X.env [.ExceptHandler (some (.Name x np)) (some n) (b₀ :: suite) pos']) (SP X pins D) X.xe s₃) X.xe s₂) X.xe s₁) (fun u s' wish => ?_) PassesOwn.looking).run [] s σ H D (I.toTry _) h) (fun f s1 spq => ?_) (fun e s1 he => he)
  · -- the catch
    obtain ⟨a, B, sI, pins', σ', H', cls, d, rfl, J0, botB, up, airA, frA, osE, agE, b, exB, yesB, noB⟩ := wish
    have J : Inv X pins σ' H' sI := J0.ofTry okX
    have airB : Sky B (X.env :: X.outer) a (Zn cls d) X.env.locals s'.heap := by rw [← hs]; exact airA
    show wpAny (model X.prog X.w) X.A (noteFrame (.ref a) X.env) _ _ _
    refine Sky.land Zn.steady frEq hf airB fun hpA flyA growA => ?_
    have JA : Inv X pins σ' H' { s' with heap := hpA } := J.landed botB flyA.1 (up.trans growA) osE agE
    obtain ⟨oA, fvA, atA, znA, flA⟩ := flyA.there
    have noFrame : ∀ {h : Heap} {o : Obj} {vs : Array Value}, h.FunFrames B (X.env :: X.outer) → h.get? a = some o → o.data = .fields vs → a ∉ frs (X.env :: X.outer) := fun {h o vs} ff e dd hmm => by
      obtain ⟨_, o', e', hnf⟩ := ff.mem hmm
      rw [e] at e'; cases e'
      exact hnf _ dd
    have offFr := noFrame flyA.2.2.1 atA flA
    have nL : a ≠ X.env.locals := fun z => offFr (List.mem_filterMap.mpr ⟨X.env, List.mem_cons_self, by rw [hf, z]⟩)
    have nF : a ∉ X.fs := fun hmm => by
      obtain ⟨e, he, q⟩ := List.mem_filterMap.mp hmm
      exact offFr (List.mem_filterMap.mpr ⟨e, List.mem_cons_of_mem _ he, q⟩)
    have nI : ∀ o, sI.heap.get? a = some o → False := fun o e => by
      have q := botB a o e (by rw [hs]; exact offFr)
      rw [flyA.2.1] at q
      cases q
    have n0 : X.s_0.heap.get? a = none := by
      cases e : X.s_0.heap.get? a with
      | none => rfl
      | some o =>
        obtain ⟨o', e'⟩ := J.base.there a o e (by rw [hex]; exact fun z => nomatch z)
        exact (nI o' e').elim
    have nC : ∀ x c, X.env.cells.lookup x = some c → c ≠ a := fun x c e z => by
      obtain ⟨v, o, ho, _⟩ := J.cell x c e
      rw [z] at ho
      exact nI o ho
    have nP : ∀ p ∈ X.pn ++ pins, p.1 ≠ a := fun p hp z => by
      have q := (J.pin p hp).1
      rw [z] at q
      exact nI _ q
    have SA := JA.suite atA flA frA nL nF
    refine wpAny_handleBy_cons (codeAny_handlers_test ?_) (by intro q; cases q)
    have lookT : PySem.W.Looks (model X.prog X.w) hpA (typeOf (.ref a)) cls := fun A Q E s k q => wpAny_typeOf_ref (k _ _ atA) (by rw [znA.1]; exact q)
    have lookM := PySem.W.exm_one (M := model X.prog X.w) (JA.kIn) lookT exB
    have asks : ∀ {Q : Value → Shared → Prop} {E : Value → Shared → Prop}, Q c { s' with heap := hpA } → wpAny (model X.prog X.w) (X.A.mark (some (.ref a))) (eval (.Name x np) X.env) Q E { s' with heap := hpA } := fun {Q E} q => by
      obtain ⟨hg, hdbg, hmm | ⟨hmm, hv, hnn⟩⟩ := hc
      · exact ld_glob (X := X.suite a ((a, oA) :: (X.pn ++ pins))) SA hg hmm q hdbg
      · exact ld_blt (X := X.suite a ((a, oA) :: (X.pn ++ pins))) SA hg hmm hv q hnn hdbg
    refine asks (lookM.here ?_)
    cases b with
    | true =>
      refine codeAny_handlers_suite_as ?_
      refine HandSPX.lands_againZ flyA fun hpB flyB growB => ?_
      have JB : Inv X pins σ' H' { s' with heap := hpB } := J.landed botB flyB.1 ((up.trans growA).trans growB) osE agE
      obtain ⟨oB, fvB, atB, znB, flB⟩ := flyB.there
      have SB4 := JB.suite atB flB frA nL nF
      refine store_ok (X := X.suite a ((a, oB) :: (X.pn ++ pins))) (v := .ref a) SB4 hN hi locN rfl (fun sS SS => ?_) (.inr hln)
      refine wpAny_mono ((hsu a oB cls d (X.pn ++ pins) znB ⟨_, flB⟩).run [] sS _ H' _ SS (yesB rfl a frA)) (fun f sT spq => ?_) (fun _ _ z => False.elim z)
      have endO : ∀ {σT : L2.St} {HT : Hp} {Q : Shared → Prop}, Inv (X.suite a ((a, oB) :: (X.pn ++ pins))) [] σT HT sT → (∀ sU, Inv X pins (σT.set i none) HT sU → Q sU) →
          wpAny (model X.prog X.w) X.A (do bindName X.env n .none; unbindBehindTheSuite X.env n pos') (fun _ sU => Q sU) X.xe sT := fun {σT HT Q} ST hq => gone_ok (ST.unsuite okX) hN hi hln hq
      have endT : ∀ {σT : L2.St} {HT : Hp} {Q : Shared → Prop}, Inv (X.suite a ((a, oB) :: (X.pn ++ pins))) [] σT HT sT → (∀ sU, Inv X pins (σT.set i none) (upd HT a (ExT a cls d)) sU → Q sU) →
          wpAny (model X.prog X.w) X.A (do bindName X.env n .none; unbindBehindTheSuite X.env n pos') (fun _ sU => Q sU) X.xe sT := fun {σT HT Q} ST hq => by
        obtain ⟨p1, p2, _⟩ := ST.pin (a, oB) (List.mem_append_left _ List.mem_cons_self)
        refine gone_ok (Inv.trackX (ST.unsuite okX) p1 p2 n0 nL nC nP (exT_ok p1 znB.1 znB.2.1 flB)) hN hi hln hq
      cases f with
      | next =>
        obtain ⟨σT, HT, ST, qT⟩ := spq
        exact endT ST fun sU JU => ⟨_, _, JU, qT⟩
      | brk =>
        obtain ⟨σT, HT, ST, qT⟩ := spq
        exact endO ST fun sU JU => ⟨_, _, JU, qT⟩
      | cont =>
        obtain ⟨σT, HT, ST, qT⟩ := spq
        exact endO ST fun sU JU => ⟨_, _, JU, qT⟩
      | ret u =>
        obtain ⟨vT, σT, HT, ST, rT, qT⟩ := spq
        exact endO ST fun sU JU => ⟨_, _, _, JU, rT, qT⟩
    | false =>
      show wpAny _ X.A (handleBy (.ref a) X.env []) _ _ _
      refine wpAny_handleBy_nil ?_
      obtain ⟨k1, k2, k3, oe, vs, T, oT, ts', he, hz, hd, h1, hr⟩ := id flyA
      unfold PySem.passOn
      refine wpAny_bind (wpAny_field he hd h1 ?_)
      rw [if_neg (show ¬ ((Value.ref T == Value.none) = true) from by simp)]
      have outW : wpAny (model X.prog X.w) X.A (setFlight (.ref a) X.env.frame) (fun _ s4 => wpAny (model X.prog X.w) X.A (throw (.ref a) : Sem Flow) (SP X pins D) X.xe s4) X.xe { s' with heap := hpA } := by
        rw [hf]
        refine HandSPX.setFlight_upZ flyA fun hpB heldB growB => wpAny_throw (tk _ _ ?_)
        exact ⟨a, B, sI, pins, σ', H', cls, d, rfl, J, botB, (up.trans growA).trans growB, .inr (.inr (by rw [hs]; exact heldB)), frA, osE, agE, noB rfl⟩
      first
        | exact wpAny_bind (wpAny_pure (wpAny_bind outW))
        | exact wpAny_bind outW
  · cases f with
    | next =>
      obtain ⟨σ', H', J0, q⟩ := spq
      exact wpAny_execs_nil ⟨σ', H', J0.ofTry okX, q⟩
    | brk =>
      obtain ⟨σ', H', J0, q⟩ := spq
      exact ⟨σ', H', J0.ofTry okX, q⟩
    | cont =>
      obtain ⟨σ', H', J0, q⟩ := spq
      exact ⟨σ', H', J0.ofTry okX, q⟩
    | ret u =>
      obtain ⟨v, σ', H', J0, r, q⟩ := spq
      exact ⟨v, σ', H', J0.ofTry okX, r, q⟩
end
end RT

set_option Elab.async false
set_option linter.all false
set_option maxRecDepth 100000
set_option maxHeartbeats 4000000
/-! isinstance, fields of an exception that was caught and kept -/
namespace PySem.W
open PyProof.Rows
section
variable {prog : Program} {w : World} {A : Around} {E : Value → Shared → Prop} {s : Shared} {K : Frag} {x D : Addr} {ox : Obj} {od : Option Obj}
theorem kin_classX {Q : Option Value → Shared → Prop} (dGet : findIn K (.ref D) "__getattribute__" = some (some (.builtin "BaseException.__getattribute__"))) (dAlt : findIn K (.ref D) "__getattr__" = some none) (dSub : subIn K (.ref D) (.type "BaseException") = some true)
    (dDic : hasDictIn K D = true) (dCls : findIn K (.ref D) "__class__" = some (some (.builtin "object.__class__")))
    (dDes : specialIn K (.builtin "object.__class__") "__get__" = some (some (.builtin "getset_descriptor.__get__"))) (dTak : takesIn K (.builtin "object.__class__") = some true) (dMro : mroIn K D (.type "object") = some true)
    (X : K.In s.heap) (I : InstAt s.heap x ox D od) (h : Q (some (.ref D)) { s with toks := s.toks + 1 }) : wpAny (model prog w) A (getAttr? (.ref x) "__class__") Q E s := by
  have isC : (clsIn K D).isSome = true := by obtain ⟨cd, hc, _⟩ := any_some dDic; rw [hc]; rfl
  have found : findObj K D od "__class__" = some (.bind (.builtin "getset_descriptor.__get__") (.builtin "object.__class__")) := by
    cases od with
    | none => exact findObj_dataN isC dCls dDes dTak
    | some o => exact findObj_data isC dCls dDes dTak
  obtain ⟨hq0, g, d, t, os⟩ := s
  have k0 := I.type (M := model prog w)
  have k1 := looks_findIn (M := model prog w) X dGet
  have k2 := looks_findIn (M := model prog w) X dAlt
  have k3 := looks_find (M := model prog w) X I found
  have below : Looks (model prog w) hq0 (isInstance (.ref x) (.type "BaseException")) true := k0.andThen (looks_subIn X dSub)
  have z0 : (false && onTheHeap (Value.builtin "BaseException.__getattribute__")) = false := rfl
  have z2 : (Value.builtin "BaseException.__getattribute__" == Value.builtin "object.__getattribute__") = false := by decide +kernel
  have z1 : (onTheHeap (Value.ref D) && Value.builtin "BaseException.__getattribute__" == Value.builtin "object.__getattribute__") = false := by rw [z2]; rfl
  unfold getAttr? getAttrBy? getAttrBy
  refine wpAny_bind (wpAny_mkText (wpAny_bind (wpAny_attempt (wpAny_holding (wpAny_bind (k0.at (wpAny_bind (k1.at ?_))))))))
  show wpAny _ _ (if (onTheHeap (Value.ref D) && Value.builtin "BaseException.__getattribute__" == Value.builtin "object.__getattribute__") = true then _ else _) _ _ _
  rw [z1, if_neg Bool.false_ne_true]
  unfold getAttrByItsOwn hookBefore
  refine wpAny_bind ?_
  rw [if_pos (show onTheHeap (Value.ref D) = true from rfl)]
  refine k2.at ?_
  refine wpAny_bind (wpAny_attempt (wpAny_holding ?_))
  unfold callGetattribute
  rw [z0, if_neg Bool.false_ne_true]
  unfold boundAndCalled
  rw [PySem.F.excAttr_ValueError.ga.bind (.ref x)]
  refine wpAny_bind (wpAny_pure ?_)
  show wpAny _ _ (call (.builtin "BaseException.__getattribute__") [.ref x, .str "__class__" t]) _ _ _
  refine wpAny_call (codeAny_call_builtin PySem.F.excAttr_ValueError.ga.plain PySem.F.entry_bexc_ga ?_)
  refine @check_slot (model prog w) _ _ ⟨hq0, g, d, t + 1, os⟩ "BaseException.__getattribute__" "BaseException" "__getattribute__" (.ref x) [.str "__class__" t] [] _ (by decide +kernel) (by decide +kernel) below (PySem.F.args_bexc_ga (.ref x) (.str "__class__" t)) ?_
  unfold Builtin.«object.__getattribute__»
  refine wpAny_bind (wpAny_of_eq (a := ((Value.ref x : Value), [Value.str "__class__" t])) (by first | rfl | (simp only [slotArgs]; rfl)) ?_)
  refine wpAny_bind (wpAny_pure (wpAny_bind (k0.at (wpAny_bind (k3.at ?_)))))
  show wpAny _ _ (holding [Value.builtin "object.__class__"] (call (.builtin "getset_descriptor.__get__") [.builtin "object.__class__", .ref x, .ref D]) >>= ret) _ _ _
  refine wpAny_bind (wpAny_holding (wpAny_call (class_get (s := ⟨hq0, g, d, t + 1, os⟩) (ox := ox) (od := od) X I dMro ?_)))
  refine wpAny_pure ?_
  show wpAny _ _ (handedOut (.ref D)) _ _ _
  rw [handedOut_of (v := .ref D) rfl]
  first
    | exact wpAny_pure (wpAny_pure h)
    | exact wpAny_pure h
    | exact wpAny_pure (wpAny_bind (wpAny_pure (wpAny_pure h)))
theorem kitx_excX (dGet : findIn K (.ref D) "__getattribute__" = some (some (.builtin "BaseException.__getattribute__"))) (dAlt : findIn K (.ref D) "__getattr__" = some none) (dSub : subIn K (.ref D) (.type "BaseException") = some true) (dDic : hasDictIn K D = true) (dCls : findIn K (.ref D) "__class__" = some (some (.builtin "object.__class__")))
    (dDes : specialIn K (.builtin "object.__class__") "__get__" = some (some (.builtin "getset_descriptor.__get__"))) (dTak : takesIn K (.builtin "object.__class__") = some true) (dMro : mroIn K D (.type "object") = some true) :
    KitX K (.ref x) (.ref D) (fun h => InstAt h x ox D od) where
  ty := fun _ _ _ I => I.type
  it := fun _ _ X _ => by
    obtain ⟨cdx, hcx, _⟩ := any_some dDic
    unfold clsIn at hcx
    split at hcx
    · rename_i c1 d1 cd1 sl1 hob
      intro A1 Q1 E1 s1 k q
      unfold isType loadHead
      exact wpAny_bind (wpAny_loadPart (k _ _ (X _ _ hob)) (wpAny_pure q))
    · cases hcx
  ne := fun h tp dd its n sl X htup => by
    obtain ⟨cdx, hcx, _⟩ := any_some dDic
    refine Bool.eq_false_iff.mpr fun q => ?_
    have e : D = tp := Value.ref.inj (beq_iff_eq.mp q)
    subst e
    unfold clsIn at hcx
    split at hcx
    · rename_i c1 d1 cd1 sl1 hob
      have z := (X _ _ hob).symm.trans htup
      cases z
    · cases hcx
  ca := fun X I k => kin_classX dGet dAlt dSub dDic dCls dDes dTak dMro X I k
end
end PySem.W
namespace RT
open PySem PySem.Spec PyProof.Rows L2
/-- a value's type, exceptions that were kept too -/
inductive TyY (K : PySem.W.Frag) (H : Hp) : V → Value → Prop where
  | base {x : V} {t : Value} (h : TyX K H x t) : TyY K H x t
  | exc0 {a D : Addr} (e : H a = some (ExT a (.ref D) none)) (c : ExcC K D) : TyY K H (.ref a) (.ref D)
  | exc1 {a D dd : Addr} {fs : List (Str × V)} (e : H a = some (ExT a (.ref D) (some dd))) (e2 : H dd = some (.xd fs)) (c : ExcC K D) : TyY K H (.ref a) (.ref D)
theorem exT_get {P : Program} {w : World} {H : Hp} {h : Heap} {a : Addr} {cls : Value} {d : Option Addr} (I : HOk P w H h) (e : H a = some (ExT a cls d)) : ∃ (oe : Obj) (vs : Array Value), h.get? a = some oe ∧ oe.cls = cls ∧ oe.dict = d ∧ oe.data = .fields vs := (I a _ e).1
section
variable {X : Cx} {pins : List (Addr × Obj)} {σ : L2.St} {H : Hp} {s : Shared}
theorem inst_of {a D : Addr} {d : Option Addr} {od : Option Obj} (I : Inv X pins σ H s) (e : H a = some (ExT a (.ref D) d)) (h : match d, od with | none, none => True | some dd, some o => s.heap.get? dd = some o | _, _ => False) : ∃ oe vs, PySem.W.InstAt s.heap a oe D od ∧ oe.data = .fields vs := by
  obtain ⟨oe, vs, he, h1, h2, h3⟩ := exT_get I.hok e
  refine ⟨oe, vs, ⟨he, h1, by unfold PySem.W.notCls; rw [h3] <;> rfl, ?_⟩, h3⟩
  rw [h2]
  cases d with
  | none =>
    cases od with
    | none => trivial
    | some o => exact h
  | some dd =>
    cases od with
    | none => exact h
    | some o => exact h
theorem kit_ofY {x : V} {u t : Value} (I : Inv X pins σ H s) (rx : RelV x u) (ty : TyY X.K H x t) : ∃ P : Heap → Prop, PySem.W.KitX X.K u t P ∧ P s.heap ∧ u ≠ .builtin "__main__.__loader__#opaque" := by
  cases ty with
  | base h => exact kit_of I rx h
  | @exc0 a D e c =>
    cases (show u = Value.ref a from rx)
    obtain ⟨oe, vs, J, _⟩ := inst_of (od := none) I e trivial
    exact ⟨_, PySem.W.kitx_excX c.hg c.hk c.hs c.hd c.ha c.hn c.ht c.hm, J, fun z => nomatch z⟩
  | @exc1 a D dd fs e e2 c =>
    cases (show u = Value.ref a from rx)
    obtain ⟨mA, hns, hr⟩ := (show ObjOk X.prog X.w H s.heap dd (.xd fs) from I.hok dd _ e2)
    obtain ⟨od, ho, _⟩ := lookIn_ns hns
    obtain ⟨oe, vs, J, _⟩ := inst_of (od := some od) I e ho
    exact ⟨_, PySem.W.kitx_excX c.hg c.hk c.hs c.hd c.ha c.hn c.ht c.hm, J, fun z => nomatch z⟩
/-- isinstance(x, c); isinstance(x, (c1, c2, ..)) -/
def rIsiY (K : PySem.W.Frag) : List V → Hp → VK → Prop := fun xs H Q => ∃ (x c : V) (t u : Value) (b : Bool), xs = [x, c] ∧ ClsV c u ∧ TyY K H x t ∧ PySem.W.kitOne K t u = some b ∧ Q (.bl b) H
def rIsiTY (K : PySem.W.Frag) : List V → Hp → VK → Prop := fun xs H Q => ∃ (x : V) (tp : Addr) (cs : List V) (t : Value) (us : List Value) (b : Bool), xs = [x, .ref tp] ∧ H tp = some (.tup cs) ∧ Paired ClsV cs us ∧ TyY K H x t ∧ PySem.W.kitAny K t us = some b ∧ Q (.bl b) H
theorem vals2' {x y : V} {us : List Value} (r : Vals [x, y] us) : ∃ u v, us = [u, v] ∧ RelV x u ∧ RelV y v := Vals.two r
theorem call_isiY : CallR X (.builtin "isinstance") (rIsiY X.K) := by
  intro pins s σ H xs us Q I r h
  obtain ⟨x, c, t, u, b, rfl, k, ty, e, q⟩ := h
  obtain ⟨u1, u2, rfl, r1, r2⟩ := vals2' r
  have e2 := k.eq r2
  subst e2
  obtain ⟨P, Z, p, hx⟩ := kit_ofY I r1 ty
  exact PySem.W.kia_one Z I.kIn p e hx fun tk => ⟨.bl b, H, I.tok tk, rfl, q⟩
theorem call_isiTY : CallR X (.builtin "isinstance") (rIsiTY X.K) := by
  intro pins s σ H xs us Q I r h
  obtain ⟨x, tp, cs, t, ws, b, rfl, hT, k, ty, e, q⟩ := h
  obtain ⟨u1, u2, rfl, r1, r2⟩ := vals2' r
  cases (show u2 = Value.ref tp from r2)
  obtain ⟨P, Z, p, hx⟩ := kit_ofY I r1 ty
  obtain ⟨_, its, rv, o, h1, h2, n, h3⟩ := (show ObjOk X.prog X.w H s.heap tp (.tup cs) from I.hok tp _ hT)
  have e3 := ClsV.all k rv
  subst e3
  obtain ⟨oc, od, dt, sl⟩ := o
  simp only at h2 h3
  subst h2 h3
  exact PySem.W.kia_tup Z I.kIn p h1 e hx fun tk => ⟨.bl b, H, I.tok tk, rfl, q⟩
/-- e.f of a kept exception -/
def tXfT (K : PySem.W.Frag) (f : Str) (te : TE) : TE := fun σ H Q => te σ H fun x H1 => ∃ (a C dd : Addr) (fs : List (Str × V)) (v : V), x = .ref a ∧ XfC K C ∧ PySem.W.findIn K (.ref C) f = some none ∧ H1 a = some (ExT a (.ref C) (some dd)) ∧ H1 dd = some (.xd fs) ∧ fs.lookup f = some v ∧ Q v H1
theorem pe_xfT {e : Expr} {te : TE} {pos : Pos} {n : Str} (he : PE X e te) (hb : attributeBase e n X.env (eval e X.env) = eval e X.env := by rfl) : PE X (.Attribute e n pos) (tXfT X.K n te) := by
  refine ⟨fun pins s σ H Q I h => ?_⟩
  refine attr_of hb (thn (he.run pins s σ H _ I h) fun u s1 hh => ?_)
  obtain ⟨x, H1, I1, rx, a, C, dd, fs, v, ex, T, hno, ea, ed, l, q⟩ := hh
  subst ex
  obtain rfl : u = Value.ref a := rx
  obtain ⟨mA, hns, hr⟩ := (show ObjOk X.prog X.w H1 s1.heap dd (.xd fs) from I1.hok dd _ ed)
  obtain ⟨od, ho, hl⟩ := lookIn_ns hns
  obtain ⟨u, hu, ru⟩ := RelO.some_of (v := v) (o := mA n) (by rw [← l]; exact hr n)
  obtain ⟨oe, vs, J, _⟩ := inst_of (od := some od) I1 ea ho
  exact HandSPX.exc_get I1.kIn J T.ga T.gg T.exC (PySem.W.findObj_own T.hdC hno rfl (by rw [hl, hu])) (handed_of ru) ⟨v, H1, I1.tok _, ru, q⟩
end
end RT

set_option Elab.async false
set_option linter.all false
set_option maxRecDepth 100000
set_option maxHeartbeats 4000000
namespace RT
open PySem PySem.Spec PyProof.Rows L2
section
variable {X : Cx} {e : Expr} {es : List Expr} {ta : TA} {p1 p2 pos : Pos}
/-- Base.__init__(self, ..), Base an own class over ValueError without an __init__ -/
theorem pe_ceinit {pl : Sem Bool} {x : Str} {C0 : Addr} {mc : Value} (hg : Gl X x) (hm : X.mg x = some (.ref C0)) (ga : PySem.W.specialIn X.K (.ref C0) "__getattribute__" = some (some (.builtin "type.__getattribute__")))
    (ty : PySem.W.typeIn X.K (.ref C0) = some mc) (hr : PySem.W.readsIn X.K C0 mc = true) (vV : PySem.W.findCls X.K (.ref C0) mc "__init__" = some (.val (.builtin "ValueError.__init__"))) (ha : PA X (e :: es) ta)
    (hc : eval (.Call (.Attribute (.Name x p1) "__init__" p2) (e :: es) [] pos) X.env = (do
      let ov ← eval (.Name x p1) X.env
      standAt p2.atName
      let (f, first) ← holding [ov] (getMethod ov "__init__" pl)
      callWith pos f first (backTo pos (starEach (e :: es) X.env)) (backToKw pos (keywordEach [] X.env))) := by rfl)
    (he : starEach (e :: es) X.env = (false, eval e X.env) :: starEach es X.env := by rfl) (hpl : (backTo pos (starEach es X.env)).any (·.1) = false := by rfl) (hdb : (x == ("__debug__" : Str)) = false := by decide) :
    PE X (.Call (.Attribute (.Name x p1) "__init__" p2) (e :: es) [] pos) (tVeI X.K ta) := by
  refine ⟨fun pins s σ H Q I h => ?_⟩
  refine PySem.W.methodCall_KW (ld_glob I hg hm ?_ hdb) hc
  obtain ⟨m, fr⟩ := I.fr
  refine PySem.W.method_of_cls fr I.ok.mod.kin ga (PySem.W.cls_val fr I.ok.mod.kin ty hr vV (by decide +kernel) ?_)
  show wpAny _ _ (callWith pos (Value.builtin "ValueError.__init__") [] (backTo pos (starEach (e :: es) X.env)) []) _ _ _
  refine PyProof.Rows.callWith_method1 (thn (ha.run pos pins _ σ H _ (I.tok _) h) fun us s1 ⟨vs, H1, I1, r1, a, C, ws, ev, hl, T, ea, q⟩ => ?_) he hpl
  subst ev
  cases r1 with
  | @cons _ u0 _ ur ra rw' =>
    obtain rfl : u0 = Value.ref a := ra
    have hlen : ur.length ≤ sizeLine := by
      rw [← Paired.length rw', sizeLine_eq]
      omega
    exact oinit_ok T I1 ea hlen fun s' J => ⟨.non, H1, J, rfl, q⟩
end
end RT

set_option Elab.async false
set_option linter.all false
set_option maxRecDepth 100000
set_option maxHeartbeats 4000000
/-! further rules: repr of an int or None, {x} of None, max(.., default=), powers of greater ints, s * n -/
namespace RT
open PySem PySem.Spec PyProof.Rows L2
section
variable {X : Cx}
theorem vals1' {x : V} {us : List Value} (r : Vals [x] us) : ∃ u, us = [u] ∧ RelV x u := Vals.one r
/-- repr(n), repr(None) -/
def rRepr0 : List V → Hp → VK → Prop := fun xs H Q => (∃ i, xs = [.int i] ∧ i.natAbs.log2 < 1920 ∧ Q (.str (toString i)) H) ∨ (xs = [.non] ∧ Q (.str "None") H)
theorem call_repr0 : CallR X (.builtin "repr") rRepr0 := by
  intro pins s σ H xs us Q I r h
  rcases h with ⟨i, rfl, hz, q⟩ | ⟨rfl, q⟩
  · obtain ⟨u, rfl, t, rfl⟩ := vals1' r
    exact PySem.P.repr_of_int hz ⟨.str _, H, I.tok _, ⟨_, rfl⟩, q⟩
  · obtain ⟨u, rfl, e⟩ := vals1' r
    obtain rfl : u = Value.none := e
    exact PySem.P.repr_of_none ⟨.str _, H, I.tok _, ⟨_, rfl⟩, q⟩
/-- {x}: a text, an int, None -/
def tFmt0 (te : TE) : TE := fun σ H Q => te σ H fun x H1 => (∃ y : Str, x = .str y ∧ y.length ≤ sizeLine ∧ Q (.str y) H1) ∨ (∃ i : Int, x = .int i ∧ i.natAbs.log2 < 1920 ∧ Q (.str (toString i)) H1) ∨ (x = .non ∧ Q (.str "None") H1)
theorem pe_fmt0 {e : Expr} {te : TE} {pos : Pos} (he : PE X e te) : PE X (.FormattedValue e (-1) none pos) (tFmt0 te) := by
  refine ⟨fun pins s σ H Q I h => ?_⟩
  refine wpAny_FormattedValue_plain (thn (he.run pins s σ H _ I h) fun v s1 hv => ?_)
  obtain ⟨x, H1, I1, r1, q⟩ := hv
  rcases q with ⟨y, rfl, hz, q⟩ | ⟨i, rfl, hz, q⟩ | ⟨rfl, q⟩
  · obtain ⟨t, rfl⟩ := r1
    exact wpAny_formatField_str ⟨.str y, H1, I1, ⟨t, rfl⟩, q⟩ ⟨.str y, H1, I1.tok _, ⟨_, rfl⟩, q⟩ hz
  · obtain ⟨t, rfl⟩ := r1
    exact wpAny_formatField_int hz ⟨.str (toString i), H1, I1.tok _, ⟨_, rfl⟩, q⟩
  · obtain rfl : v = Value.none := r1
    exact wpAny_formatField_none ⟨.str _, H1, I1.tok _, ⟨_, rfl⟩, q⟩
/-- max(xs, default=d) of ints -/
def maxI (d : Int) : List Int → Int
  | [] => d
  | n :: ns => ns.foldl max n
def rMaxD (K : PySem.W.Frag) : List V → List V → Hp → VK → Prop := fun xs zs H Q => ∃ (a : Addr) (ns : List Int) (d : Int), xs = [.ref a] ∧ zs = [.int d] ∧ SqL K H a (ns.map V.int) ∧ Q (.int (maxI d ns)) H
theorem alike_ints (ns : List Int) : PySem.W.AlikeAll (ns.map PyData.int) := by
  refine ⟨fun x hx y hy => ?_, fun x hx => ?_⟩
  · obtain ⟨i, _, rfl⟩ := List.mem_map.mp hx
    obtain ⟨j, _, rfl⟩ := List.mem_map.mp hy
    rfl
  · obtain ⟨i, _, rfl⟩ := List.mem_map.mp hx
    exact fun z => nomatch z
theorem depth_ints : ∀ ns : List Int, PyData.depthAll (ns.map PyData.int) ≤ 1
  | [] => by simp [PyData.depthAll]
  | n :: ns => by
    have h := depth_ints ns
    simp only [List.map_cons, PyData.depthAll, PyData.depth]
    omega
theorem crk_maxD (hc : X.calm = true) (hu : X.A.units + 64 < cLine) : CallRK X (.builtin "max") ["default"] (rMaxD X.K) := by
  intro pins s σ H xs zs us ws Q I rx rz h
  obtain ⟨a, ns, d, rfl, rfl, hs, q⟩ := h
  obtain ⟨u, rfl, e⟩ := vals1' rx
  obtain rfl : u = Value.ref a := e
  obtain ⟨z, rfl, t, rfl⟩ := vals1' rz
  obtain ⟨its, rv, hl0, _⟩ := I.list hs
  have hl := hl0.isList
  have hr := PySem.W.readsAll_of_ints (h := s.heap) rv.ints
  have hd := depth_ints ns
  refine PySem.W.max_list_default (I.ok.hd hc) hl (by simpa using hr) (alike_ints ns) (by omega) (fun e0 h' tk k => ?_) fun y ys i v h' tk bs e hv hR k => ?_
  · have en : ns = [] := List.map_eq_nil_iff.mp e0
    subst en
    exact ⟨.int d, H, I.kept k, ⟨_, rfl⟩, q⟩
  · cases ns with
    | nil => cases e
    | cons n ns =>
      obtain ⟨rfl, rfl⟩ := List.cons.inj e
      rw [PySem.W.maxD_ints] at hR
      cases hR
      exact ⟨.int _, H, I.kept k, ⟨_, rfl⟩, q⟩
/-- a ** b of greater ints -/
def CPowW (i j : Int) : Prop := 0 ≤ j ∧ (Builtin.Int.intBits i : Int) * j ≤ 2 ^ 27
theorem op_powW : OpR X (binaryOp .Pow) (rI CPowW fun i j => .int (i ^ j.toNat)) := opI fun _ _ _ _ _ _ _ hc q => PyProof.Rows.pow_int hc.1 hc.2 q
/-- s * n -/
def rMulS : R2 := fun x y H Q => ∃ z n, x = .str z ∧ y = .int n ∧ PySem.MulOk z n ∧ Q (.str (PySem.Txt.mul z n)) H
theorem op_mulS : OpR X (binaryOp .Mult) rMulS := by
  intro pins s σ H x y v u Q I rx ry h
  obtain ⟨z, n, rfl, rfl, ok, q⟩ := h
  obtain ⟨t, rfl⟩ := rx
  obtain ⟨t', rfl⟩ := ry
  exact SB.mul ok fun t2 k => ⟨.str _, H, I.tok k, ⟨_, rfl⟩, q⟩
end
end RT

set_option Elab.async false
set_option linter.all false
set_option maxRecDepth 100000
set_option maxHeartbeats 4000000
/-! operators, len, in, == by an own class's methods -/
namespace PySem.W
open Lean Elab Tactic Meta PySem PySem.Calls PyProof.Rows
section
variable {prog : Program} {w : World} {A : Around} {E : Value → Shared → Prop} {s : Shared} {K : Frag} {x C L f : Addr} {h₀ : Heap} {m : Str → Option Value} {ox : Obj} {od : Option Obj} {T : String}
theorem rt_binT {op : Operator} {b : Value} {fo ro rc : Option Value} {Q : Value → Shared → Prop} (F : Fr h₀ L s.heap m) (X₀ : K.In h₀) (I : InstAt s.heap x ox C od) (bT : Looks (model prog w) s.heap (typeOf b) (.type T)) (cF : selfFirst K C = true)
    (sF : findIn K (.ref C) (PySem.dunder op.info.2) = some (some (.ref f))) (fF : isFn K (.ref f) = true) (rF : findIn K (.ref C) (dunderR op.info.2) = some rc) (pF : rc = none ∨ ∃ g : Addr, rc = some (.ref g))
    (h1 : findIn K (.type T) (PySem.dunder op.info.2) = some fo) (h2 : findIn K (.type T) (dunderR op.info.2) = some ro) (uF : subIn K (.type T) (.ref C) = some false)
    (h : wpAny (model prog w) A (call (.ref f) [.ref x, b]) (CmpBack Q) E s) : wpAny (model prog w) A (binaryOp op (.ref x) b) Q E s := by
  have X := X₀.keeps F.keep
  obtain ⟨cdx, more, cdE, mroE⟩ := ksp_first cF
  rcases inf : op.info with ⟨sym, nm1⟩
  rw [inf] at sF rF h1 h2
  dsimp only at sF rF h1 h2
  have tried := ksp_try X I sF fF h
  obtain ⟨hp0, g, d, tk0, os⟩ := s
  have k1 : Looks (model prog w) hp0 (typeOf (.ref x)) (.ref C) := I.type
  have k2 : Looks (model prog w) hp0 (typeOf b) (.type T) := bT
  have k3 : Looks (model prog w) hp0 (fillsNumberSlot (.ref C) nm1) true := fills_K X cdE mroE sF
  have k4 : Looks (model prog w) hp0 (fillsNumberSlot (.type T) nm1) ((fo.isSome && !isSeqSlot fo) || (ro.isSome && !isSeqSlot ro)) := ksp_fillsT X h1 h2
  have k5 : Looks (model prog w) hp0 (isSubtype (.type T) (.ref C)) false := looks_subIn X uF
  have k6 : Looks (model prog w) hp0 (numberSlotInPython (.ref C) nm1) true := ksp_inPy X sF rF pF
  have k7 : Looks (model prog w) hp0 (numberSlotInPython (.type T) nm1) false := Looks.of_pure rfl
  have k8 : Looks (model prog w) hp0 (typeLookup (.type T) (dunderR nm1)) ro := looks_findIn X h2
  generalize ((fo.isSome && !isSeqSlot fo) || (ro.isSome && !isSeqSlot ro)) = side at k4
  have apart : (Value.ref C == Value.type T) = false := Bool.eq_false_iff.mpr fun q => by cases beq_iff_eq.mp q
  simp only [binaryOp, inf]
  refine wpAny_holding (wpAny_bind ?_)
  unfold binaryOp1
  refine wpAny_bind (k1.at (wpAny_bind (k2.at (wpAny_bind (k3.at ?_)))))
  simp only [apart, Bool.false_eq_true, if_false]
  cases side with
  | false =>
    ksp_lk
    refine wpAny_mono tried (fun r s' hrr => ?_) fun _ _ e => e
    obtain ⟨v, rfl, hqq⟩ := hrr
    ksp_lk
    exact hqq
  | true =>
    ksp_lk
    refine wpAny_mono tried (fun r s' hrr => ?_) fun _ _ e => e
    obtain ⟨v, rfl, hqq⟩ := hrr
    ksp_lk
    exact hqq
end
end PySem.W
namespace RT
open PySem PySem.Spec PyProof.Rows L2
section
variable {X : Cx} {CX : CXT} {k : Nat} {C f : Addr} {fd : FuncData} {ps : List Str} {sp : Sp} {E : XK}
/-- what is asked of an own operator's class beside its method, for a right operand of a built-in type -/
structure RightT (K : PySem.W.Frag) (C : Addr) (op : Operator) (T : String) : Prop where
  r0 : PySem.W.findIn K (.ref C) (dunderR op.info.2) = some none
  t1 : ∃ fo, PySem.W.findIn K (.type T) (PySem.dunder op.info.2) = some fo
  t2 : ∃ ro, PySem.W.findIn K (.type T) (dunderR op.info.2) = some ro
  sb : PySem.W.subIn K (.type T) (.ref C) = some false
/-- x op y, x an instance of the class at C, y one too, or of a built-in type -/
def rBinO (K : PySem.W.Frag) (C : Addr) (op : Operator) (sp : Sp) (E : XK) : R2 := fun x y H Q => ∃ a dx fs, x = .ref a ∧ H a = some (.ins C dx fs) ∧ ((∃ b dy gs, y = .ref b ∧ H b = some (.ins C dy gs)) ∨ ∃ T, TyY K H y (.type T) ∧ RightT K C op T) ∧ sp [x, y] H Q E
theorem op_binO {op : Operator} (hc : PySem.W.selfFirst X.K C = true) (hm : Meth X.K C (PySem.dunder op.info.2) f) (F : FnOk X.prog X.w X.K X.mg X.base CX k f fd ps sp) (hr : Room k X.A) (hb : Binds X.K fd ps []) (hx : Passes CX X E) : OpR X (binaryOp op) (rBinO X.K C op sp E) := by
  intro pins s σ H x y v u Q I rx ry h
  obtain ⟨a, dx, fs, rfl, ea, ty, q⟩ := h
  cases (show v = Value.ref a from rx)
  obtain ⟨mA, O, _⟩ := ins_get I.hok ea
  obtain ⟨od, J, _⟩ := O.look
  obtain ⟨m, hF⟩ := I.fr
  have go : wpAny (model X.prog X.w) X.A (call (.ref f) [.ref a, u]) (PySem.W.CmpBack (EP X pins σ Q)) X.xe s := by
    refine wpAny_mono (run_fn (ds := []) (dvs := []) F hr hb .nil hx I (vs := [.ref a, y]) (.cons rfl (.cons ry .nil)) q) (fun w s' z => ?_) fun _ _ x => x
    obtain ⟨z', H', I', rz, qz⟩ := z
    exact SlX.cmpback rz ⟨z', H', I', rz, qz⟩
  rcases ty with ⟨b, dy, gs, rfl, eb⟩ | ⟨T, ty, R⟩
  · cases (show u = Value.ref b from ry)
    obtain ⟨mB, O', _⟩ := ins_get I.hok eb
    obtain ⟨od', J', _⟩ := O'.look
    exact PySem.W.binop_K hF I.ok.mod.kin J J'.type hc hm.at_ hm.fn go
  · obtain ⟨P, Z, p, _⟩ := kit_ofY I ry ty
    obtain ⟨fo, t1⟩ := R.t1
    obtain ⟨ro, t2⟩ := R.t2
    exact PySem.W.rt_binT hF I.ok.mod.kin J (Z.ty _ _ I.kIn p) hc hm.at_ hm.fn R.r0 (.inl rfl) t1 t2 R.sb go
/-- -x, ~x -/
def rUnO (C : Addr) (sp : Sp) (E : XK) : V → Hp → VK → Prop := fun x H Q => ∃ a dx fs, x = .ref a ∧ H a = some (.ins C dx fs) ∧ sp [x] H Q E
theorem un_negO (hm : Meth X.K C "__neg__" f) (F : FnOk X.prog X.w X.K X.mg X.base CX k f fd ps sp) (hr : Room k X.A) (hb : Binds X.K fd ps []) (hx : Passes CX X E) : UnR X (unaryOp .USub) (rUnO C sp E) := by
  intro pins s σ H x v Q I rx h
  obtain ⟨a, dx, fs, rfl, ea, q⟩ := h
  cases (show v = Value.ref a from rx)
  obtain ⟨mA, O, _⟩ := ins_get I.hok ea
  obtain ⟨od, J, _⟩ := O.look
  obtain ⟨m, hF⟩ := I.fr
  exact PySem.W.ksp_neg hF I.ok.mod.kin J hm.at_ hm.fn (run_fn (ds := []) (dvs := []) F hr hb .nil hx I (vs := [.ref a]) (.cons rfl .nil) q)
theorem un_invO (hm : Meth X.K C "__invert__" f) (F : FnOk X.prog X.w X.K X.mg X.base CX k f fd ps sp) (hr : Room k X.A) (hb : Binds X.K fd ps []) (hx : Passes CX X E) : UnR X (unaryOp .Invert) (rUnO C sp E) := by
  intro pins s σ H x v Q I rx h
  obtain ⟨a, dx, fs, rfl, ea, q⟩ := h
  cases (show v = Value.ref a from rx)
  obtain ⟨mA, O, _⟩ := ins_get I.hok ea
  obtain ⟨od, J, _⟩ := O.look
  obtain ⟨m, hF⟩ := I.fr
  exact PySem.W.ksp_inv hF I.ok.mod.kin J hm.at_ hm.fn (run_fn (ds := []) (dvs := []) F hr hb .nil hx I (vs := [.ref a]) (.cons rfl .nil) q)
/-- x == y by x's own __eq__, y of any kind that does not go first -/
def rEqO (K : PySem.W.Frag) (C : Addr) (sp : Sp) (E : XK) : R2 := fun x y H Q => ∃ a dx fs t, x = .ref a ∧ H a = some (.ins C dx fs) ∧ ((∃ b dy gs, y = .ref b ∧ H b = some (.ins C dy gs) ∧ t = .ref C) ∨ TyY K H y t) ∧ PySem.W.notFirst K C t = true ∧ sp [x, y] H Q E
theorem op_eqO {op : CmpOp} (hop : ∀ a b, compareOp op a b = richCompare op a b) (hm : Meth X.K C (cmpInfo op).2.1 f) (F : FnOk X.prog X.w X.K X.mg X.base CX k f fd ps sp) (hr : Room k X.A) (hb : Binds X.K fd ps []) (hx : Passes CX X E) :
    OpR X (compareOp op) (rEqO X.K C sp E) := by
  intro pins s σ H x y v u Q I rx ry h
  obtain ⟨a, dx, fs, t, rfl, ea, ty, hn, q⟩ := h
  cases (show v = Value.ref a from rx)
  obtain ⟨mA, O, _⟩ := ins_get I.hok ea
  obtain ⟨od, J, _⟩ := O.look
  obtain ⟨m, hF⟩ := I.fr
  have L : PySem.W.Looks (model X.prog X.w) s.heap (typeOf u) t := by
    rcases ty with ⟨b, dy, gs, rfl, eb, rfl⟩ | ty
    · cases (show u = Value.ref b from ry)
      obtain ⟨mB, O', _⟩ := ins_get I.hok eb
      obtain ⟨od', J', _⟩ := O'.look
      exact J'.type
    · obtain ⟨P, Z, p, _⟩ := kit_ofY I ry ty
      exact Z.ty _ _ I.kIn p
  rw [hop]
  refine PySem.W.cmp_K (op := op) (tb := t) hr.units0 hF I.ok.mod.kin J L hn hm.at_ hm.fn ?_
  refine wpAny_mono (run_fn (ds := []) (dvs := []) F hr hb .nil hx I (vs := [.ref a, y]) (.cons rfl (.cons ry .nil)) q) (fun w s' z => ?_) fun _ _ x => x
  obtain ⟨z', H', I', rz, qz⟩ := z
  exact SlX.cmpback rz ⟨z', H', I', rz, qz⟩
/-- y in x by x's own __contains__, which hands back a bool -/
def rInO (C : Addr) (sp : Sp) (E : XK) (neg : Bool) : R2 := fun y x H Q => ∃ a dx fs, x = .ref a ∧ H a = some (.ins C dx fs) ∧ sp [x, y] H (fun v H' => ∃ b, v = .bl b ∧ Q (.bl (if neg then !b else b)) H') E
theorem op_inO (hm : Meth X.K C "__contains__" f) (F : FnOk X.prog X.w X.K X.mg X.base CX k f fd ps sp) (hr : Room k X.A) (hb : Binds X.K fd ps []) (hx : Passes CX X E) : OpR X (compareOp .In) (rInO C sp E false) := by
  intro pins s σ H y x u v Q I ry rx h
  obtain ⟨a, dx, fs, rfl, ea, q⟩ := h
  cases (show v = Value.ref a from rx)
  obtain ⟨mA, O, _⟩ := ins_get I.hok ea
  obtain ⟨od, J, _⟩ := O.look
  obtain ⟨m, hF⟩ := I.fr
  refine PySem.W.in_K hF I.ok.mod.kin J hm.at_ hm.fn (wpAny_mono (run_fn (ds := []) (dvs := []) F hr hb .nil hx I (vs := [.ref a, y]) (.cons rfl (.cons ry .nil)) q) (fun w s' z => ?_) fun _ _ x => x)
  obtain ⟨z', H', I', rz, b, rfl, qz⟩ := z
  cases (show w = Value.bool b from rz)
  exact wpAny_truthy_bool ⟨.bl b, H', I', rfl, qz⟩
theorem op_notInO (hm : Meth X.K C "__contains__" f) (F : FnOk X.prog X.w X.K X.mg X.base CX k f fd ps sp) (hr : Room k X.A) (hb : Binds X.K fd ps []) (hx : Passes CX X E) : OpR X (compareOp .NotIn) (rInO C sp E true) := by
  intro pins s σ H y x u v Q I ry rx h
  obtain ⟨a, dx, fs, rfl, ea, q⟩ := h
  cases (show v = Value.ref a from rx)
  obtain ⟨mA, O, _⟩ := ins_get I.hok ea
  obtain ⟨od, J, _⟩ := O.look
  obtain ⟨m, hF⟩ := I.fr
  refine PySem.W.notIn_K hF I.ok.mod.kin J hm.at_ hm.fn (wpAny_mono (run_fn (ds := []) (dvs := []) F hr hb .nil hx I (vs := [.ref a, y]) (.cons rfl (.cons ry .nil)) q) (fun w s' z => ?_) fun _ _ x => x)
  obtain ⟨z', H', I', rz, b, rfl, qz⟩ := z
  cases (show w = Value.bool b from rz)
  exact wpAny_truthy_bool ⟨.bl (!b), H', I', rfl, qz⟩
/-- len(x) by x's own __len__ -/
def rLenO (C : Addr) (sp : Sp) (E : XK) : List V → Hp → VK → Prop := fun xs H Q => ∃ a dx fs, xs = [.ref a] ∧ H a = some (.ins C dx fs) ∧ sp [.ref a] H (fun v H' => ∃ n, v = .int n ∧ 0 ≤ n ∧ n < 2 ^ 63 ∧ Q (.int n) H') E
theorem call_lenO (hm : Meth X.K C "__len__" f) (F : FnOk X.prog X.w X.K X.mg X.base CX k f fd ps sp) (hr : Room (k + 1) X.A) (hb : Binds X.K fd ps []) (hx : Passes CX X E) : CallR X (.builtin "len") (rLenO C sp E) := by
  intro pins s σ H xs us Q I r h
  obtain ⟨a, dx, fs, rfl, ea, q⟩ := h
  obtain ⟨u, rfl, ru⟩ := vals1' r
  cases (show u = Value.ref a from ru)
  obtain ⟨mA, O, _⟩ := ins_get I.hok ea
  obtain ⟨od, J, _⟩ := O.look
  obtain ⟨m, hF⟩ := I.fr
  have r2 : Vals [V.ref a] [Value.ref a] := .cons rfl .nil
  have hl : ([Value.ref a] : List Value).length = ps.length := by
    rw [← r2.length]
    exact F.len _ _ _ _ q
  refine PySem.W.len_K hF I.ok.mod.kin J hm.at_ hm.fn (wpAny_call (codeAny_mono (F.run X.A.in1 X.stack s H ⟨[.ref a], []⟩ [.ref a] [.ref a] _ E hr.in1 I.env0.in1 (by simpa using hb s [.ref a] I.kIn (by simpa using hl)) r2 q) fun r s' hq => ?_))
  cases r with
  | error er => exact hx pins σ H s er s' I hq
  | ok fl =>
    cases fl with
    | ret u =>
      obtain ⟨v, H', I', rv, n, rfl, n0, n1, qz⟩ := I.after hq
      obtain ⟨t, rfl⟩ := (show ∃ t, u = Value.int n t from rv)
      exact ⟨⟨n0, n1⟩, .int n, H', I'.tok _, ⟨_, rfl⟩, qz⟩
    | next => exact False.elim hq
    | brk => exact False.elim hq
    | cont => exact False.elim hq
end
end RT

set_option Elab.async false
set_option linter.all false
set_option maxRecDepth 100000
set_option maxHeartbeats 4000000
/-! defs that are called where nothing is being shown: repr of lists and tuples -/
namespace RT
open PySem PySem.Spec PyProof.Rows L2
/-- as FnOk, where no repr runs around -/
structure FnG (P : Program) (w : World) (K : PySem.W.Frag) (mg : Str → Option Value) (base : Heap) (CX : CXT) (k : Nat) (f : Addr) (fd : FuncData) (ps : List Str) (sp : Sp) : Prop where
  len : ∀ vs H Q E, sp vs H Q E → vs.length = ps.length
  go : ∀ (A : Around) (outer : List Env) (s : Shared) (H : Hp) (args : Args) (us : List Value) (vs : List V) (Q : VK) (E : XK), A.guards = some [] → Room k A → Env0 P w K mg base A outer s H → BindsTo s fd args (ps.zip us) → Vals vs us → sp vs H Q E →
    codeAny (model P w) A (.call (.ref f) args) (CR CX outer P w H s Q E) s
theorem FnG.of {P : Program} {w : World} {K : PySem.W.Frag} {mg : Str → Option Value} {base : Heap} {CX : CXT} {k : Nat} {f : Addr} {fd : FuncData} {ps : List Str} {sp : Sp} (F : FnOk P w K mg base CX k f fd ps sp) : FnG P w K mg base CX k f fd ps sp :=
  ⟨F.len, fun A outer s H args us vs Q E _ => F.run A outer s H args us vs Q E⟩
theorem fnG_of {CX : CXT} {P : Program} {w : World} {K : PySem.W.Frag} {mg : Str → Option Value} {base : Heap} {k : Nat} {f : Addr} {name qual : Str} {params : Arguments} {body : List Stmt} {scope : Scope} {dV kV doc pm cdv ct oc : Value} {an od : Option Addr}
    {osl : Array (Option Value)} {N ps : List Str} {sp : Sp} (at_ : K.lookup f = some ⟨oc, od, .func (PySem.W.fnOf name qual params body scope dV kV doc pm an cdv ct), osl⟩) (code : PySem.W.codeIn K cdv qual = true) (S : FnScope N ps scope)
    (len : ∀ vs H Q E, sp vs H Q E → vs.length = ps.length)
    (walk : ∀ (A : Around) (outer : List Env) (s : Shared) (H : Hp) (vs : List V) (Q : VK) (E : XK), A.guards = some [] → Room k (A.deeper (envOfC qual scope s.heap.objs.size f cdv)) → sp vs H Q E →
      ∃ t, PSs (cxOf CX P w K mg base N qual scope f cdv A outer s H E) body t ∧ t { nx := fun _ H' => Q .non H', rt := Q } (start N vs) H) :
    FnG P w K mg base CX (k + 1) f (PySem.W.fnOf name qual params body scope dV kV doc pm an cdv ct) ps sp where
  len := len
  go := fun A outer s H args us vs Q E hg room env binds vals said => by
    have size := len _ _ _ _ said
    have here : K.In s.heap := env.mod.kin.keeps fun b o e => (env.bs b o e).1
    have free : s.heap.NoLimit := env.mod.nolimit.keeps fun b o e => (env.bs b o e).1
    have kinds : ∀ y ∈ ps.zip us, scope.names.lookup y.1 = some .local ∨ (scope.names.lookup y.1 = some .cell ∧ ((cellsFrom (s.heap.objs.size + 1) scope.names []).lookup y.1).isSome = true) := by
      rintro ⟨n, v⟩ hy
      exact (S.par n (List.of_mem_zip hy).1).imp id fun q => ⟨q, PySem.W.cellsFrom_some _ _ _ (.inl q)⟩
    refine codeAny_call_function room.depth (here _ _ at_) rfl S.co S.gen rfl (PySem.W.codeRec_of here code) (binds _ _ _ _ ?_)
    refine wpAny_newFunctionEnv_cells S.kind kinds fun e1 he s1 x => ?_
    subst he
    obtain ⟨t, ht, hq⟩ := walk A outer s H vs Q E hg (room.deeper _) said
    refine ⟨free.keeps x.toInCall.keep, codeAny_func ?_⟩
    refine wpAny_mono (ht.run [] s1 (start N vs) H _ (inv_start S room.hd env size vals x) hq) (fun fl s' done => ?_) fun _ _ z => z
    match fl, done with
    | .ret u, ⟨v, _, H', J, rv, q⟩ => exact ⟨v, H', J.os, J.bare, J.base, J.hok, rv, q⟩
    | .next, ⟨_, H', J, q⟩ => exact ⟨V.non, H', J.os, J.bare, J.base, J.hok, rfl, q⟩
    | .brk, ⟨_, _, _, q⟩ => exact q.elim
    | .cont, ⟨_, _, _, q⟩ => exact q.elim
section
variable {P : Program} {w : World} {K : PySem.W.Frag} {mg : Str → Option Value} {base : Heap} {CX : CXT}
/-- a def of the text keeps its promise where nothing is being shown -/
theorem okG {x qual : Str} {pa : Arguments} {bd : List Stmt} {sc : Scope} {dvs : List V} {kws : List (Str × V)} {f : Addr} {fd : FuncData} {N ps : List Str} {k : Nat} {sp : Sp} (F : FunD K x qual pa bd sc dvs kws f fd) (S : FnScope N ps sc) (len : ∀ vs H Q E, sp vs H Q E → vs.length = ps.length)
    (walk : ∀ (cdv : Value) (A : Around) (outer : List Env) (s : Shared) (H : Hp) (vs : List V) (Q : VK) (E : XK), A.guards = some [] → Room k (A.deeper (envOfC qual sc s.heap.objs.size f cdv)) → sp vs H Q E →
      ∃ t, PSs (cxOf CX P w K mg base N qual sc f cdv A outer s H E) bd t ∧ t { nx := fun _ H' => Q .non H', rt := Q } (start N vs) H) : FnG P w K mg base CX (k + 1) f fd ps sp := by
  obtain ⟨oc, od, dV, kV, doc, pm, an, cdv, ct, osl, rfl, lk, hcd, _, _⟩ := F.ex
  exact fnG_of lk hcd S len fun A outer s H vs Q E hg hr h => walk cdv A outer s H vs Q E hg hr h
end
section
variable {X : Cx} {CX : CXT} {k : Nat} {f : Addr} {fd : FuncData} {ps : List Str} {sp : Sp} {dvs : List V} {ds : List Value} {E : XK} {e : Expr} {es : List Expr} {t : TA} {x : Str} {p pos : Pos}
theorem pe_callG (F : FnG X.prog X.w X.K X.mg X.base CX k f fd ps sp) (hG : X.A.guards = some []) (hr : Room k X.A) (hg : Gl X x) (hm : X.mg x = some (.ref f)) (hk : PySem.W.keepIn X.K (.ref f) = true) (hb : Binds X.K fd ps ds) (hd : Vals dvs ds) (hx : Passes CX X E)
    (ha : PA X (e :: es) t) (hdb : (x == ("__debug__" : Str)) = false := by decide) (he : starEach (e :: es) X.env = (false, eval e X.env) :: starEach es X.env := by rfl) (hpl : (backTo pos (starEach es X.env)).any (·.1) = false := by rfl) :
    PE X (.Call (.Name x p) (e :: es) [] pos) (tCall sp dvs E t) := by
  refine ⟨fun pins s σ H Q I h => wpAny_Call_Name_kw (ld_glob I hg hm ?_ hdb)⟩
  refine PySem.W.callWith_K (h₀ := X.base) I.ok.mod.kin hk (thn (ha.run pos pins s σ H _ I h) fun us s1 ⟨vs, H1, I1, r, q⟩ => ⟨I1.kIn, ?_⟩) he hpl
  have r2 := r.append hd
  have hl : (us ++ ds).length = ps.length := r2.length.symm.trans (F.len _ _ _ _ q)
  refine wpAny_call (codeAny_mono (F.go X.A X.stack s1 H1 ⟨us, []⟩ (us ++ ds) (vs ++ dvs) Q E hG hr I1.env0 (hb s1 us I1.kIn hl) r2 q) fun r s' hq => ?_)
  match r, hq with
  | .error e, hq => exact hx pins σ H1 s1 e s' I1 hq
  | .ok (.ret u), hq => exact I1.after hq
/-- repr of data at any depth -/
def rReprD (K : PySem.W.Frag) : List V → Hp → VK → Prop := fun xs H Q => ∃ (a : Addr) (d : PyData), xs = [.ref a] ∧ Dp K H (.ref a) d ∧ d.showable = true ∧ d.hasDict = false ∧ d.depth ≤ 40 ∧ d.shown.length ≤ sizeLine ∧ Q (.str d.shown) H
theorem call_reprD (hG : X.A.guards = some []) (hu : X.A.units + 64 < cLine) : CallR X (.builtin "repr") (rReprD X.K) := by
  intro pins s σ H xs us Q I r h
  obtain ⟨a, d, rfl, D, hs, hd, hz, hl, q⟩ := h
  obtain ⟨u, rfl, ru⟩ := vals1' r
  obtain ⟨as, rd⟩ := Dp.reads I d _ _ D ru
  cases (show u = Value.ref a from ru)
  exact repr_of_reads' rd hs (PyData.noDict_hsm hd) hG (by omega) (fun _ _ e => e) (fun h' u tk k => ⟨.str d.shown, H, I.kept k, ⟨u, rfl⟩, q⟩) hl
end
/-! ### the law's own call -/
/-- the abstract heap at the law's entry: the script's list, locked -/
def scriptH (a : Addr) (vs : List Value) (ns : List Int) : Hp := fun b => if b = a then some (.frz { cls := .type "list", data := .seq vs.toArray } (.lst (ns.map V.int))) else none
section
variable {P : Program} {w : World} {K : PySem.W.Frag} {mg mb : Str → Option Value} {CX : CXT} {k : Nat} {fa a : Addr} {fd : FuncData} {x : Str} {sp : Sp} {s : Shared} {vs : List Value} {ns : List Int}
theorem enterG (H : Hp) (alone : ∀ b u, H b = some u → b = a ∧ ∃ o xs, u = .frz o (.lst xs)) (free : ∀ b, H b ≠ none → K.lookup b = none) (hok : HOk P w H s.heap)
    (KX : K.In s.heap) (gl : s.heap.Ns mainGlobals mg) (bl : s.heap.Ns builtinsNs mb) (bb : ∀ x : Str, x ≠ "__name__" → mb x = bootBuiltins x) (lim : s.heap.NoLimit) (gn : s.gens = #[]) (room : Room k callerA)
    (F : ∀ base : Heap, K.In base → base.Ns mainGlobals mg → FnG P w K mg base CX k fa fd [x] sp) (binds : ∀ (s : Shared) (u : Value), BindsTo s fd ⟨[u], []⟩ [(x, u)]) (said : sp [.ref a] H (fun v _ => v = .bl true) fun _ _ _ => False)
    (noX : ∀ e s', CX [] H s (fun _ _ _ => False) e s' → False) :
    codeAny (model P w) callerA (.call (.ref fa) ⟨[.ref a], []⟩) (fun r s' => r = .ok (.ret (.bool true)) ∧ OldK s.heap s'.heap ∧ s'.os = s.os ∧ AllBare s'.gens) s := by
  have noDict : ∀ {b : Addr} {o : Obj} {es : Array DictEntry} {n : Nat}, s.heap.get? b = some o → o.data = .dict es n → H b = none := fun {b o es n} e d => by
    cases q : H b with
    | none => rfl
    | some u =>
      obtain ⟨_, ob, xs, rfl⟩ := alone b u q
      obtain ⟨e1, _, its, m, _, e2⟩ := (show ObjOk P w H s.heap b (.frz ob (.lst xs)) from hok b _ q)
      rw [e] at e2
      cases e2
      cases d
  have ns_ : ∀ {b : Addr} {m : Str → Option Value}, s.heap.Ns b m → (hidT s.heap H).Ns b m := fun {b m} ⟨o, es, n, e, d, r⟩ => ⟨o, es, n, hidT_get e (noDict e d), d, r⟩
  have kb : K.In (hidT s.heap H) := fun b o e => hidT_get (KX b o e) (by
    cases q : H b with
    | none => rfl
    | some u =>
      have z := free b (by rw [q]; exact fun z => nomatch z)
      rw [e] at z
      cases z)
  have md : Mod K mg (hidT s.heap H) := ⟨kb, ns_ gl, ⟨mb, ns_ bl, bb⟩, by
    obtain ⟨mc, h1, h2⟩ := lim
    exact ⟨mc, ns_ h1, h2⟩⟩
  have env : Env0 P w K mg (hidT s.heap H) callerA [] s H := ⟨rfl, md, fun b o e => of_hidT e, Nat.le_of_eq (hidT_size _ _), trivial, (fun b hb => absurd (show b ∈ ([] : List Addr) from hb) (by simp)), hok, .of_eq gn⟩
  refine codeAny_mono ((F _ kb (ns_ gl)).go callerA [] s H ⟨[.ref a], []⟩ [.ref a] [.ref a] _ _ rfl room env (binds s (.ref a)) (.cons rfl .nil) said) fun r s' h => ?_
  match r, h with
  | .error e, h => exact (noX e s' h).elim
  | .ok (.ret u), ⟨v, H', os, bare, un, hok', rv, q⟩ =>
    have ev : v = .bl true := q
    subst ev
    obtain rfl : u = Value.bool true := rv
    refine ⟨rfl, OldK.of_keep fun b o e => ?_, os, bare⟩
    cases q : H b with
    | none => exact un.keep b o e q (fun z => nomatch z) (fun z => nomatch z)
    | some u =>
      obtain ⟨_, ob, xs, rfl⟩ := alone b u q
      obtain ⟨e1, _⟩ := hok b _ q
      obtain ⟨e2, _⟩ := hok' b _ (un.frzs b ob _ q)
      rw [e] at e1
      cases e1
      exact e2
theorem law_callG (KX : K.In s.heap) (gl : s.heap.Ns mainGlobals mg) (bl : s.heap.Ns builtinsNs mb) (bb : ∀ x : Str, x ≠ "__name__" → mb x = bootBuiltins x) (lim : s.heap.NoLimit) (gn : s.gens = #[])
    (obj : s.heap.get? a = some { cls := .type "list", data := .seq vs.toArray }) (hi : IntsAre vs ns) (hl : ns.length ≤ sizeLine) (room : Room k callerA)
    (F : ∀ base : Heap, K.In base → base.Ns mainGlobals mg → FnG P w K mg base CX k fa fd [x] sp) (binds : ∀ (s : Shared) (u : Value), BindsTo s fd ⟨[u], []⟩ [(x, u)])
    (said : ∀ H : Hp, SqL K H a (ns.map V.int) → sp [.ref a] H (fun v _ => v = .bl true) fun _ _ _ => False) (noX : ∀ H e s', CX [] H s (fun _ _ _ => False) e s' → False) :
    codeAny (model P w) callerA (.call (.ref fa) ⟨[.ref a], []⟩) (fun r s' => r = .ok (.ret (.bool true)) ∧ OldK s.heap s'.heap ∧ s'.os = s.os ∧ AllBare s'.gens) s := by
  have rv := vals_ints hi
  cases hk : K.lookup a with
  | some o =>
    have e := KX a o hk
    rw [obj] at e
    cases e
    exact enterG (fun _ => none) (fun b u z => nomatch z) (fun b z => (z rfl).elim) (fun b u z => nomatch z) KX gl bl bb lim gn room F binds
      (said _ (.inr ⟨_, vs.toArray, _, hk, rfl, rfl, rfl, by rw [List.size_toArray, hi.length]; exact hl, by simpa using rv⟩)) (noX _)
  | none =>
    have at_ : ∀ b u, scriptH a vs ns b = some u → b = a ∧ u = .frz { cls := .type "list", data := .seq vs.toArray } (.lst (ns.map V.int)) := fun b u z => by
      unfold scriptH at z
      by_cases hb : b = a
      · rw [if_pos hb] at z
        exact ⟨hb, (Option.some.inj z).symm⟩
      · rw [if_neg hb] at z
        cases z
    refine enterG (scriptH a vs ns) (fun b u z => ?_) (fun b z => ?_) (fun b u z => ?_) KX gl bl bb lim gn room F binds (said _ (.inl (.inr ⟨{ cls := .type "list", data := .seq vs.toArray }, by unfold scriptH; rw [if_pos rfl]⟩))) (noX _)
    · obtain ⟨e, rfl⟩ := at_ b u z
      exact ⟨e, _, _, rfl⟩
    · cases q : scriptH a vs ns b with
      | none => exact (z q).elim
      | some u =>
        rw [(at_ b u q).1]
        exact hk
    · obtain ⟨rfl, rfl⟩ := at_ b u z
      exact ⟨obj, by rw [List.length_map]; exact hl, vs, _, rv, obj⟩
end
/-- the end of a law's proof: the head's facts give the law's def, the def keeps its promise -/
theorem walk_ofG {l : PySem.W.OpenLaw} {n k : Nat} {q : Program} {loose : List Str} {XP : (Str → Option Value) → Heap → Prop} {YP : World → Heap → Prop} {d : DefRec} {CX : World → CXT} {x : Str}
    (hn : l.most = some n) (hn2 : n ≤ sizeLine) (hdf : d.params.defaults = []) (room : Room k callerA)
    (F : ∀ (w : World) (mg : Str → Option Value) (fa : Addr) (h : Heap), YP w h → h.Ns mainGlobals mg → mg d.name = some (.ref fa) →
      ∃ (K : PySem.W.Frag) (fd : FuncData) (sp : Sp), K.In h ∧ (∀ (s : Shared) (u : Value), BindsTo s fd ⟨[u], []⟩ [(x, u)]) ∧
        (∀ (H : Hp) (a : Addr) (ns : List Int), ns.length ≤ n → (∀ z ∈ ns, Builtin.Int.intBits z ≤ 1048576) → SqL K H a (ns.map V.int) → sp [.ref a] H (fun v _ => v = .bl true) fun _ _ _ => False) ∧
        ∀ base : Heap, K.In base → base.Ns mainGlobals mg → FnG l.prog w K mg base (CX w) k fa fd [x] sp)
    (noX : ∀ (w : World) (H : Hp) (s : Shared) (e : Value) (s' : Shared), CX w [] H s (fun _ _ _ => False) e s' → False) :
    PySem.W.WalkO q loose XP YP l.row.toRowW d [] (fun f vs => PySem.call f vs) := by
  refine Att.attach_callB hn hdf fun w s₀ s₁ mg mb fa o pm cd doc a vs ns G Y ho hd hcd hmg hobj hints hlen hbits hg => ?_
  obtain ⟨K, fd, sp, KX, hb, said, hF⟩ := F w mg fa _ Y G.T.g hmg
  exact law_callG KX G.T.g G.T.b G.T.builtins G.T.nolimit hg hobj hints (Nat.le_trans hlen hn2) room hF hb (fun H hS => said H a ns hlen hbits hS) fun H e s' => noX w H s₁ e s'
end RT

set_option Elab.async false
set_option linter.all false
set_option maxRecDepth 100000
set_option maxHeartbeats 4000000
/-! an instance called, by its own __call__; x != y by an own __eq__ -/
namespace PySem.W
open PySem PySem.Spec PySem.Calls PyProof.Rows
theorem rt_callInst {M : Model} {A : Around} {E : Value → Shared → Prop} {s : Shared} {pos : Pos} {x C : Addr} {Q : Value → Shared → Prop} {args : List (Bool × Sem Value)} (plain : (args.any (·.1) || ([] : List (Option Str × Sem Value)).any (·.1.isNone)) = false)
    (h : wpAny M A (evalArgs (.ref x) true args []) (fun a s1 => (∃ ox od, InstAt s1.heap x ox C od ∧ ox.data = .plain) ∧ wpAny M A (call (.ref x) ([] ++ a.pos) a.kw) Q E s1) E s) : wpAny M A (callWith pos (.ref x) [] args []) Q E s := by
  unfold callWith
  refine wpAny_bind (wpAny_holding (wpAny_mono h (fun a s1 h1 => wpAny_bind (wpAny_standAt ?_)) fun _ _ y => y))
  obtain ⟨⟨ox, od, I, hd⟩, go⟩ := h1
  have L := kco_keeper (M := M) I hd
  simp only [plain]
  refine wpAny_bind (L.here (wpAny_bind (wpAny_mono (wpAny_operateT go) (fun r s2 hr => wpAny_bind (wpAny_holding (wpAny_point (wpAny_pure hr)))) fun _ _ y => y)))
/-- x != b where the class has its own __eq__ and object's __ne__: what __eq__ says, turned -/
theorem rt_ne {prog : Program} {w : World} {A : Around} {E : Value → Shared → Prop} {s : Shared} {K : Frag} {x C f : Addr} {ox : Obj} {od : Option Obj} {b tb : Value} {Q : Value → Shared → Prop} (hu : A.units + 1 < cLine) (X : K.In s.heap) (I : InstAt s.heap x ox C od)
    (hb : Looks (model prog w) s.heap (typeOf b) tb) (hn : notFirst K C tb = true) (ne : findIn K (.ref C) "__ne__" = some (some (.builtin "object.__ne__"))) (hm : mroIn K C (.type "object") = some true)
    (eq : findIn K (.ref C) "__eq__" = some (some (.ref f))) (fn : isFn K (.ref f) = true) (h : wpAny (model prog w) A.in1 (call (.ref f) [.ref x, b]) (fun r s' => ∃ k, r = .bool k ∧ Q (.bool (!k)) s') E s) :
    wpAny (model prog w) A (richCompare .NotEq (.ref x) b) Q E s := by
  have inst : Looks (model prog w) s.heap (isInstance (.ref x) (.type "object")) true := I.type.andThen (looks_mroIn X hm)
  have body : wpAny (model prog w) A (call (.builtin "object.__ne__") [.ref x, b]) (fun r s' => ∃ k, r = .bool k ∧ Q (.bool k) s') E s := by
    refine wpAny_call (codeAny_call_builtin F.cmp_object.ne.plain F.cmpEntry_ne (check_slot (owner := "object") (n := "__ne__") F.cmpKind_ne F.cmpSplit_ne inst (F.cmpArgs_ne _ _) ?_))
    unfold Builtin.«object.__ne__»
    refine wpAny_bind (wpAny_of_eq (a := ((Value.ref x : Value), [b])) (by first | rfl | (simp only [slotArgs]; rfl)) ?_)
    refine wpAny_bind (wpAny_cRoomFor hu ?_)
    refine wpAny_bind (ifBound_K X I eq fn (wpAny_mono h (fun r s' z => ?_) fun _ _ z => z))
    obtain ⟨k, rfl, q⟩ := z
    exact wpAny_bind (wpAny_truthy_bool (wpAny_pure ⟨!k, rfl, q⟩))
  have one : wpAny (model prog w) A (tryCompare (.ref x) "__ne__" b) (fun r s' => ∃ v, r = some v ∧ Q v s') E s := by
    unfold tryCompare
    refine wpAny_bind ?_
    simp only [callSpecialIfBound?, bindSpecialIfBound?]
    refine wpAny_holding (wpAny_bind (wpAny_bind (wpAny_bind (I.type.here ((looks_findIn X ne).here ?_)))))
    simp only [F.cmp_object.ne.bind]
    refine wpAny_bind (wpAny_askSetting (wpAny_ite ?_))
    have last : wpAny (model prog w) A (call (.builtin "object.__ne__") ([.ref x] ++ [b]) >>= fun v => pure (some v)) (fun r s' => wpAny (model prog w) A (match r with
        | some .notImplemented | none => pure none
        | some v => pure (some v)) (fun r s' => ∃ v, r = some v ∧ Q v s') E s') E s := by
      refine wpAny_bind (wpAny_mono body (fun r s' z => ?_) fun _ _ z => z)
      obtain ⟨k, rfl, q⟩ := z
      exact wpAny_pure (wpAny_pure ⟨_, rfl, q⟩)
    split
    · exact wpAny_bind (wpAny_pure (wpAny_pure last))
    · exact wpAny_tryCatch (wpAny_bind (wpAny_pure (wpAny_pure last)))
  unfold richCompare
  simp only [oneThing_ref]
  refine wpAny_holding (wpAny_bind (wpAny_cRoomFor (by omega) ?_))
  refine wpAny_bind (I.type.here (wpAny_bind (hb.here ?_)))
  have out : ∀ {g : Option Value → Sem Value}, (∀ v, g (some v) = pure v) → wpAny (model prog w) A (tryCompare (.ref x) "__ne__" b >>= g) Q E s := fun {g} hg => wpAny_bind (wpAny_mono one (fun r s' z => by
    obtain ⟨v, rfl, q⟩ := z
    rw [hg]
    exact wpAny_pure q) fun _ _ z => z)
  split
  · rename_i q
    have e : subIn K tb (.ref C) = some false := by
      rcases Bool.or_eq_true_iff.mp hn with e | e
      · rw [beq_iff_eq.mp e] at q
        simp at q
      · exact beq_iff_eq.mp e
    refine wpAny_bind ((looks_subIn X e).here ?_)
    simp only [Bool.false_eq_true, if_false]
    exact out fun v => rfl
  · refine wpAny_bind (wpAny_pure ?_)
    simp only [Bool.false_eq_true, if_false]
    exact out fun v => rfl
end PySem.W
namespace RT
open PySem PySem.Spec PyProof.Rows L2
section
variable {X : Cx} {CX : CXT} {k i : Nat} {C f : Addr} {fd : FuncData} {ps : List Str} {sp : Sp} {E : XK} {x : Str} {p pos : Pos} {e : Expr} {es : List Expr} {t : TA}
/-- x(e, ..), x a local name that holds an instance of the class at C -/
def tCallO (i : Nat) (C : Addr) (sp : Sp) (E : XK) (t : TA) : TE := fun σ H Q => ∃ a, σ[i]? = some (some (.ref a)) ∧ t σ H fun vs H1 => (∃ dx fs, H1 a = some (.ins C dx fs)) ∧ sp (.ref a :: vs) H1 Q E
theorem pe_callO (hm : Meth X.K C "__call__" f) (hfn : PySem.W.fnIn X.K f = true) (F : FnOk X.prog X.w X.K X.mg X.base CX k f fd ps sp) (hr : Room k X.A) (hN : X.N[i]? = some x) (hv : Vis X.env.scope x) (hb : Binds X.K fd ps []) (hx : Passes CX X E) (ha : PA X (e :: es) t)
    (hdb : (x == ("__debug__" : Str)) = false := by decide) (hcd : (x == ("__classdict__" : Str)) = false := by decide)
    (he : starEach (e :: es) X.env = (false, eval e X.env) :: starEach es X.env := by rfl) (hpl : (backTo pos (starEach es X.env)).any (·.1) = false := by rfl) : PE X (.Call (.Name x p) (e :: es) [] pos) (tCallO i C sp E t) := by
  refine ⟨fun pins s σ H Q I h => ?_⟩
  obtain ⟨a, at_, ht⟩ := h
  refine wpAny_Call_Name_kw (thn ((pe_var (pos := p) hN hv hdb hcd).run pins s σ H (fun v H1 => v = .ref a ∧ H1 = H) I ⟨.ref a, at_, rfl, rfl⟩) fun u s1 ⟨v, H1, I1, r1, q1⟩ => ?_)
  obtain ⟨rfl, rfl⟩ := q1
  cases (show u = Value.ref a from r1)
  rw [he]
  refine PySem.W.rt_callInst (C := C) (by show ((false || (backTo pos (starEach es X.env)).any (·.1)) || false) = false; rw [hpl]; rfl) (Calls.evalArgs_plain ?_)
  have ha' : wpAny (model X.prog X.w) X.A (spliced (backTo pos (starEach (e :: es) X.env))) (AP X pins σ _) X.xe s1 := ha.run pos pins s1 σ _ _ I1 ht
  rw [he] at ha'
  refine thn ha' fun us s2 ⟨vs, H2, I2, r, ⟨dx, fs, ea⟩, q⟩ => ?_
  obtain ⟨mA, O, _⟩ := ins_get I2.hok ea
  obtain ⟨od, J, _⟩ := O.look
  refine ⟨⟨_, some od, J, rfl⟩, ?_⟩
  have r2 : Vals (.ref a :: vs) (.ref a :: us) := .cons rfl r
  have hl : (Value.ref a :: us).length = ps.length := r2.length.symm.trans (F.len _ _ _ _ q)
  have bd := hb s2 (.ref a :: us) I2.kIn (by simpa using hl)
  rw [List.append_nil] at bd
  refine wpAny_call (PySem.W.kco_code I2.kIn J rfl hm.at_ hm.fn hfn (codeAny_mono (F.run X.A X.stack s2 H2 ⟨.ref a :: us, []⟩ (.ref a :: us) (.ref a :: vs) Q E hr I2.env0 bd r2 q) fun r s' hq => ?_))
  match r, hq with
  | .error e, hq => exact hx pins σ H2 s2 e s' I2 hq
  | .ok (.ret u), hq => exact I2.after hq
/-- x != y by x's own __eq__ -/
def rNeO (K : PySem.W.Frag) (C : Addr) (sp : Sp) (E : XK) : R2 := fun x y H Q => ∃ a dx fs t, x = .ref a ∧ H a = some (.ins C dx fs) ∧ ((∃ b dy gs, y = .ref b ∧ H b = some (.ins C dy gs) ∧ t = .ref C) ∨ TyY K H y t) ∧ PySem.W.notFirst K C t = true ∧
  sp [x, y] H (fun v H' => ∃ k, v = .bl k ∧ Q (.bl (!k)) H') E
theorem op_neO (hne : PySem.W.findIn X.K (.ref C) "__ne__" = some (some (.builtin "object.__ne__"))) (hmr : PySem.W.mroIn X.K C (.type "object") = some true) (hm : Meth X.K C "__eq__" f) (F : FnOk X.prog X.w X.K X.mg X.base CX k f fd ps sp) (hr : Room (k + 1) X.A) (hb : Binds X.K fd ps []) (hx : Passes CX X E) :
    OpR X (compareOp .NotEq) (rNeO X.K C sp E) := by
  intro pins s σ H x y v u Q I rx ry h
  obtain ⟨a, dx, fs, t, rfl, ea, ty, hn, q⟩ := h
  cases (show v = Value.ref a from rx)
  obtain ⟨mA, O, _⟩ := ins_get I.hok ea
  obtain ⟨od, J, _⟩ := O.look
  have L : PySem.W.Looks (model X.prog X.w) s.heap (typeOf u) t := by
    rcases ty with ⟨b, dy, gs, rfl, eb, rfl⟩ | ty
    · cases (show u = Value.ref b from ry)
      obtain ⟨mB, O', _⟩ := ins_get I.hok eb
      obtain ⟨od', J', _⟩ := O'.look
      exact J'.type
    · obtain ⟨P, Z, p, _⟩ := kit_ofY I ry ty
      exact Z.ty _ _ I.kIn p
  show wpAny _ _ (richCompare .NotEq (.ref a) u) _ _ _
  have r2 : Vals [V.ref a, y] [Value.ref a, u] := .cons rfl (.cons ry .nil)
  have hl : ([Value.ref a, u] : List Value).length = ps.length := r2.length.symm.trans (F.len _ _ _ _ q)
  have bd := hb s [.ref a, u] I.kIn (by simpa using hl)
  rw [List.append_nil] at bd
  refine PySem.W.rt_ne (tb := t) (by have := hr.units; omega) I.kIn J L hn hne hmr hm.at_ hm.fn (wpAny_call (codeAny_mono (F.run X.A.in1 X.stack s H ⟨[.ref a, u], []⟩ [.ref a, u] [.ref a, y] _ E hr.in1 I.env0.in1 bd r2 q) fun r s' hq => ?_))
  match r, hq with
  | .error e, hq => exact hx pins σ H s e s' I hq
  | .ok (.ret z), hq =>
    obtain ⟨v, H', I', rv, b, rfl, qz⟩ := I.after hq
    cases (show z = Value.bool b from rv)
    exact ⟨b, rfl, .bl (!b), H', I', rfl, qz⟩
end
end RT

set_option Elab.async false
set_option linter.all false
set_option maxRecDepth 100000
set_option maxHeartbeats 4000000
/-! a head whose facts are any Bools of the written part, and defs by any address (a property's getter too) -/
namespace HP
open PySem PySem.Spec PyProof.Rows L2 He
/-- a def of the text, where it stands -/
structure DefA where
  adr : PySem.W.Frag → Addr
  name : Str
  qual : Str
  params : Arguments
  body : List Stmt
  scope : Scope
  dfl : List Dv := []
  kwd : List (Str × Dv) := []
def DefA.told (K : PySem.W.Frag) (d : DefA) : FnW := match K.lookup (d.adr K) with
  | some ⟨_, _, .func fd, _⟩ => some (fd.name, fd.qualname, fd.params, fd.body, fd.scope, fd.globals, fd.closure, fd.builtins)
  | _ => none
def DefA.want (d : DefA) : FnW := some (d.name, d.qual, d.params, .stmts d.body, d.scope, mainGlobals, [], builtinsNs)
def DefA.dvs (K : PySem.W.Frag) (d : DefA) : List V := d.dfl.map (Dv.v K)
def DefA.kws (K : PySem.W.Frag) (d : DefA) : List (Str × V) := d.kwd.map fun q => (q.1, q.2.v K)
def DefA.fine (K : PySem.W.Frag) (d : DefA) : Bool := PySem.W.keepIn K (.ref (d.adr K)) && (match K.lookup (d.adr K) with
  | some ⟨_, _, .func fd, _⟩ => PySem.W.codeIn K fd.code d.qual && (dflB K fd.defaults (d.dvs K) && kwdB K fd.kwdefaults (d.kws K))
  | _ => false)
theorem DefA.funD {K : PySem.W.Frag} {d : DefA} (e : d.told K = d.want) (c : d.fine K = true) : ∃ fd, FunD K d.name d.qual d.params d.body d.scope (d.dvs K) (d.kws K) (d.adr K) fd := by
  obtain ⟨kp, more⟩ := ba c
  unfold DefA.told at e
  split at e
  · rename_i oc od fd osl at_
    rw [at_] at more
    obtain ⟨k1, k2⟩ := ba more
    obtain ⟨k3, k4⟩ := ba k2
    cases fd
    unfold DefA.want at e
    injection e with e
    simp only [Prod.mk.injEq] at e
    obtain ⟨rfl, rfl, rfl, rfl, rfl, rfl, rfl, rfl⟩ := e
    exact ⟨_, ⟨oc, od, _, _, _, _, _, _, _, osl, rfl, at_, k1, dflB_ok k3, kwdB_ok k4⟩, kp⟩
  · cases e
abbrev Fact := PySem.W.Frag → Bool
abbrev Al := Bool × List FnW
def obsA (fa : List Fact) (fn : List DefA) (K : PySem.W.Frag) : Al := ((fa.all fun f => f K) && fn.all fun d => d.fine K, fn.map fun d => d.told K)
def wantA (fn : List DefA) : Al := (true, fn.map DefA.want)
def obsAG (n : Nat) (fa : List Fact) (fn : List DefA) (g : Addr → Option Obj) : Al := obsA fa fn (frG g (asD g n))
structure SaysA (fa : List Fact) (fn : List DefA) (K : PySem.W.Frag) : Prop where
  eq : obsA fa fn K = wantA fn
def hookA (n : Nat) (fa : List Fact) (fn : List DefA) : PySem.W.Hook where
  α := Al
  obs := fun s => obsAG n fa fn s.heap.get?
  val := fun _ => wantA fn
  says := fun _ h => ∃ K : PySem.W.Frag, K.In h ∧ SaysA fa fn K
  of := fun _ _ e => ⟨_, frG_in, ⟨e⟩⟩
  keeps := fun _ _ _ ⟨K, hK, c⟩ k => ⟨K, PySem.W.Frag.In.keeps hK k, c⟩
theorem obsAG_eq {n : Nat} {fa : List Fact} {fn : List DefA} {g : Addr → Option Obj} {s : Shared} (h : ∀ a, g a = s.heap.get? a) : obsAG n fa fn g = (hookA n fa fn).obs s := by
  rw [show g = s.heap.get? from funext h] <;> rfl
section
variable {fa : List Fact} {fn : List DefA} {K : PySem.W.Frag}
theorem SaysA.fact (c : SaysA fa fn K) (i : Nat) {f : Fact} (h : fa[i]? = some f := by rfl) : f K = true :=
  List.all_eq_true.mp (ba (congrArg Prod.fst c.eq)).1 f (List.mem_of_getElem? h)
theorem SaysA.def_ (c : SaysA fa fn K) (i : Nat) {d : DefA} (h : fn[i]? = some d := by rfl) : ∃ fd, FunD K d.name d.qual d.params d.body d.scope (d.dvs K) (d.kws K) (d.adr K) fd := by
  have hd : d ∈ fn := List.mem_of_getElem? h
  refine DefA.funD ?_ (List.all_eq_true.mp (ba (congrArg Prod.fst c.eq)).2 d hd)
  have e : fn.map (fun d => d.told K) = fn.map DefA.want := congrArg Prod.snd c.eq
  have e1 := congrArg (fun l => l[i]?) e
  simp only [List.getElem?_map, h, Option.map_some, Option.some.injEq] at e1
  exact e1
end
/-! ### facts beside He.Fa's -/
/-- a property of the class x -/
def getA (x f : Str) (K : PySem.W.Frag) : Addr := match PySem.W.recIn K (ma K (ga K x) f) "property" with
  | some (.ref g :: _) => g
  | _ => 0
def propB (x f : Str) : Fact := fun K => eqO (PySem.W.findIn K (.ref (ga K x)) f) (some (some (.ref (ma K (ga K x) f)))) && (eqO (PySem.W.specialIn K (.ref (ma K (ga K x) f)) "__get__") (some (some (.builtin "property.__get__"))) && (decide (PySem.W.takesIn K (.ref (ma K (ga K x) f)) = some true) &&
  (match PySem.W.recIn K (ma K (ga K x) f) "property" with
    | some (.ref _ :: _) => true
    | _ => false)))
theorem propB_ok {x f : Str} {K : PySem.W.Frag} (h : propB x f K = true) : PropOf K (ga K x) f (ma K (ga K x) f) (getA x f K) := by
  obtain ⟨h1, h⟩ := ba h
  obtain ⟨h2, h⟩ := ba h
  obtain ⟨h3, h4⟩ := ba h
  refine ⟨eqO_ok h1, eqO_ok h2, of_decide_eq_true h3, ?_⟩
  unfold getA
  split at h4
  · rename_i g rest e
    rw [e]
    exact ⟨rest, rfl⟩
  · cases h4
/-- own operators: the class goes first in its own order; no reflected method -/
def firstB (x : Str) : Fact := fun K => PySem.W.selfFirst K (ga K x)
def notFirstB (x : Str) (t : PySem.W.Frag → Value) : Fact := fun K => PySem.W.notFirst K (ga K x) (t K)
def rightB (x : Str) (op : Operator) (T : String) : Fact := fun K => eqO (PySem.W.findIn K (.ref (ga K x)) (dunderR op.info.2)) (some none) && ((PySem.W.findIn K (.type T) (PySem.dunder op.info.2)).isSome && ((PySem.W.findIn K (.type T) (dunderR op.info.2)).isSome && decide (PySem.W.subIn K (.type T) (.ref (ga K x)) = some false)))
theorem rightB_ok {x : Str} {op : Operator} {T : String} {K : PySem.W.Frag} (h : rightB x op T K = true) : RT.RightT K (ga K x) op T := by
  obtain ⟨h1, h⟩ := ba h
  obtain ⟨h2, h⟩ := ba h
  obtain ⟨h3, h4⟩ := ba h
  exact ⟨eqO_ok h1, Option.isSome_iff_exists.mp h2, Option.isSome_iff_exists.mp h3, of_decide_eq_true h4⟩
/-- isinstance of an instance of the class x asks its class rightly -/
def isiB (x : Str) : Fact := fun K => eqO (PySem.W.findIn K (.ref (ga K x)) "__class__") (some (some (.builtin "object.__class__"))) && (eqO (PySem.W.specialIn K (.builtin "object.__class__") "__get__") (some (some (.builtin "getset_descriptor.__get__"))) && (decide (PySem.W.takesIn K (.builtin "object.__class__") = some true) && decide (PySem.W.mroIn K (ga K x) (.type "object") = some true)))
structure IsiC (K : PySem.W.Frag) (C : Addr) : Prop where
  ha : PySem.W.findIn K (.ref C) "__class__" = some (some (.builtin "object.__class__"))
  hn : PySem.W.specialIn K (.builtin "object.__class__") "__get__" = some (some (.builtin "getset_descriptor.__get__"))
  ht : PySem.W.takesIn K (.builtin "object.__class__") = some true
  hm : PySem.W.mroIn K C (.type "object") = some true
theorem isiB_ok {x : Str} {K : PySem.W.Frag} (h : isiB x K = true) : IsiC K (ga K x) := by
  obtain ⟨h1, h⟩ := ba h
  obtain ⟨h2, h⟩ := ba h
  obtain ⟨h3, h4⟩ := ba h
  exact ⟨eqO_ok h1, eqO_ok h2, of_decide_eq_true h3, of_decide_eq_true h4⟩
/-- a global that is a tuple of flat values -/
def flatOf : Value → Option V
  | .none => some .non
  | .bool b => some (.bl b)
  | .int i _ => some (.int i)
  | .str x _ => some (.str x)
  | _ => none
theorem flatOf_ok {v : Value} {x : V} (h : flatOf v = some x) : RelV x v := by
  cases v <;> simp only [flatOf, Option.some.injEq, reduceCtorEq] at h <;> subst h <;> first | rfl | exact ⟨_, rfl⟩
theorem flats_ok : ∀ {vs : List Value} {xs : List V}, vs.map flatOf = xs.map some → Vals xs vs
  | [], [], _ => .nil
  | [], _ :: _, h => by cases h
  | _ :: _, [], h => by cases h
  | v :: vs, x :: xs, h => by
    simp only [List.map_cons, List.cons.injEq] at h
    exact .cons (flatOf_ok h.1) (flats_ok h.2)
def tupB (x : Str) (xs : List V) : Fact := fun K => match K.lookup (ga K x) with
  | some o => eqO (some (some o.cls)) (some (some (.type "tuple"))) && (match o.data with
    | .seq its _ => decide (its.toList.map flatOf = xs.map some) && decide (its.size ≤ sizeLine)
    | _ => false)
  | none => false
theorem tupB_ok {x : Str} {xs : List V} {K : PySem.W.Frag} (h : tupB x xs K = true) : ∀ H : Hp, SqT K H (ga K x) xs := by
  intro H
  unfold tupB at h
  split at h
  · rename_i o e
    obtain ⟨h1, h2⟩ := ba h
    split at h2
    · rename_i its n ed
      obtain ⟨h3, h4⟩ := ba h2
      exact .inr ⟨o, its, n, e, Option.some.inj (Option.some.inj (eqO_ok h1)), ed, of_decide_eq_true h4, flats_ok (of_decide_eq_true h3)⟩
    · cases h2
  · cases h
def neB (x : Str) : Fact := fun K => eqO (PySem.W.findIn K (.ref (ga K x)) "__ne__") (some (some (.builtin "object.__ne__")))
theorem neB_ok {x : Str} {K : PySem.W.Frag} (h : neB x K = true) : PySem.W.findIn K (.ref (ga K x)) "__ne__" = some (some (.builtin "object.__ne__")) := eqO_ok h
def fnB (x m : Str) : Fact := fun K => PySem.W.fnIn K (ma K (ga K x) m)
def kitB1 (t c : PySem.W.Frag → Value) (b : Bool) : Fact := fun K => decide (PySem.W.kitOne K (t K) (c K) = some b)
def kitA1 (t : PySem.W.Frag → Value) (cs : List Str) (b : Bool) : Fact := fun K => decide (PySem.W.kitAny K (t K) (cs.map fun x => .ref (ga K x)) = some b)
def fa_ (f : Fa) : Fact := fun K => f.ok K
end HP

set_option Elab.async false
set_option linter.all false
set_option maxRecDepth 100000
set_option maxHeartbeats 4000000
namespace K13
open PySem PySem.Spec PyProof.Rows L2 RT
def top (i : Nat) : Stmt := PySem.Challenge.pw_plotpens_k13_motions_put_together.main.body.getD i (.Pass ⟨0, 0, 0, 0⟩)
abbrev sis_integer : Stmt := top 7
abbrev sis_integer_within : Stmt := top 8
abbrev sis_tuple_of : Stmt := top 9
abbrev sis_point : Stmt := top 10
abbrev sis_pose : Stmt := top 11
abbrev scheck_pose : Stmt := top 12
abbrev sMotion_init : Stmt := inClass (top 14) 0
abbrev sMotion_turn : Stmt := inClass (top 14) 1
abbrev sMotion_shift : Stmt := inClass (top 14) 2
abbrev sMotion_call : Stmt := inClass (top 14) 3
abbrev sMotion_eq : Stmt := inClass (top 14) 4
abbrev sMotion_add : Stmt := inClass (top 14) 5
abbrev sMotion_mul : Stmt := inClass (top 14) 6
abbrev sMotion_neg : Stmt := inClass (top 14) 7
abbrev sMotion_order : Stmt := inClass (top 14) 8
abbrev sturned_point : Stmt := top 15
abbrev scheck_motion : Stmt := top 16
abbrev s_law_tank : Stmt := top 18
abbrev s_law_dip : Stmt := top 19
abbrev s_law_start : Stmt := top 20
abbrev s_law_moved : Stmt := top 21
abbrev s_law_led : Stmt := top 22
abbrev s_law_power_right : Stmt := top 23
abbrev s_law_order_right : Stmt := top 24
abbrev slaw : Stmt := top 25
abbrev Nis_integer : List Str := ["value"]
theorem scis_integer : FnScope Nis_integer ["value"] (defScope sis_integer) := ⟨rfl, rfl, rfl, by decide +kernel, rfl, by decide +kernel, by decide +kernel⟩
abbrev Nis_integer_within : List Str := ["value", "least", "most"]
theorem scis_integer_within : FnScope Nis_integer_within ["value", "least", "most"] (defScope sis_integer_within) := ⟨rfl, rfl, rfl, by decide +kernel, rfl, by decide +kernel, by decide +kernel⟩
abbrev Nis_tuple_of : List Str := ["value", "many"]
theorem scis_tuple_of : FnScope Nis_tuple_of ["value", "many"] (defScope sis_tuple_of) := ⟨rfl, rfl, rfl, by decide +kernel, rfl, by decide +kernel, by decide +kernel⟩
abbrev Nis_point : List Str := ["value"]
theorem scis_point : FnScope Nis_point ["value"] (defScope sis_point) := ⟨rfl, rfl, rfl, by decide +kernel, rfl, by decide +kernel, by decide +kernel⟩
abbrev Nis_pose : List Str := ["value"]
theorem scis_pose : FnScope Nis_pose ["value"] (defScope sis_pose) := ⟨rfl, rfl, rfl, by decide +kernel, rfl, by decide +kernel, by decide +kernel⟩
abbrev Ncheck_pose : List Str := ["pose"]
theorem sccheck_pose : FnScope Ncheck_pose ["pose"] (defScope scheck_pose) := ⟨rfl, rfl, rfl, by decide +kernel, rfl, by decide +kernel, by decide +kernel⟩
abbrev NMotion_init : List Str := ["self", "turn", "dx", "dy"]
theorem scMotion_init : FnScope NMotion_init ["self", "turn", "dx", "dy"] (defScope sMotion_init) := ⟨rfl, rfl, rfl, by decide +kernel, rfl, by decide +kernel, by decide +kernel⟩
abbrev NMotion_turn : List Str := ["self"]
theorem scMotion_turn : FnScope NMotion_turn ["self"] (defScope sMotion_turn) := ⟨rfl, rfl, rfl, by decide +kernel, rfl, by decide +kernel, by decide +kernel⟩
abbrev NMotion_shift : List Str := ["self"]
theorem scMotion_shift : FnScope NMotion_shift ["self"] (defScope sMotion_shift) := ⟨rfl, rfl, rfl, by decide +kernel, rfl, by decide +kernel, by decide +kernel⟩
abbrev NMotion_call : List Str := ["self", "pose", "x", "y", "heading", "dx", "dy"]
theorem scMotion_call : FnScope NMotion_call ["self", "pose"] (defScope sMotion_call) := ⟨rfl, rfl, rfl, by decide +kernel, rfl, by decide +kernel, by decide +kernel⟩
abbrev NMotion_eq : List Str := ["self", "other"]
theorem scMotion_eq : FnScope NMotion_eq ["self", "other"] (defScope sMotion_eq) := ⟨rfl, rfl, rfl, by decide +kernel, rfl, by decide +kernel, by decide +kernel⟩
abbrev NMotion_add : List Str := ["self", "other", "x", "y", "dx", "dy"]
theorem scMotion_add : FnScope NMotion_add ["self", "other"] (defScope sMotion_add) := ⟨rfl, rfl, rfl, by decide +kernel, rfl, by decide +kernel, by decide +kernel⟩
abbrev NMotion_mul : List Str := ["self", "other", "dx", "dy", "found", "_"]
theorem scMotion_mul : FnScope NMotion_mul ["self", "other"] (defScope sMotion_mul) := ⟨rfl, rfl, rfl, by decide +kernel, rfl, by decide +kernel, by decide +kernel⟩
abbrev NMotion_neg : List Str := ["self", "turn", "dx", "dy"]
theorem scMotion_neg : FnScope NMotion_neg ["self"] (defScope sMotion_neg) := ⟨rfl, rfl, rfl, by decide +kernel, rfl, by decide +kernel, by decide +kernel⟩
abbrev NMotion_order : List Str := ["self"]
theorem scMotion_order : FnScope NMotion_order ["self"] (defScope sMotion_order) := ⟨rfl, rfl, rfl, by decide +kernel, rfl, by decide +kernel, by decide +kernel⟩
abbrev Nturned_point : List Str := ["point", "quarters", "x", "y", "_"]
theorem scturned_point : FnScope Nturned_point ["point", "quarters"] (defScope sturned_point) := ⟨rfl, rfl, rfl, by decide +kernel, rfl, by decide +kernel, by decide +kernel⟩
abbrev Ncheck_motion : List Str := ["motion"]
theorem sccheck_motion : FnScope Ncheck_motion ["motion"] (defScope scheck_motion) := ⟨rfl, rfl, rfl, by decide +kernel, rfl, by decide +kernel, by decide +kernel⟩
abbrev N_law_tank : List Str := ["script", "k", "cell"]
theorem sc_law_tank : FnScope N_law_tank ["script", "k"] (defScope s_law_tank) := ⟨rfl, rfl, rfl, by decide +kernel, rfl, by decide +kernel, by decide +kernel⟩
abbrev N_law_dip : List Str := ["tank", "bound", "found", "mixed"]
theorem sc_law_dip : FnScope N_law_dip ["tank", "bound"] (defScope s_law_dip) := ⟨rfl, rfl, rfl, by decide +kernel, rfl, by decide +kernel, by decide +kernel⟩
abbrev N_law_start : List Str := ["tank", "far_off", "x", "y", "wide"]
theorem sc_law_start : FnScope N_law_start ["tank"] (defScope s_law_start) := ⟨rfl, rfl, rfl, by decide +kernel, rfl, by decide +kernel, by decide +kernel⟩
abbrev N_law_moved : List Str := ["turn_here", "shift_here", "pose_here", "x", "y", "heading", "dx", "dy", "quarter"]
theorem sc_law_moved : FnScope N_law_moved ["turn_here", "shift_here", "pose_here"] (defScope s_law_moved) := ⟨rfl, rfl, rfl, by decide +kernel, rfl, by decide +kernel, by decide +kernel⟩
abbrev N_law_led : List Str := ["motion_here", "pose_here"]
theorem sc_law_led : FnScope N_law_led ["motion_here", "pose_here"] (defScope s_law_led) := ⟨rfl, rfl, rfl, by decide +kernel, rfl, by decide +kernel, by decide +kernel⟩
abbrev N_law_power_right : List Str := ["tank", "one", "pose_here", "here", "back", "other", "many", "x", "y", "heading", "step", "due"]
theorem sc_law_power_right : FnScope N_law_power_right ["tank", "one"] (defScope s_law_power_right) := ⟨rfl, rfl, rfl, by decide +kernel, rfl, by decide +kernel, by decide +kernel⟩
abbrev N_law_order_right : List Str := ["one", "due", "here", "many"]
theorem sc_law_order_right : FnScope N_law_order_right ["one"] (defScope s_law_order_right) := ⟨rfl, rfl, rfl, by decide +kernel, rfl, by decide +kernel, by decide +kernel⟩
abbrev Nlaw : List Str := ["script", "k", "tank", "again", "first", "second", "one", "two", "pose_here", "due", "alike", "x", "y", "heading", "near", "p", "q", "quarters"]
theorem sclaw : FnScope Nlaw ["script"] (defScope slaw) := ⟨rfl, rfl, rfl, by decide +kernel, rfl, by decide +kernel, by decide +kernel⟩
/-! ### the head -/
def dis_integer : HP.DefA := ⟨fun K => He.fAd K ("is_integer", none), "is_integer", "is_integer", defArgs sis_integer, defBody sis_integer, defScope sis_integer, [], []⟩
def dis_integer_within : HP.DefA := ⟨fun K => He.fAd K ("is_integer_within", none), "is_integer_within", "is_integer_within", defArgs sis_integer_within, defBody sis_integer_within, defScope sis_integer_within, [], []⟩
def dis_tuple_of : HP.DefA := ⟨fun K => He.fAd K ("is_tuple_of", none), "is_tuple_of", "is_tuple_of", defArgs sis_tuple_of, defBody sis_tuple_of, defScope sis_tuple_of, [], []⟩
def dis_point : HP.DefA := ⟨fun K => He.fAd K ("is_point", none), "is_point", "is_point", defArgs sis_point, defBody sis_point, defScope sis_point, [], []⟩
def dis_pose : HP.DefA := ⟨fun K => He.fAd K ("is_pose", none), "is_pose", "is_pose", defArgs sis_pose, defBody sis_pose, defScope sis_pose, [], []⟩
def dcheck_pose : HP.DefA := ⟨fun K => He.fAd K ("check_pose", none), "check_pose", "check_pose", defArgs scheck_pose, defBody scheck_pose, defScope scheck_pose, [], []⟩
def dMotion_init : HP.DefA := ⟨fun K => He.fAd K ("Motion", some "__init__"), "__init__", "Motion.__init__", defArgs sMotion_init, defBody sMotion_init, defScope sMotion_init, [], []⟩
def dMotion_turn : HP.DefA := ⟨HP.getA "Motion" "turn", "turn", "Motion.turn", defArgs sMotion_turn, defBody sMotion_turn, defScope sMotion_turn, [], []⟩
def dMotion_shift : HP.DefA := ⟨HP.getA "Motion" "shift", "shift", "Motion.shift", defArgs sMotion_shift, defBody sMotion_shift, defScope sMotion_shift, [], []⟩
def dMotion_call : HP.DefA := ⟨fun K => He.fAd K ("Motion", some "__call__"), "__call__", "Motion.__call__", defArgs sMotion_call, defBody sMotion_call, defScope sMotion_call, [], []⟩
def dMotion_eq : HP.DefA := ⟨fun K => He.fAd K ("Motion", some "__eq__"), "__eq__", "Motion.__eq__", defArgs sMotion_eq, defBody sMotion_eq, defScope sMotion_eq, [], []⟩
def dMotion_add : HP.DefA := ⟨fun K => He.fAd K ("Motion", some "__add__"), "__add__", "Motion.__add__", defArgs sMotion_add, defBody sMotion_add, defScope sMotion_add, [], []⟩
def dMotion_mul : HP.DefA := ⟨fun K => He.fAd K ("Motion", some "__mul__"), "__mul__", "Motion.__mul__", defArgs sMotion_mul, defBody sMotion_mul, defScope sMotion_mul, [], []⟩
def dMotion_neg : HP.DefA := ⟨fun K => He.fAd K ("Motion", some "__neg__"), "__neg__", "Motion.__neg__", defArgs sMotion_neg, defBody sMotion_neg, defScope sMotion_neg, [], []⟩
def dMotion_order : HP.DefA := ⟨fun K => He.fAd K ("Motion", some "order"), "order", "Motion.order", defArgs sMotion_order, defBody sMotion_order, defScope sMotion_order, [], []⟩
def dturned_point : HP.DefA := ⟨fun K => He.fAd K ("turned_point", none), "turned_point", "turned_point", defArgs sturned_point, defBody sturned_point, defScope sturned_point, [], []⟩
def dcheck_motion : HP.DefA := ⟨fun K => He.fAd K ("check_motion", none), "check_motion", "check_motion", defArgs scheck_motion, defBody scheck_motion, defScope scheck_motion, [], []⟩
def d_law_tank : HP.DefA := ⟨fun K => He.fAd K ("_law_tank", none), "_law_tank", "_law_tank", defArgs s_law_tank, defBody s_law_tank, defScope s_law_tank, [], []⟩
def d_law_dip : HP.DefA := ⟨fun K => He.fAd K ("_law_dip", none), "_law_dip", "_law_dip", defArgs s_law_dip, defBody s_law_dip, defScope s_law_dip, [], []⟩
def d_law_start : HP.DefA := ⟨fun K => He.fAd K ("_law_start", none), "_law_start", "_law_start", defArgs s_law_start, defBody s_law_start, defScope s_law_start, [], []⟩
def d_law_moved : HP.DefA := ⟨fun K => He.fAd K ("_law_moved", none), "_law_moved", "_law_moved", defArgs s_law_moved, defBody s_law_moved, defScope s_law_moved, [], []⟩
def d_law_led : HP.DefA := ⟨fun K => He.fAd K ("_law_led", none), "_law_led", "_law_led", defArgs s_law_led, defBody s_law_led, defScope s_law_led, [], []⟩
def d_law_power_right : HP.DefA := ⟨fun K => He.fAd K ("_law_power_right", none), "_law_power_right", "_law_power_right", defArgs s_law_power_right, defBody s_law_power_right, defScope s_law_power_right, [], []⟩
def d_law_order_right : HP.DefA := ⟨fun K => He.fAd K ("_law_order_right", none), "_law_order_right", "_law_order_right", defArgs s_law_order_right, defBody s_law_order_right, defScope s_law_order_right, [], []⟩
def dlaw : HP.DefA := ⟨fun K => He.fAd K ("law", none), "law", "law", defArgs slaw, defBody slaw, defScope slaw, [], []⟩
def fns : List HP.DefA := [dis_integer, dis_integer_within, dis_tuple_of, dis_point, dis_pose, dcheck_pose, dMotion_init, dMotion_turn, dMotion_shift, dMotion_call, dMotion_eq, dMotion_add, dMotion_mul, dMotion_neg, dMotion_order, dturned_point, dcheck_motion, d_law_tank, d_law_dip, d_law_start, d_law_moved, d_law_led, d_law_power_right, d_law_order_right, dlaw]
def fa0 : List HP.Fact := [HP.fa_ (.glo "is_integer"), HP.fa_ (.glo "is_integer_within"), HP.fa_ (.glo "is_tuple_of"), HP.fa_ (.glo "is_point"), HP.fa_ (.glo "is_pose"), HP.fa_ (.glo "check_pose"), HP.propB "Motion" "turn", HP.propB "Motion" "shift", HP.fa_ (.meth "Motion" "__call__"), HP.fa_ (.meth "Motion" "__eq__"), HP.fa_ (.meth "Motion" "__add__"), HP.fa_ (.meth "Motion" "__mul__"), HP.fa_ (.meth "Motion" "__neg__"), HP.fa_ (.meth "Motion" "order"), HP.fa_ (.glo "turned_point"), HP.fa_ (.glo "check_motion"), HP.fa_ (.glo "_law_tank"), HP.fa_ (.glo "_law_dip"), HP.fa_ (.glo "_law_start"), HP.fa_ (.glo "_law_moved"), HP.fa_ (.glo "_law_led"), HP.fa_ (.glo "_law_power_right"), HP.fa_ (.glo "_law_order_right"), HP.fa_ (.glo "law"), HP.fa_ (.glo "PlotError")]
def fa1 : List HP.Fact := [HP.fa_ (.glo "InvalidTimes"), HP.fa_ (.glo "InvalidMotion"), HP.fa_ (.glo "InvalidPose"), HP.fa_ (.glo "Motion"), HP.fa_ (.cls "Motion"), HP.fa_ (.mkr "Motion"), HP.isiB "Motion", HP.kitB1 (fun K => .ref (He.ga K "Motion")) (fun K => .ref (He.ga K "Motion")) true, HP.fa_ (.noat "Motion" "_turn"), HP.fa_ (.noat "Motion" "_shift"), HP.fa_ (.free "ValueError"), HP.fa_ (.free "bool"), HP.fa_ (.free "int"), HP.fa_ (.free "isinstance"), HP.fa_ (.free "len"), HP.fa_ (.free "max"), HP.fa_ (.free "min"), HP.fa_ (.free "property"), HP.fa_ (.free "range"), HP.fa_ (.free "repr"), HP.fa_ (.free "tuple"), HP.fa_ (.int "MOST_TIMES" (1000000000000000000000000000000)), HP.firstB "Motion", HP.neB "Motion", HP.notFirstB "Motion" (fun K => (.ref (He.ga K "Motion")))]
def fa2 : List HP.Fact := [HP.notFirstB "Motion" (fun _ => .type "NoneType"), HP.kitB1 (fun _ => .type "NoneType") (fun K => (.ref (He.ga K "Motion"))) false, HP.notFirstB "Motion" (fun _ => .type "int"), HP.kitB1 (fun _ => .type "int") (fun K => (.ref (He.ga K "Motion"))) false, HP.notFirstB "Motion" (fun _ => .type "bool"), HP.kitB1 (fun _ => .type "bool") (fun K => (.ref (He.ga K "Motion"))) false, HP.notFirstB "Motion" (fun _ => .type "str"), HP.kitB1 (fun _ => .type "str") (fun K => (.ref (He.ga K "Motion"))) false, HP.notFirstB "Motion" (fun _ => .type "list"), HP.kitB1 (fun _ => .type "list") (fun K => (.ref (He.ga K "Motion"))) false, HP.notFirstB "Motion" (fun _ => .type "tuple"), HP.kitB1 (fun _ => .type "tuple") (fun K => (.ref (He.ga K "Motion"))) false, HP.fnB "Motion" "__call__", HP.rightB "Motion" .Mult "int"]
def facts : List HP.Fact := fa0 ++ fa1 ++ fa2
def nm0 : List Str := ["PlotError", "InvalidTimes", "InvalidMotion", "InvalidPose", "MOST_TIMES", "is_integer", "is_integer_within", "is_tuple_of", "is_point", "is_pose", "check_pose", "Motion", "turned_point", "check_motion", "_law_tank", "_law_dip", "_law_start", "_law_moved", "_law_led", "_law_power_right", "_law_order_right"]
def names : List Str := nm0
structure Tx (K : PySem.W.Frag) (mg : Str → Option Value) : Prop where
  g_is_integer : mg "is_integer" = some (.ref (He.ga K "is_integer"))
  g_is_integer_within : mg "is_integer_within" = some (.ref (He.ga K "is_integer_within"))
  g_is_tuple_of : mg "is_tuple_of" = some (.ref (He.ga K "is_tuple_of"))
  g_is_point : mg "is_point" = some (.ref (He.ga K "is_point"))
  g_is_pose : mg "is_pose" = some (.ref (He.ga K "is_pose"))
  g_check_pose : mg "check_pose" = some (.ref (He.ga K "check_pose"))
  p_Motion_turn : PropOf K (He.ga K "Motion") "turn" (He.ma K (He.ga K "Motion") "turn") (HP.getA "Motion" "turn" K)
  p_Motion_shift : PropOf K (He.ga K "Motion") "shift" (He.ma K (He.ga K "Motion") "shift") (HP.getA "Motion" "shift" K)
  m_Motion_call : Meth K (He.ga K "Motion") "__call__" (He.ma K (He.ga K "Motion") "__call__")
  m_Motion_eq : Meth K (He.ga K "Motion") "__eq__" (He.ma K (He.ga K "Motion") "__eq__")
  m_Motion_add : Meth K (He.ga K "Motion") "__add__" (He.ma K (He.ga K "Motion") "__add__")
  m_Motion_mul : Meth K (He.ga K "Motion") "__mul__" (He.ma K (He.ga K "Motion") "__mul__")
  m_Motion_neg : Meth K (He.ga K "Motion") "__neg__" (He.ma K (He.ga K "Motion") "__neg__")
  m_Motion_order : Meth K (He.ga K "Motion") "order" (He.ma K (He.ga K "Motion") "order")
  g_turned_point : mg "turned_point" = some (.ref (He.ga K "turned_point"))
  g_check_motion : mg "check_motion" = some (.ref (He.ga K "check_motion"))
  g__law_tank : mg "_law_tank" = some (.ref (He.ga K "_law_tank"))
  g__law_dip : mg "_law_dip" = some (.ref (He.ga K "_law_dip"))
  g__law_start : mg "_law_start" = some (.ref (He.ga K "_law_start"))
  g__law_moved : mg "_law_moved" = some (.ref (He.ga K "_law_moved"))
  g__law_led : mg "_law_led" = some (.ref (He.ga K "_law_led"))
  g__law_power_right : mg "_law_power_right" = some (.ref (He.ga K "_law_power_right"))
  g__law_order_right : mg "_law_order_right" = some (.ref (He.ga K "_law_order_right"))
  g_law : mg "law" = some (.ref (He.ga K "law"))
  g_PlotError : mg "PlotError" = some (.ref (He.ga K "PlotError"))
  g_InvalidTimes : mg "InvalidTimes" = some (.ref (He.ga K "InvalidTimes"))
  g_InvalidMotion : mg "InvalidMotion" = some (.ref (He.ga K "InvalidMotion"))
  g_InvalidPose : mg "InvalidPose" = some (.ref (He.ga K "InvalidPose"))
  g_Motion : mg "Motion" = some (.ref (He.ga K "Motion"))
  c_Motion : Cls K (He.ga K "Motion")
  k_Motion : Mk K (He.ga K "Motion") (He.ma K (He.ga K "Motion") "__init__")
  i_Motion : HP.IsiC K (He.ga K "Motion")
  t_Motion : PySem.W.kitOne K (.ref (He.ga K "Motion")) (.ref (He.ga K "Motion")) = some true
  n_Motion__turn : NoAttr K (He.ga K "Motion") "_turn"
  n_Motion__shift : NoAttr K (He.ga K "Motion") "_shift"
  z_ValueError : mg "ValueError" = none
  z_bool : mg "bool" = none
  z_int : mg "int" = none
  z_isinstance : mg "isinstance" = none
  z_len : mg "len" = none
  z_max : mg "max" = none
  z_min : mg "min" = none
  z_property : mg "property" = none
  z_range : mg "range" = none
  z_repr : mg "repr" = none
  z_tuple : mg "tuple" = none
  v_MOST_TIMES : ∃ t, mg "MOST_TIMES" = some (.int (1000000000000000000000000000000) t)
  f_Motion : PySem.W.selfFirst K (He.ga K "Motion") = true
  ne_Motion : PySem.W.findIn K (.ref (He.ga K "Motion")) "__ne__" = some (some (.builtin "object.__ne__"))
  nf_self : PySem.W.notFirst K (He.ga K "Motion") (.ref (He.ga K "Motion")) = true
  nf_none : PySem.W.notFirst K (He.ga K "Motion") (.type "NoneType") = true
  kt_none : PySem.W.kitOne K (.type "NoneType") (.ref (He.ga K "Motion")) = some false
  nf_int : PySem.W.notFirst K (He.ga K "Motion") (.type "int") = true
  kt_int : PySem.W.kitOne K (.type "int") (.ref (He.ga K "Motion")) = some false
  nf_bool : PySem.W.notFirst K (He.ga K "Motion") (.type "bool") = true
  kt_bool : PySem.W.kitOne K (.type "bool") (.ref (He.ga K "Motion")) = some false
  nf_str : PySem.W.notFirst K (He.ga K "Motion") (.type "str") = true
  kt_str : PySem.W.kitOne K (.type "str") (.ref (He.ga K "Motion")) = some false
  nf_list : PySem.W.notFirst K (He.ga K "Motion") (.type "list") = true
  kt_list : PySem.W.kitOne K (.type "list") (.ref (He.ga K "Motion")) = some false
  nf_tuple : PySem.W.notFirst K (He.ga K "Motion") (.type "tuple") = true
  kt_tuple : PySem.W.kitOne K (.type "tuple") (.ref (He.ga K "Motion")) = some false
  fn_Motion_call : PySem.W.fnIn K (He.ma K (He.ga K "Motion") "__call__") = true
  r_Mult_int : RT.RightT K (He.ga K "Motion") .Mult "int"
structure Ds (K : PySem.W.Frag) where
  fd_is_integer : FuncData
  F_is_integer : FunD K "is_integer" "is_integer" (defArgs sis_integer) (defBody sis_integer) (defScope sis_integer) [] [] (dis_integer.adr K) fd_is_integer
  fd_is_integer_within : FuncData
  F_is_integer_within : FunD K "is_integer_within" "is_integer_within" (defArgs sis_integer_within) (defBody sis_integer_within) (defScope sis_integer_within) [] [] (dis_integer_within.adr K) fd_is_integer_within
  fd_is_tuple_of : FuncData
  F_is_tuple_of : FunD K "is_tuple_of" "is_tuple_of" (defArgs sis_tuple_of) (defBody sis_tuple_of) (defScope sis_tuple_of) [] [] (dis_tuple_of.adr K) fd_is_tuple_of
  fd_is_point : FuncData
  F_is_point : FunD K "is_point" "is_point" (defArgs sis_point) (defBody sis_point) (defScope sis_point) [] [] (dis_point.adr K) fd_is_point
  fd_is_pose : FuncData
  F_is_pose : FunD K "is_pose" "is_pose" (defArgs sis_pose) (defBody sis_pose) (defScope sis_pose) [] [] (dis_pose.adr K) fd_is_pose
  fd_check_pose : FuncData
  F_check_pose : FunD K "check_pose" "check_pose" (defArgs scheck_pose) (defBody scheck_pose) (defScope scheck_pose) [] [] (dcheck_pose.adr K) fd_check_pose
  fd_Motion_init : FuncData
  F_Motion_init : FunD K "__init__" "Motion.__init__" (defArgs sMotion_init) (defBody sMotion_init) (defScope sMotion_init) [] [] (dMotion_init.adr K) fd_Motion_init
  fd_Motion_turn : FuncData
  F_Motion_turn : FunD K "turn" "Motion.turn" (defArgs sMotion_turn) (defBody sMotion_turn) (defScope sMotion_turn) [] [] (dMotion_turn.adr K) fd_Motion_turn
  fd_Motion_shift : FuncData
  F_Motion_shift : FunD K "shift" "Motion.shift" (defArgs sMotion_shift) (defBody sMotion_shift) (defScope sMotion_shift) [] [] (dMotion_shift.adr K) fd_Motion_shift
  fd_Motion_call : FuncData
  F_Motion_call : FunD K "__call__" "Motion.__call__" (defArgs sMotion_call) (defBody sMotion_call) (defScope sMotion_call) [] [] (dMotion_call.adr K) fd_Motion_call
  fd_Motion_eq : FuncData
  F_Motion_eq : FunD K "__eq__" "Motion.__eq__" (defArgs sMotion_eq) (defBody sMotion_eq) (defScope sMotion_eq) [] [] (dMotion_eq.adr K) fd_Motion_eq
  fd_Motion_add : FuncData
  F_Motion_add : FunD K "__add__" "Motion.__add__" (defArgs sMotion_add) (defBody sMotion_add) (defScope sMotion_add) [] [] (dMotion_add.adr K) fd_Motion_add
  fd_Motion_mul : FuncData
  F_Motion_mul : FunD K "__mul__" "Motion.__mul__" (defArgs sMotion_mul) (defBody sMotion_mul) (defScope sMotion_mul) [] [] (dMotion_mul.adr K) fd_Motion_mul
  fd_Motion_neg : FuncData
  F_Motion_neg : FunD K "__neg__" "Motion.__neg__" (defArgs sMotion_neg) (defBody sMotion_neg) (defScope sMotion_neg) [] [] (dMotion_neg.adr K) fd_Motion_neg
  fd_Motion_order : FuncData
  F_Motion_order : FunD K "order" "Motion.order" (defArgs sMotion_order) (defBody sMotion_order) (defScope sMotion_order) [] [] (dMotion_order.adr K) fd_Motion_order
  fd_turned_point : FuncData
  F_turned_point : FunD K "turned_point" "turned_point" (defArgs sturned_point) (defBody sturned_point) (defScope sturned_point) [] [] (dturned_point.adr K) fd_turned_point
  fd_check_motion : FuncData
  F_check_motion : FunD K "check_motion" "check_motion" (defArgs scheck_motion) (defBody scheck_motion) (defScope scheck_motion) [] [] (dcheck_motion.adr K) fd_check_motion
  fd__law_tank : FuncData
  F__law_tank : FunD K "_law_tank" "_law_tank" (defArgs s_law_tank) (defBody s_law_tank) (defScope s_law_tank) [] [] (d_law_tank.adr K) fd__law_tank
  fd__law_dip : FuncData
  F__law_dip : FunD K "_law_dip" "_law_dip" (defArgs s_law_dip) (defBody s_law_dip) (defScope s_law_dip) [] [] (d_law_dip.adr K) fd__law_dip
  fd__law_start : FuncData
  F__law_start : FunD K "_law_start" "_law_start" (defArgs s_law_start) (defBody s_law_start) (defScope s_law_start) [] [] (d_law_start.adr K) fd__law_start
  fd__law_moved : FuncData
  F__law_moved : FunD K "_law_moved" "_law_moved" (defArgs s_law_moved) (defBody s_law_moved) (defScope s_law_moved) [] [] (d_law_moved.adr K) fd__law_moved
  fd__law_led : FuncData
  F__law_led : FunD K "_law_led" "_law_led" (defArgs s_law_led) (defBody s_law_led) (defScope s_law_led) [] [] (d_law_led.adr K) fd__law_led
  fd__law_power_right : FuncData
  F__law_power_right : FunD K "_law_power_right" "_law_power_right" (defArgs s_law_power_right) (defBody s_law_power_right) (defScope s_law_power_right) [] [] (d_law_power_right.adr K) fd__law_power_right
  fd__law_order_right : FuncData
  F__law_order_right : FunD K "_law_order_right" "_law_order_right" (defArgs s_law_order_right) (defBody s_law_order_right) (defScope s_law_order_right) [] [] (d_law_order_right.adr K) fd__law_order_right
  fd_law : FuncData
  F_law : FunD K "law" "law" (defArgs slaw) (defBody slaw) (defScope slaw) [] [] (dlaw.adr K) fd_law
theorem tx_of {K : PySem.W.Frag} {h : Heap} {mg : Str → Option Value} (X : K.In h) (G : h.Ns mainGlobals mg) (c : HP.SaysA facts fns K) : Tx K mg where
  g_is_integer := He.glo_ok X G (c.fact 0 rfl)
  g_is_integer_within := He.glo_ok X G (c.fact 1 rfl)
  g_is_tuple_of := He.glo_ok X G (c.fact 2 rfl)
  g_is_point := He.glo_ok X G (c.fact 3 rfl)
  g_is_pose := He.glo_ok X G (c.fact 4 rfl)
  g_check_pose := He.glo_ok X G (c.fact 5 rfl)
  p_Motion_turn := HP.propB_ok (c.fact 6 rfl)
  p_Motion_shift := HP.propB_ok (c.fact 7 rfl)
  m_Motion_call := He.meth_ok (c.fact 8 rfl)
  m_Motion_eq := He.meth_ok (c.fact 9 rfl)
  m_Motion_add := He.meth_ok (c.fact 10 rfl)
  m_Motion_mul := He.meth_ok (c.fact 11 rfl)
  m_Motion_neg := He.meth_ok (c.fact 12 rfl)
  m_Motion_order := He.meth_ok (c.fact 13 rfl)
  g_turned_point := He.glo_ok X G (c.fact 14 rfl)
  g_check_motion := He.glo_ok X G (c.fact 15 rfl)
  g__law_tank := He.glo_ok X G (c.fact 16 rfl)
  g__law_dip := He.glo_ok X G (c.fact 17 rfl)
  g__law_start := He.glo_ok X G (c.fact 18 rfl)
  g__law_moved := He.glo_ok X G (c.fact 19 rfl)
  g__law_led := He.glo_ok X G (c.fact 20 rfl)
  g__law_power_right := He.glo_ok X G (c.fact 21 rfl)
  g__law_order_right := He.glo_ok X G (c.fact 22 rfl)
  g_law := He.glo_ok X G (c.fact 23 rfl)
  g_PlotError := He.glo_ok X G (c.fact 24 rfl)
  g_InvalidTimes := He.glo_ok X G (c.fact 25 rfl)
  g_InvalidMotion := He.glo_ok X G (c.fact 26 rfl)
  g_InvalidPose := He.glo_ok X G (c.fact 27 rfl)
  g_Motion := He.glo_ok X G (c.fact 28 rfl)
  c_Motion := He.cls_ok (c.fact 29 rfl)
  k_Motion := He.mkr_ok (c.fact 30 rfl)
  i_Motion := HP.isiB_ok (c.fact 31 rfl)
  t_Motion := of_decide_eq_true (c.fact 32 rfl)
  n_Motion__turn := He.noat_ok (c.fact 33 rfl)
  n_Motion__shift := He.noat_ok (c.fact 34 rfl)
  z_ValueError := He.free_ok X G (c.fact 35 rfl)
  z_bool := He.free_ok X G (c.fact 36 rfl)
  z_int := He.free_ok X G (c.fact 37 rfl)
  z_isinstance := He.free_ok X G (c.fact 38 rfl)
  z_len := He.free_ok X G (c.fact 39 rfl)
  z_max := He.free_ok X G (c.fact 40 rfl)
  z_min := He.free_ok X G (c.fact 41 rfl)
  z_property := He.free_ok X G (c.fact 42 rfl)
  z_range := He.free_ok X G (c.fact 43 rfl)
  z_repr := He.free_ok X G (c.fact 44 rfl)
  z_tuple := He.free_ok X G (c.fact 45 rfl)
  v_MOST_TIMES := He.int_ok X G (c.fact 46 rfl)
  f_Motion := (c.fact 47 rfl)
  ne_Motion := HP.neB_ok (c.fact 48 rfl)
  nf_self := (c.fact 49 rfl)
  nf_none := (c.fact 50 rfl)
  kt_none := of_decide_eq_true (c.fact 51 rfl)
  nf_int := (c.fact 52 rfl)
  kt_int := of_decide_eq_true (c.fact 53 rfl)
  nf_bool := (c.fact 54 rfl)
  kt_bool := of_decide_eq_true (c.fact 55 rfl)
  nf_str := (c.fact 56 rfl)
  kt_str := of_decide_eq_true (c.fact 57 rfl)
  nf_list := (c.fact 58 rfl)
  kt_list := of_decide_eq_true (c.fact 59 rfl)
  nf_tuple := (c.fact 60 rfl)
  kt_tuple := of_decide_eq_true (c.fact 61 rfl)
  fn_Motion_call := (c.fact 62 rfl)
  r_Mult_int := HP.rightB_ok (c.fact 63 rfl)
theorem ds_of {K : PySem.W.Frag} (c : HP.SaysA facts fns K) : Nonempty (Ds K) := by
  obtain ⟨f0, p0⟩ := c.def_ 0 (d := dis_integer) rfl
  obtain ⟨f1, p1⟩ := c.def_ 1 (d := dis_integer_within) rfl
  obtain ⟨f2, p2⟩ := c.def_ 2 (d := dis_tuple_of) rfl
  obtain ⟨f3, p3⟩ := c.def_ 3 (d := dis_point) rfl
  obtain ⟨f4, p4⟩ := c.def_ 4 (d := dis_pose) rfl
  obtain ⟨f5, p5⟩ := c.def_ 5 (d := dcheck_pose) rfl
  obtain ⟨f6, p6⟩ := c.def_ 6 (d := dMotion_init) rfl
  obtain ⟨f7, p7⟩ := c.def_ 7 (d := dMotion_turn) rfl
  obtain ⟨f8, p8⟩ := c.def_ 8 (d := dMotion_shift) rfl
  obtain ⟨f9, p9⟩ := c.def_ 9 (d := dMotion_call) rfl
  obtain ⟨f10, p10⟩ := c.def_ 10 (d := dMotion_eq) rfl
  obtain ⟨f11, p11⟩ := c.def_ 11 (d := dMotion_add) rfl
  obtain ⟨f12, p12⟩ := c.def_ 12 (d := dMotion_mul) rfl
  obtain ⟨f13, p13⟩ := c.def_ 13 (d := dMotion_neg) rfl
  obtain ⟨f14, p14⟩ := c.def_ 14 (d := dMotion_order) rfl
  obtain ⟨f15, p15⟩ := c.def_ 15 (d := dturned_point) rfl
  obtain ⟨f16, p16⟩ := c.def_ 16 (d := dcheck_motion) rfl
  obtain ⟨f17, p17⟩ := c.def_ 17 (d := d_law_tank) rfl
  obtain ⟨f18, p18⟩ := c.def_ 18 (d := d_law_dip) rfl
  obtain ⟨f19, p19⟩ := c.def_ 19 (d := d_law_start) rfl
  obtain ⟨f20, p20⟩ := c.def_ 20 (d := d_law_moved) rfl
  obtain ⟨f21, p21⟩ := c.def_ 21 (d := d_law_led) rfl
  obtain ⟨f22, p22⟩ := c.def_ 22 (d := d_law_power_right) rfl
  obtain ⟨f23, p23⟩ := c.def_ 23 (d := d_law_order_right) rfl
  obtain ⟨f24, p24⟩ := c.def_ 24 (d := dlaw) rfl
  exact ⟨⟨f0, p0, f1, p1, f2, p2, f3, p3, f4, p4, f5, p5, f6, p6, f7, p7, f8, p8, f9, p9, f10, p10, f11, p11, f12, p12, f13, p13, f14, p14, f15, p15, f16, p16, f17, p17, f18, p18, f19, p19, f20, p20, f21, p21, f22, p22, f23, p23, f24, p24⟩⟩
theorem b_is_integer {K : PySem.W.Frag} (D : Ds K) : Binds K D.fd_is_integer ["value"] [] := D.F_is_integer.bindsN fun _ _ _ _ _ _ us hl => match us, hl with | [_], _ => rfl
theorem b_is_integer_within {K : PySem.W.Frag} (D : Ds K) : Binds K D.fd_is_integer_within ["value", "least", "most"] [] := D.F_is_integer_within.bindsN fun _ _ _ _ _ _ us hl => match us, hl with | [_, _, _], _ => rfl
theorem b_is_tuple_of {K : PySem.W.Frag} (D : Ds K) : Binds K D.fd_is_tuple_of ["value", "many"] [] := D.F_is_tuple_of.bindsN fun _ _ _ _ _ _ us hl => match us, hl with | [_, _], _ => rfl
theorem b_is_point {K : PySem.W.Frag} (D : Ds K) : Binds K D.fd_is_point ["value"] [] := D.F_is_point.bindsN fun _ _ _ _ _ _ us hl => match us, hl with | [_], _ => rfl
theorem b_is_pose {K : PySem.W.Frag} (D : Ds K) : Binds K D.fd_is_pose ["value"] [] := D.F_is_pose.bindsN fun _ _ _ _ _ _ us hl => match us, hl with | [_], _ => rfl
theorem b_check_pose {K : PySem.W.Frag} (D : Ds K) : Binds K D.fd_check_pose ["pose"] [] := D.F_check_pose.bindsN fun _ _ _ _ _ _ us hl => match us, hl with | [_], _ => rfl
theorem b_Motion_init {K : PySem.W.Frag} (D : Ds K) : Binds K D.fd_Motion_init ["self", "turn", "dx", "dy"] [] := D.F_Motion_init.bindsN fun _ _ _ _ _ _ us hl => match us, hl with | [_, _, _, _], _ => rfl
theorem b_Motion_turn {K : PySem.W.Frag} (D : Ds K) : Binds K D.fd_Motion_turn ["self"] [] := D.F_Motion_turn.bindsN fun _ _ _ _ _ _ us hl => match us, hl with | [_], _ => rfl
theorem b_Motion_shift {K : PySem.W.Frag} (D : Ds K) : Binds K D.fd_Motion_shift ["self"] [] := D.F_Motion_shift.bindsN fun _ _ _ _ _ _ us hl => match us, hl with | [_], _ => rfl
theorem b_Motion_call {K : PySem.W.Frag} (D : Ds K) : Binds K D.fd_Motion_call ["self", "pose"] [] := D.F_Motion_call.bindsN fun _ _ _ _ _ _ us hl => match us, hl with | [_, _], _ => rfl
theorem b_Motion_eq {K : PySem.W.Frag} (D : Ds K) : Binds K D.fd_Motion_eq ["self", "other"] [] := D.F_Motion_eq.bindsN fun _ _ _ _ _ _ us hl => match us, hl with | [_, _], _ => rfl
theorem b_Motion_add {K : PySem.W.Frag} (D : Ds K) : Binds K D.fd_Motion_add ["self", "other"] [] := D.F_Motion_add.bindsN fun _ _ _ _ _ _ us hl => match us, hl with | [_, _], _ => rfl
theorem b_Motion_mul {K : PySem.W.Frag} (D : Ds K) : Binds K D.fd_Motion_mul ["self", "other"] [] := D.F_Motion_mul.bindsN fun _ _ _ _ _ _ us hl => match us, hl with | [_, _], _ => rfl
theorem b_Motion_neg {K : PySem.W.Frag} (D : Ds K) : Binds K D.fd_Motion_neg ["self"] [] := D.F_Motion_neg.bindsN fun _ _ _ _ _ _ us hl => match us, hl with | [_], _ => rfl
theorem b_Motion_order {K : PySem.W.Frag} (D : Ds K) : Binds K D.fd_Motion_order ["self"] [] := D.F_Motion_order.bindsN fun _ _ _ _ _ _ us hl => match us, hl with | [_], _ => rfl
theorem b_turned_point {K : PySem.W.Frag} (D : Ds K) : Binds K D.fd_turned_point ["point", "quarters"] [] := D.F_turned_point.bindsN fun _ _ _ _ _ _ us hl => match us, hl with | [_, _], _ => rfl
theorem b_check_motion {K : PySem.W.Frag} (D : Ds K) : Binds K D.fd_check_motion ["motion"] [] := D.F_check_motion.bindsN fun _ _ _ _ _ _ us hl => match us, hl with | [_], _ => rfl
theorem b__law_tank {K : PySem.W.Frag} (D : Ds K) : Binds K D.fd__law_tank ["script", "k"] [] := D.F__law_tank.bindsN fun _ _ _ _ _ _ us hl => match us, hl with | [_, _], _ => rfl
theorem b__law_dip {K : PySem.W.Frag} (D : Ds K) : Binds K D.fd__law_dip ["tank", "bound"] [] := D.F__law_dip.bindsN fun _ _ _ _ _ _ us hl => match us, hl with | [_, _], _ => rfl
theorem b__law_start {K : PySem.W.Frag} (D : Ds K) : Binds K D.fd__law_start ["tank"] [] := D.F__law_start.bindsN fun _ _ _ _ _ _ us hl => match us, hl with | [_], _ => rfl
theorem b__law_moved {K : PySem.W.Frag} (D : Ds K) : Binds K D.fd__law_moved ["turn_here", "shift_here", "pose_here"] [] := D.F__law_moved.bindsN fun _ _ _ _ _ _ us hl => match us, hl with | [_, _, _], _ => rfl
theorem b__law_led {K : PySem.W.Frag} (D : Ds K) : Binds K D.fd__law_led ["motion_here", "pose_here"] [] := D.F__law_led.bindsN fun _ _ _ _ _ _ us hl => match us, hl with | [_, _], _ => rfl
theorem b__law_power_right {K : PySem.W.Frag} (D : Ds K) : Binds K D.fd__law_power_right ["tank", "one"] [] := D.F__law_power_right.bindsN fun _ _ _ _ _ _ us hl => match us, hl with | [_, _], _ => rfl
theorem b__law_order_right {K : PySem.W.Frag} (D : Ds K) : Binds K D.fd__law_order_right ["one"] [] := D.F__law_order_right.bindsN fun _ _ _ _ _ _ us hl => match us, hl with | [_], _ => rfl
theorem b_law {K : PySem.W.Frag} (D : Ds K) : Binds K D.fd_law ["script"] [] := D.F_law.bindsN fun _ _ _ _ _ _ us hl => match us, hl with | [_], _ => rfl
abbrev Rw : PySem.W.OpenRow := PySem.W.OpenLaw.row PySem.Challenge.rw_plotpens_k13_motions_put_together
abbrev hk : PySem.W.Hook := HP.hookA 6 facts fns
def ob (s : PySem.W.SharedT) : HP.Al := HP.obsAG 6 facts fns (HandSHeadRun.getT s)
theorem ob_eq (s : PySem.W.SharedT) : ob s = hk.obs s.abs := HP.obsAG_eq (HandSHeadRun.getT_eq s)
end K13

set_option Elab.async false
set_option linter.all false
set_option maxRecDepth 100000
set_option maxHeartbeats 0
namespace K13
open PySem PySem.Spec PyProof.Rows L2
theorem run0 (w : World) : HandSHeadRun.RunEq Rw (PySem.W.view Rw.prog [25]) hk ob 12000 names (w.withFollow "special-get-raises" false) := by
  intro os
  kernel_rfl
theorem run1 (w : World) : HandSHeadRun.RunEq Rw (PySem.W.view Rw.prog [25]) hk ob 12000 names (w.withFollow "special-get-raises" true) := by
  intro os
  kernel_rfl
theorem run (w : World) : HandSHeadRun.RunEq Rw (PySem.W.view Rw.prog [25]) hk ob 12000 names w := PySem.W.byRow2 "special-get-raises" (P := fun w => HandSHeadRun.RunEq Rw (PySem.W.view Rw.prog [25]) hk ob 12000 names w) run0 run1 w
end K13

/-! motions of the plane: mathematics -/
namespace M13
def rot : Nat → Int × Int → Int × Int
  | 0, p => p
  | n + 1, p => (-(rot n p).2, (rot n p).1)
abbrev M3 := Nat × Int × Int
def cmp (m n : M3) : M3 := ((m.1 + n.1) % 4, m.2.1 + (rot m.1 n.2).1, m.2.2 + (rot m.1 n.2).2)
def idM : M3 := (0, 0, 0)
def npow (m : M3) : Nat → M3
  | 0 => idM
  | k + 1 => cmp (npow m k) m
def inv (m : M3) : M3 := ((4 - m.1) % 4, rot ((4 - m.1) % 4) (-m.2.1, -m.2.2))
def zpow (m : M3) : Int → M3
  | .ofNat n => npow m n
  | .negSucc n => npow (inv m) (n + 1)
/-- a motion at a pose -/
def act (m : M3) (p : Int × Int × Nat) : Int × Int × Nat := (p.1 + (rot p.2.2 m.2).1, p.2.1 + (rot p.2.2 m.2).2, (p.2.2 + m.1) % 4)
theorem le3 {n : Nat} (h : n ≤ 3) : n = 0 ∨ n = 1 ∨ n = 2 ∨ n = 3 := by omega
theorem cmp_le (m n : M3) : (cmp m n).1 ≤ 3 := by
  show (m.1 + n.1) % 4 ≤ 3
  omega
theorem inv_le (m : M3) : (inv m).1 ≤ 3 := by
  show (4 - m.1) % 4 ≤ 3
  omega
theorem npow_le (m : M3) : ∀ k, (npow m k).1 ≤ 3
  | 0 => Nat.zero_le _
  | k + 1 => cmp_le _ _
theorem zpow_le (m : M3) : ∀ z, (zpow m z).1 ≤ 3
  | .ofNat n => npow_le m n
  | .negSucc n => npow_le (inv m) (n + 1)
theorem rot_add (a b : Nat) (p : Int × Int) : rot (a + b) p = rot a (rot b p) := by
  induction a with
  | zero => rw [Nat.zero_add]; rfl
  | succ a ih =>
    rw [show a + 1 + b = (a + b) + 1 by omega]
    show (-(rot (a + b) p).2, (rot (a + b) p).1) = _
    rw [ih]
    rfl
theorem rot4 (p : Int × Int) : rot 4 p = p := by
  obtain ⟨x, y⟩ := p
  simp [rot]
theorem rot_mod (n : Nat) (p : Int × Int) : rot (n % 4) p = rot n p := by
  have h : ∀ q r : Nat, rot (4 * q + r) p = rot r p := by
    intro q
    induction q with
    | zero => intro r; rw [Nat.mul_zero, Nat.zero_add]
    | succ q ih =>
      intro r
      rw [show 4 * (q + 1) + r = 4 + (4 * q + r) by omega, rot_add, rot4, ih]
  rw [← h (n / 4) (n % 4), Nat.div_add_mod]
theorem rot_lin (n : Nat) (a b : Int) (p q : Int × Int) : rot n (a * p.1 + b * q.1, a * p.2 + b * q.2) = (a * (rot n p).1 + b * (rot n q).1, a * (rot n p).2 + b * (rot n q).2) := by
  induction n with
  | zero => rfl
  | succ n ih =>
    show (-(rot n _).2, (rot n _).1) = (a * -(rot n p).2 + b * -(rot n q).2, a * (rot n p).1 + b * (rot n q).1)
    rw [ih]
    refine Prod.ext ?_ rfl
    show -(a * (rot n p).2 + b * (rot n q).2) = a * -(rot n p).2 + b * -(rot n q).2
    rw [Int.mul_neg, Int.mul_neg]
    omega
theorem rot_plus (n : Nat) (p q : Int × Int) : rot n (p.1 + q.1, p.2 + q.2) = ((rot n p).1 + (rot n q).1, (rot n p).2 + (rot n q).2) := by
  have h := rot_lin n 1 1 p q
  simpa only [Int.one_mul] using h
theorem rot_smul (n : Nat) (a : Int) (p : Int × Int) : rot n (a * p.1, a * p.2) = (a * (rot n p).1, a * (rot n p).2) := by
  have h := rot_lin n a 0 p p
  simpa only [Int.zero_mul, Int.add_zero] using h
theorem rot_zero (n : Nat) : rot n (0, 0) = (0, 0) := by
  induction n with
  | zero => rfl
  | succ n ih =>
    show (-(rot n (0, 0)).2, (rot n (0, 0)).1) = (0, 0)
    rw [ih]
    rfl
/-- two motions one behind the other -/
theorem act_cmp (m n : M3) (p : Int × Int × Nat) : act (cmp m n) p = act n (act m p) := by
  obtain ⟨x, y, h⟩ := p
  unfold act cmp
  have e1 : rot h (m.2.1 + (rot m.1 n.2).1, m.2.2 + (rot m.1 n.2).2) = ((rot h m.2).1 + (rot (h + m.1) n.2).1, (rot h m.2).2 + (rot (h + m.1) n.2).2) := by
    rw [rot_plus h m.2 (rot m.1 n.2), rot_add]
  have e2 : rot ((h + m.1) % 4) n.2 = rot (h + m.1) n.2 := rot_mod _ _
  refine Prod.ext ?_ (Prod.ext ?_ ?_)
  · show x + (rot h (m.2.1 + (rot m.1 n.2).1, m.2.2 + (rot m.1 n.2).2)).1 = x + (rot h m.2).1 + (rot ((h + m.1) % 4) n.2).1
    rw [e1, e2]
    show x + ((rot h m.2).1 + (rot (h + m.1) n.2).1) = _
    omega
  · show y + (rot h (m.2.1 + (rot m.1 n.2).1, m.2.2 + (rot m.1 n.2).2)).2 = y + (rot h m.2).2 + (rot ((h + m.1) % 4) n.2).2
    rw [e1, e2]
    show y + ((rot h m.2).2 + (rot (h + m.1) n.2).2) = _
    omega
  · show (h + (m.1 + n.1) % 4) % 4 = ((h + m.1) % 4 + n.1) % 4
    omega
theorem act_id (p : Int × Int × Nat) (hp : p.2.2 ≤ 3) : act idM p = p := by
  obtain ⟨x, y, h⟩ := p
  unfold act idM
  show (x + (rot h (0, 0)).1, y + (rot h (0, 0)).2, (h + 0) % 4) = (x, y, h)
  rw [rot_zero]
  show (x + 0, y + 0, (h + 0) % 4) = (x, y, h)
  rw [Int.add_zero, Int.add_zero, Nat.add_zero, Nat.mod_eq_of_lt (show h < 4 from Nat.lt_succ_of_le hp)]
theorem act_le (m : M3) (p : Int × Int × Nat) : (act m p).2.2 ≤ 3 := by
  show (p.2.2 + m.1) % 4 ≤ 3
  omega
/-- what a motion does at (0, 0, 0) tells it -/
theorem act0 (m : M3) (hm : m.1 ≤ 3) : act m (0, 0, 0) = (m.2.1, m.2.2, m.1) := by
  obtain ⟨t, x, y⟩ := m
  show (0 + x, 0 + y, (0 + t) % 4) = (x, y, t)
  rw [Int.zero_add, Int.zero_add, Nat.zero_add, Nat.mod_eq_of_lt (show t < 4 from Nat.lt_succ_of_le hm)]
/-- motions that act alike are equal -/
theorem ext_act {m n : M3} (hm : m.1 ≤ 3) (hn : n.1 ≤ 3) (h : act m (0, 0, 0) = act n (0, 0, 0)) : m = n := by
  rw [act0 m hm, act0 n hn] at h
  obtain ⟨t, x, y⟩ := m
  obtain ⟨u, z, v⟩ := n
  simp only [Prod.mk.injEq] at h ⊢
  omega
theorem cmp_assoc (a b c : M3) : cmp (cmp a b) c = cmp a (cmp b c) :=
  ext_act (cmp_le _ _) (cmp_le _ _) (by rw [act_cmp, act_cmp, act_cmp, act_cmp])
theorem cmp_id (a : M3) (h : a.1 ≤ 3) : cmp a idM = a := ext_act (cmp_le _ _) h (by rw [act_cmp, act_id _ (act_le _ _)])
theorem id_cmp (a : M3) (h : a.1 ≤ 3) : cmp idM a = a := ext_act (cmp_le _ _) h (by rw [act_cmp, act_id _ (Nat.zero_le _)])
theorem cmp_inv (a : M3) (h : a.1 ≤ 3) : cmp a (inv a) = idM := by
  obtain ⟨t, x, y⟩ := a
  rcases le3 h with rfl | rfl | rfl | rfl <;> simp [cmp, inv, idM, rot] <;> omega
theorem inv_cmp (a : M3) (h : a.1 ≤ 3) : cmp (inv a) a = idM := by
  obtain ⟨t, x, y⟩ := a
  rcases le3 h with rfl | rfl | rfl | rfl <;> simp [cmp, inv, idM, rot] <;> omega
theorem npow_one (m : M3) (h : m.1 ≤ 3) : npow m 1 = m := id_cmp m h
theorem npow_succ' (m : M3) (h : m.1 ≤ 3) : ∀ k, npow m (k + 1) = cmp m (npow m k)
  | 0 => by
    show cmp idM m = cmp m idM
    rw [id_cmp m h, cmp_id m h]
  | k + 1 => by
    show cmp (npow m (k + 1)) m = cmp m (cmp (npow m k) m)
    rw [npow_succ' m h k, cmp_assoc]
theorem npow_add (m : M3) (h : m.1 ≤ 3) (a : Nat) : ∀ b, npow m (a + b) = cmp (npow m a) (npow m b)
  | 0 => (cmp_id _ (npow_le _ _)).symm
  | b + 1 => by
    show cmp (npow m (a + b)) m = cmp (npow m a) (cmp (npow m b) m)
    rw [npow_add m h a b, cmp_assoc]
theorem npow_back (m : M3) (h : m.1 ≤ 3) : ∀ k, cmp (npow m k) (npow (inv m) k) = idM
  | 0 => rfl
  | k + 1 => by
    rw [npow_succ' (inv m) (inv_le m)]
    show cmp (cmp (npow m k) m) (cmp (inv m) (npow (inv m) k)) = idM
    rw [cmp_assoc, ← cmp_assoc m (inv m), cmp_inv m h, id_cmp _ (npow_le _ _)]
    exact npow_back m h k
/-- no turn: a shift so often -/
theorem npow_shift (x y : Int) : ∀ k : Nat, npow (0, x, y) k = (0, k * x, k * y)
  | 0 => by simp [npow, idM]
  | k + 1 => by
    show cmp (npow (0, x, y) k) (0, x, y) = _
    rw [npow_shift x y k]
    show ((0 : Nat), (k : Int) * x + x, (k : Int) * y + y) = (0, ((k + 1 : Nat) : Int) * x, ((k + 1 : Nat) : Int) * y)
    rw [show ((k + 1 : Nat) : Int) = (k : Int) + 1 by omega, Int.add_mul, Int.add_mul, Int.one_mul, Int.one_mul]
theorem npow4 (m : M3) (h : m.1 ≤ 3) (h0 : m.1 ≠ 0) : npow m 4 = idM := by
  obtain ⟨t, x, y⟩ := m
  rcases le3 h with rfl | rfl | rfl | rfl
  · exact absurd rfl h0
  all_goals simp [npow, cmp, idM, rot]
  all_goals omega
theorem npow_mod (m : M3) (h : m.1 ≤ 3) (h0 : m.1 ≠ 0) (k : Nat) : npow m (k % 4) = npow m k := by
  have h4 : ∀ q r : Nat, npow m (4 * q + r) = npow m r := by
    intro q
    induction q with
    | zero => intro r; rw [Nat.mul_zero, Nat.zero_add]
    | succ q ih =>
      intro r
      rw [show 4 * (q + 1) + r = 4 + (4 * q + r) by omega, npow_add m h, npow4 m h h0, id_cmp _ (npow_le _ _), ih]
  rw [← h4 (k / 4) (k % 4), Nat.div_add_mod]
theorem act_npow_succ (m : M3) (k : Nat) (p : Int × Int × Nat) : act (npow m (k + 1)) p = act m (act (npow m k) p) := act_cmp _ _ _
theorem zpow_nat (m : M3) (n : Nat) : zpow m (n : Int) = npow m n := rfl
theorem zpow_neg (m : M3) : ∀ n : Nat, zpow m (-(n : Int)) = npow (inv m) n
  | 0 => rfl
  | n + 1 => by
    show zpow m (Int.negSucc n) = _
    rfl
theorem zpow_back (m : M3) (h : m.1 ≤ 3) (n : Nat) : cmp (zpow m n) (zpow m (-(n : Int))) = idM := by
  rw [zpow_nat, zpow_neg]
  exact npow_back m h n
/-- the least number of times that leads back, at least 1 -/
def ord (m : M3) : Option Nat := if m.1 = 0 then (if m.2 = (0, 0) then some 1 else none) else if m.1 = 2 then some 2 else some 4
theorem ord_at (m : M3) (h : m.1 ≤ 3) : ord m = if npow m 1 = idM then some 1 else if npow m 2 = idM then some 2 else if npow m 3 = idM then some 3 else if npow m 4 = idM then some 4 else none := by
  obtain ⟨t, x, y⟩ := m
  rcases le3 h with rfl | rfl | rfl | rfl
  · rw [npow_shift, npow_shift, npow_shift, npow_shift]
    unfold ord idM
    by_cases hx : x = 0
    · subst hx
      by_cases hy : y = 0
      · subst hy
        simp
      · have h2 : ¬ (2 * y = 0) := by omega
        have h3 : ¬ (3 * y = 0) := by omega
        have h4 : ¬ (4 * y = 0) := by omega
        simp [hy, h2, h3, h4]
    · have h2 : ¬ (2 * x = 0) := by omega
      have h3 : ¬ (3 * x = 0) := by omega
      have h4 : ¬ (4 * x = 0) := by omega
      simp [hx, h2, h3, h4]
  · have e1 : npow (1, x, y) 1 ≠ idM := by simp [npow, cmp, idM, rot]
    have e2 : npow (1, x, y) 2 ≠ idM := by simp [npow, cmp, idM, rot]
    have e3 : npow (1, x, y) 3 ≠ idM := by simp [npow, cmp, idM, rot]
    rw [if_neg e1, if_neg e2, if_neg e3, if_pos (npow4 _ (by decide : 1 ≤ 3) (by decide : 1 ≠ 0))]
    rfl
  · have e1 : npow (2, x, y) 1 ≠ idM := by simp [npow, cmp, idM, rot]
    have e2 : npow (2, x, y) 2 = idM := by
      simp [npow, cmp, idM, rot]
      omega
    rw [if_neg e1, if_pos e2]
    rfl
  · have e1 : npow (3, x, y) 1 ≠ idM := by simp [npow, cmp, idM, rot]
    have e2 : npow (3, x, y) 2 ≠ idM := by simp [npow, cmp, idM, rot]
    have e3 : npow (3, x, y) 3 ≠ idM := by simp [npow, cmp, idM, rot]
    rw [if_neg e1, if_neg e2, if_neg e3, if_pos (npow4 _ (by decide : 3 ≤ 3) (by decide : 3 ≠ 0))]
    rfl
end M13

set_option Elab.async false
set_option linter.all false
set_option maxRecDepth 100000
set_option maxHeartbeats 4000000
namespace K13
open PySem PySem.Spec PyProof.Rows L2 RT
theorem same_new {H : Hp} {p : Addr} {o : HO} (h : H p = none) : Same H (upd H p o) := fun b x e => by
  rw [upd_ne (ne_of_none e h)]
  exact e
theorem Same.sqt {K : PySem.W.Frag} {H H' : Hp} {a : Addr} {xs : List V} (e : Same H H') (h : SqT K H a xs) : SqT K H' a xs := by
  rcases h with (h | ⟨o, h⟩) | h
  · exact .inl (.inl (e _ _ h))
  · exact .inl (.inr ⟨o, e _ _ h⟩)
  · exact .inr h
theorem tupT {K : PySem.W.Frag} {H : Hp} {a : Addr} {xs : List V} (h : H a = some (.tup xs)) : SqT K H a xs := .inl (.inl h)
theorem lstL {K : PySem.W.Frag} {H : Hp} {a : Addr} {xs : List V} (h : H a = some (.lst xs)) : SqL K H a xs := .inl (.inl h)
/-- all but the list at t is as it was -/
def Keep (t : Addr) (H H' : Hp) : Prop := ∀ b o, b ≠ t → H b = some o → H' b = some o
theorem Keep.refl (t : Addr) (H : Hp) : Keep t H H := fun _ _ _ h => h
theorem Keep.trans {t : Addr} {H H1 H2 : Hp} (a : Keep t H H1) (b : Keep t H1 H2) : Keep t H H2 := fun c o n h => b c o n (a c o n h)
theorem Same.keep {t : Addr} {H H' : Hp} (e : Same H H') : Keep t H H' := fun b o _ h => e b o h
theorem keep_upd {t : Addr} {H : Hp} {o : HO} : Keep t H (upd H t o) := fun b u n h => by
  rw [upd_ne n]
  exact h
/-- the state of a cell's draws: digits, a number, a counter -/
def Tk (H : Hp) (t : Addr) (c : Nat) : Prop := ∃ A B : Int, H t = some (.lst [.int A, .int B, .int c]) ∧ 0 ≤ A ∧ 0 ≤ B ∧ B < 10000000000000000000000000000000000000000
theorem Tk.same {H H' : Hp} {t : Addr} {c : Nat} (h : Tk H t c) (e : Same H H') : Tk H' t c := by
  obtain ⟨A, B, h1, h2⟩ := h
  exact ⟨A, B, e _ _ h1, h2⟩
theorem p18 : (10 : Int) ^ ((18 : Int).toNat) = 1000000000000000000 := by decide
theorem p39 : (10 : Int) ^ ((39 : Int).toNat) = 1000000000000000000000000000000000000000 := by decide
theorem p42 : (10 : Int) ^ ((42 : Int).toNat) = 1000000000000000000000000000000000000000000 := by decide
theorem p41 : (10 : Int) ^ ((41 : Int).toNat) = 100000000000000000000000000000000000000000 := by decide
theorem pw_ok {j : Int} (h0 : 0 ≤ j) (h : j ≤ 1000000) : CPow 10 j := ⟨h0, h, by decide⟩
theorem bits_le {i : Int} {n : Nat} (hn : 0 < n) (h : i.natAbs < 2 ^ n) : Builtin.Int.intBits i ≤ n := by
  have h2 := PySem.Flt.log2_lt_of hn h
  unfold Builtin.Int.intBits
  split <;> omega
theorem cube_ok {i : Int} (h0 : 0 ≤ i) (h : i < 2 ^ 200) : CPowW i 3 := by
  have b : Builtin.Int.intBits i ≤ 200 := bits_le (by decide) (by omega)
  refine ⟨by decide, ?_⟩
  have e : ((Builtin.Int.intBits i : Nat) : Int) ≤ 200 := by omega
  omega
section
variable {P : Program} {w : World} {K : PySem.W.Frag} {mg : Str → Option Value} {base : Heap}
def spTank (K : PySem.W.Frag) : Sp := fun vs H Q _ => ∃ (a : Addr) (ns : List Int) (k : Nat), vs = [.ref a, .int k] ∧ SqL K H a (ns.map V.int) ∧ k ≤ 100 ∧ ∀ t H', Same H H' → H t = none → Tk H' t 0 → Q (.ref t) H'
theorem ok_tank (D : Ds K) (T : Tx K mg) : FnOk P w K mg base CX0 1 (d_law_tank.adr K) D.fd__law_tank ["script", "k"] (spTank K) := by
  refine D.F__law_tank.ok sc_law_tank (fun vs H Q E h => ?_) (fun cdv A outer s H vs Q E hr h => ?_)
  · obtain ⟨a, ns, k, rfl, _⟩ := h
    rfl
  · obtain ⟨a, ns, k, rfl, hS, hk, q⟩ := h
    have nd := sc_law_tank.nd
    refine ⟨_, PSs.nox (pss_cons (ps_set (i := 2) nd rfl (.inl rfl) pe_int)
      (pss_cons (ps_if (pt_cmpR op_lt (pv 1) (pe_callB call_len_seq (by rfl) T.z_len PySem.boot_len (pa_cons (pv 0) pa_nil)) (nomark _)) (pss_one (ps_set (i := 2) nd rfl (.inl rfl) (pe_ix ix_list (pv 0) (pv 1) (fun _ _ => rfl)))) pss_nil)
      (pss_one (ps_ret (pe_lst (pa_cons (pe_callB (call_max2 rfl) (by rfl) T.z_max (by decide +kernel) (pa_cons pe_int (pa_cons (pe_op op_sub (pv 2) (pe_op op_pow pe_int pe_int)) pa_nil)))
        (pa_cons (pe_op op_add (pe_op op_add (pe_op op_mod (pv 2) (pe_op op_add (pe_op op_pow pe_int pe_int) pe_int)) (pe_op op_mul pe_int (pv 1))) pe_int) (pa_cons pe_int pa_nil)))))))), ?_⟩
    refine ⟨_, rfl, _, rfl, a, _, rfl, .inl hS, _, _, rfl, rfl, _, rfl, ite2 (fun e => ?_) (fun e => ?_)⟩
    · have hk2 : k < ns.length := by
        have e2 := of_decide_eq_true e
        rw [List.length_map] at e2
        omega
      have g : (ns.map V.int)[k]? = some (.int ns[k]) := by
        rw [List.getElem?_map, List.getElem?_eq_getElem hk2]
        rfl
      refine ⟨_, rfl, _, rfl, a, _, _, _, rfl, rfl, hS, atI_nat g, ?_⟩
      refine ⟨_, rfl, _, _, rfl, rfl, pw_ok (by decide) (by decide), _, _, rfl, rfl, _, _, rfl, ?_⟩
      refine ⟨_, rfl, _, _, rfl, rfl, pw_ok (by decide) (by decide), _, _, rfl, rfl, _, _, rfl, rfl, (by show (0 : Int) < _; rw [p39]; decide), _, rfl, _, _, rfl, rfl, .inl ⟨by decide, by decide⟩, _, _, rfl, rfl, _, _, rfl, rfl, by show 3 ≤ sizeLine; decide, fun p hp => ?_⟩
      refine q p _ (same_new hp) hp ⟨_, _, upd_same, ?_, ?_⟩
      · split <;> omega
      · rw [p39]
        omega
    · refine ⟨_, rfl, _, _, rfl, rfl, pw_ok (by decide) (by decide), _, _, rfl, rfl, _, _, rfl, ?_⟩
      refine ⟨_, rfl, _, _, rfl, rfl, pw_ok (by decide) (by decide), _, _, rfl, rfl, _, _, rfl, rfl, (by show (0 : Int) < _; rw [p39]; decide), _, rfl, _, _, rfl, rfl, .inl ⟨by decide, by decide⟩, _, _, rfl, rfl, _, _, rfl, rfl, by show 3 ≤ sizeLine; decide, fun p hp => ?_⟩
      refine q p _ (same_new hp) hp ⟨_, _, upd_same, ?_, ?_⟩
      · split <;> omega
      · rw [p39]
        omega
def spDip : Sp := fun vs H Q _ => ∃ (t : Addr) (b : Int) (c : Nat), vs = [.ref t, .int b] ∧ Tk H t c ∧ c ≤ 100000 ∧ 1 ≤ b ∧ b ≤ 10000000000000000000000000000000000000000 ∧
  ∀ (v : Int) (c' : Nat) H', Keep t H H' → Tk H' t c' → c ≤ c' → c' ≤ c + 1 → 0 ≤ v → v < b → Q (.int v) H'
theorem ok_dip (D : Ds K) (T : Tx K mg) : FnOk P w K mg base CX0 1 (d_law_dip.adr K) D.fd__law_dip ["tank", "bound"] spDip := by
  refine D.F__law_dip.ok sc_law_dip (fun vs H Q E h => ?_) (fun cdv A outer s H vs Q E hr h => ?_)
  · obtain ⟨t, b, c, rfl, _⟩ := h
    rfl
  · obtain ⟨t, b, c, rfl, ⟨A1, B, et, hA, hB, hB2⟩, hc, hb, hb2, q⟩ := h
    have nd := sc_law_dip.nd
    refine ⟨_, PSs.nox (pss_cons (ps_if (pt_cmpR op_gt (pe_ix ix_list (pv 0) pe_int (fun _ _ => rfl)) pe_int (nomark _))
        (pss_cons (ps_set (i := 2) nd rfl (.inl rfl) (pe_op op_mod (pe_ix ix_list (pv 0) pe_int (fun _ _ => rfl)) (pv 1)))
          (pss_cons (ps_asg (pe_op op_fdivW (pe_ix ix_list (pv 0) pe_int (fun _ _ => rfl)) (pv 1)) (pg_sub (pv 0) pe_int set_list)) (pss_one (ps_ret (pv 2))))) pss_nil)
      (pss_cons (ps_asg (pe_op op_add (pe_ix ix_list (pv 0) pe_int (fun _ _ => rfl)) pe_int) (pg_sub (pv 0) pe_int set_list))
      (pss_cons (ps_set (i := 3) nd rfl (.inl rfl) (pe_op op_mod (pe_op op_powW (pe_op op_add (pe_ix ix_list (pv 0) pe_int (fun _ _ => rfl)) (pe_op op_mul pe_int (pe_ix ix_list (pv 0) pe_int (fun _ _ => rfl)))) pe_int) (pe_op op_add (pe_op op_pow pe_int pe_int) pe_int)))
      (pss_cons (ps_set (i := 3) nd rfl (.inl rfl) (pe_op op_mod (pe_op op_powW (pe_op op_add (pv 3) (pe_op op_mul pe_int (pe_ix ix_list (pv 0) pe_int (fun _ _ => rfl)))) pe_int) (pe_op op_add (pe_op op_pow pe_int pe_int) pe_int)))
      (pss_one (ps_ret (pe_op op_mod (pe_op op_fdivW (pv 3) pe_int) (pv 1)))))))), ?_⟩
    have g0 : atI [V.int A1, V.int B, V.int c] 0 = some (.int A1) := atI_nat (j := 0) rfl
    refine ⟨_, rfl, t, _, 0, _, rfl, rfl, lstL et, g0, _, _, rfl, rfl, _, rfl, ite2 (fun e => ?_) (fun e => ?_)⟩
    · have e0 : 0 < A1 := of_decide_eq_true e
      refine ⟨_, rfl, t, _, 0, _, rfl, rfl, lstL et, g0, _, rfl, _, _, rfl, rfl, hb, ?_⟩
      refine ⟨_, rfl, t, _, 0, _, rfl, rfl, lstL et, g0, _, rfl, _, _, rfl, rfl, wide_div (b := 200) (by omega) (by omega) (by decide) (by decide), ?_⟩
      refine ⟨_, rfl, t, _, 0, 0, rfl, rfl, et, rfl, _, rfl, ?_⟩
      exact q _ c _ keep_upd ⟨_, B, upd_same, Int.ediv_nonneg hA (by omega), hB, hB2⟩ (Nat.le_refl _) (by omega) (Int.emod_nonneg _ (by omega)) (Int.emod_lt_of_pos _ (by omega))
    · have g2 : atI [V.int A1, V.int B, V.int c] 2 = some (.int c) := atI_nat (j := 2) rfl
      refine ⟨_, rfl, t, _, 2, _, rfl, rfl, lstL et, g2, _, _, rfl, rfl, _, rfl, t, _, 2, 2, rfl, rfl, et, rfl, ?_⟩
      have et2 : upd H t (.lst ([V.int A1, V.int B, V.int c].set 2 (.int ((c : Int) + 1)))) t = some (.lst [.int A1, .int B, .int ((c : Int) + 1)]) := upd_same
      have k1 : atI [V.int A1, V.int B, V.int ((c : Int) + 1)] 1 = some (.int B) := atI_nat (j := 1) rfl
      have k2 : atI [V.int A1, V.int B, V.int ((c : Int) + 1)] 2 = some (.int ((c : Int) + 1)) := atI_nat (j := 2) rfl
      refine ⟨_, rfl, t, _, 1, _, rfl, rfl, lstL et2, k1, _, rfl, t, _, 2, _, rfl, rfl, lstL et2, k2, _, _, rfl, rfl, .inl ⟨by decide, by decide⟩, _, _, rfl, rfl, _, _, rfl, rfl, cube_ok (by omega) (by omega), _, _, rfl, rfl, pw_ok (by decide) (by decide), _, _, rfl, rfl, _, _, rfl, rfl, (by show (0 : Int) < _; rw [p42]; decide), ?_⟩
      have m0 : 0 ≤ (B + 86028157 * ((c : Int) + 1)) ^ (3 : Int).toNat % (10 ^ (42 : Int).toNat + 63) := Int.emod_nonneg _ (by rw [p42]; decide)
      have m1 : (B + 86028157 * ((c : Int) + 1)) ^ (3 : Int).toNat % (10 ^ (42 : Int).toNat + 63) < 1000000000000000000000000000000000000000063 := by
        rw [p42]
        exact Int.emod_lt_of_pos _ (by decide)
      refine ⟨_, rfl, _, rfl, t, _, 2, _, rfl, rfl, lstL et2, k2, _, _, rfl, rfl, .inl ⟨by decide, by decide⟩, _, _, rfl, rfl, _, _, rfl, rfl, cube_ok (by omega) (by omega), _, _, rfl, rfl, pw_ok (by decide) (by decide), _, _, rfl, rfl, _, _, rfl, rfl, (by show (0 : Int) < _; rw [p41]; decide), ?_⟩
      refine ⟨_, rfl, _, _, rfl, rfl, wide_div (b := 200) (by decide) (by decide) (by decide) (by decide), _, rfl, _, _, rfl, rfl, hb, ?_⟩
      exact q _ (c + 1) _ keep_upd ⟨A1, B, by rw [et2]; rfl, hA, hB, hB2⟩ (by omega) (Nat.le_refl _) (Int.emod_nonneg _ (by omega)) (Int.emod_lt_of_pos _ (by omega))
end
end K13

set_option Elab.async false
set_option linter.all false
set_option maxRecDepth 100000
set_option maxHeartbeats 4000000
namespace K13
open PySem PySem.Spec PyProof.Rows L2 RT
abbrev Big : Int := 1000000000000000000000000000000000000000000000000000000000000000000000000000000000000000000000000000
theorem p30 : (10 : Int) ^ ((30 : Int).toNat) = 1000000000000000000000000000000 := by decide
theorem p60 : (10 : Int) ^ ((60 : Int).toNat) = 1000000000000000000000000000000000000000000000000000000000000 := by decide
theorem p38 : (10 : Int) ^ ((38 : Int).toNat) = 100000000000000000000000000000000000000 := by decide
theorem p20 : (10 : Int) ^ ((20 : Int).toNat) = 100000000000000000000 := by decide
theorem far_at {a b c d : Int} {v : Int} (h0 : 0 ≤ v) (h : v < 4) (ha : 0 ≤ a ∧ a ≤ 100000000000000000000000000000000000000000000000000000000000000000000000000000000000000000000000000) (hb : 0 ≤ b ∧ b ≤ 100000000000000000000000000000000000000000000000000000000000000000000000000000000000000000000000000)
    (hc : 0 ≤ c ∧ c ≤ 100000000000000000000000000000000000000000000000000000000000000000000000000000000000000000000000000) (hd : 0 ≤ d ∧ d ≤ 100000000000000000000000000000000000000000000000000000000000000000000000000000000000000000000000000) :
    ∃ f : Int, atI [V.int a, V.int b, V.int c, V.int d] v = some (.int f) ∧ 0 ≤ f ∧ f ≤ 100000000000000000000000000000000000000000000000000000000000000000000000000000000000000000000000000 := by
  have e : v = 0 ∨ v = 1 ∨ v = 2 ∨ v = 3 := by omega
  rcases e with rfl | rfl | rfl | rfl
  · exact ⟨a, atI_nat (j := 0) rfl, ha⟩
  · exact ⟨b, atI_nat (j := 1) rfl, hb⟩
  · exact ⟨c, atI_nat (j := 2) rfl, hc⟩
  · exact ⟨d, atI_nat (j := 3) rfl, hd⟩
theorem wide_at {v : Int} (h0 : 0 ≤ v) (h : v < 2) : ∃ f : Int, atI [V.int 5, V.int (10 ^ ((20 : Int).toNat))] v = some (.int f) ∧ (f = 5 ∨ f = 100000000000000000000) := by
  have e : v = 0 ∨ v = 1 := by omega
  rcases e with rfl | rfl
  · exact ⟨5, atI_nat (j := 0) rfl, .inl rfl⟩
  · exact ⟨_, atI_nat (j := 1) rfl, .inr p20⟩
theorem tri {f d M : Int} (hf : 0 ≤ f) (hM : f ≤ M) (h0 : 0 ≤ d) (h : d < 3) : -M ≤ f * (d - 1) ∧ f * (d - 1) ≤ M := by
  have e : d = 0 ∨ d = 1 ∨ d = 2 := by omega
  rcases e with rfl | rfl | rfl
  · rw [show ((0 : Int) - 1) = -1 from rfl, Int.mul_neg, Int.mul_one]
    omega
  · rw [show ((1 : Int) - 1) = 0 from rfl, Int.mul_zero]
    omega
  · rw [show ((2 : Int) - 1) = 1 from rfl, Int.mul_one]
    omega
section
variable {P : Program} {w : World} {K : PySem.W.Frag} {mg : Str → Option Value} {base : Heap}
/-- a drawn pose -/
def Ps (H : Hp) (p : Addr) (x y : Int) (h : Nat) : Prop := H p = some (.tup [.int x, .int y, .int h]) ∧ h ≤ 3
def spStart : Sp := fun vs H Q _ => ∃ (t : Addr) (c : Nat), vs = [.ref t] ∧ Tk H t c ∧ c ≤ 90000 ∧
  ∀ p (x y : Int) (h c' : Nat) H', Keep t H H' → Tk H' t c' → c ≤ c' → c' ≤ c + 7 → H p = none → Ps H' p x y h → -Big ≤ x → x ≤ Big → -Big ≤ y → y ≤ Big → Q (.ref p) H'
theorem Keep.free {t : Addr} {H H' : Hp} {p : Addr} (e : Keep t H H') (h : H' p = none) (n : p ≠ t) : H p = none := by
  cases q : H p with
  | none => rfl
  | some o =>
    rw [e p o n q] at h
    cases h
theorem ok_start (D : Ds K) (T : Tx K mg) : FnOk P w K mg base CX0 2 (d_law_start.adr K) D.fd__law_start ["tank"] spStart := by
  have G : FnOk P w K mg base CX0 1 _ _ _ spDip := ok_dip D T
  refine D.F__law_start.ok sc_law_start (fun vs H Q E h => ?_) (fun cdv A outer s H vs Q E hr h => ?_)
  · obtain ⟨t, c, rfl, _⟩ := h
    rfl
  · obtain ⟨t, c, rfl, tk, hc, q⟩ := h
    have nd := sc_law_start.nd
    refine ⟨_, PSs.nox (pss_cons (ps_set (i := 1) nd rfl (.inl rfl) (pe_ix ix_list (pe_lst (pa_cons pe_int (pa_cons (pe_op op_pow pe_int pe_int) (pa_cons (pe_op op_pow pe_int pe_int) (pa_cons (pe_op op_mulW (pe_op op_pow pe_int pe_int) (pe_op op_pow pe_int pe_int)) pa_nil)))))
        (pe_call G hr (by rfl) T.g__law_dip D.F__law_dip.kp (b__law_dip D) .nil pass0 (pa_cons (pv 0) (pa_cons pe_int pa_nil))) (fun _ _ => rfl)))
      (pss_cons (ps_par (i := 2) (j := 3) (by rfl) nd rfl rfl (by decide) rfl rfl
        (pa_cons (pe_op op_mul (pv 1) (pe_op op_sub (pe_call G hr (by rfl) T.g__law_dip D.F__law_dip.kp (b__law_dip D) .nil pass0 (pa_cons (pv 0) (pa_cons pe_int pa_nil))) pe_int))
          (pa_cons (pe_op op_mul (pv 1) (pe_op op_sub (pe_call G hr (by rfl) T.g__law_dip D.F__law_dip.kp (b__law_dip D) .nil pass0 (pa_cons (pv 0) (pa_cons pe_int pa_nil))) pe_int)) pa_nil)) (by rfl))
      (pss_cons (ps_set (i := 4) nd rfl (.inl rfl) (pe_ix ix_list (pe_lst (pa_cons pe_int (pa_cons (pe_op op_pow pe_int pe_int) pa_nil)))
        (pe_call G hr (by rfl) T.g__law_dip D.F__law_dip.kp (b__law_dip D) .nil pass0 (pa_cons (pv 0) (pa_cons pe_int pa_nil))) (fun _ _ => rfl)))
      (pss_one (ps_ret (pe_tup
        (pa_cons (pe_op op_sub (pe_op op_add (pv 2) (pe_call G hr (by rfl) T.g__law_dip D.F__law_dip.kp (b__law_dip D) .nil pass0 (pa_cons (pv 0) (pa_cons (pv 4) pa_nil)))) (pe_op op_fdivW (pv 4) pe_int))
        (pa_cons (pe_op op_sub (pe_op op_add (pv 3) (pe_call G hr (by rfl) T.g__law_dip D.F__law_dip.kp (b__law_dip D) .nil pass0 (pa_cons (pv 0) (pa_cons (pv 4) pa_nil)))) (pe_op op_fdivW (pv 4) pe_int))
        (pa_cons (pe_call G hr (by rfl) T.g__law_dip D.F__law_dip.kp (b__law_dip D) .nil pass0 (pa_cons (pv 0) (pa_cons pe_int pa_nil))) pa_nil))))))))), ?_⟩
    obtain ⟨A0, B0, et, _⟩ := id tk
    -- far_off
    refine ⟨_, _, rfl, rfl, pw_ok (by decide) (by decide), _, _, rfl, rfl, pw_ok (by decide) (by decide), _, _, rfl, rfl, pw_ok (by decide) (by decide), _, _, rfl, rfl, pw_ok (by decide) (by decide), _, _, rfl, rfl, wide_mul (a := 200) (b := 200) (by rw [p60]; decide) (by rw [p38]; decide) (by decide) (by decide) (by decide), by show 4 ≤ sizeLine; decide, fun l hl => ?_⟩
    have tl : t ≠ l := ne_of_none et hl
    refine ⟨_, rfl, t, 4, c, rfl, tk.same (same_new hl), by omega, by decide, by decide, fun v1 c1 H1 k1 t1 l1 u1 a1 b1 => ?_⟩
    obtain ⟨f, hf, f0, f1⟩ := far_at a1 b1 (a := 0) (b := 10 ^ (30 : Int).toNat) (c := 10 ^ (60 : Int).toNat) (d := 10 ^ (60 : Int).toNat * 10 ^ (38 : Int).toNat) ⟨by decide, by decide⟩ ⟨by rw [p30]; decide, by rw [p30]; decide⟩ ⟨by rw [p60]; decide, by rw [p60]; decide⟩ ⟨by rw [p60, p38]; decide, by rw [p60, p38]; decide⟩
    refine ⟨l, _, v1, _, rfl, rfl, lstL (k1 l _ (Ne.symm tl) upd_same), hf, ?_⟩
    -- x, y
    refine ⟨_, rfl, _, rfl, t, 3, c1, rfl, t1, by omega, by decide, by decide, fun v2 c2 H2 k2 t2 l2 u2 a2 b2 => ⟨_, _, rfl, rfl, _, _, rfl, rfl, .inr ⟨by omega, by omega⟩, ?_⟩⟩
    refine ⟨_, rfl, _, rfl, t, 3, c2, rfl, t2, by omega, by decide, by decide, fun v3 c3 H3 k3 t3 l3 u3 a3 b3 => ⟨_, _, rfl, rfl, _, _, rfl, rfl, .inr ⟨by omega, by omega⟩, _, _, rfl, ?_⟩⟩
    obtain ⟨X1, X2⟩ := tri f0 f1 a2 b2
    obtain ⟨Y1, Y2⟩ := tri f0 f1 a3 b3
    -- wide
    refine ⟨_, _, rfl, rfl, pw_ok (by decide) (by decide), by show 2 ≤ sizeLine; decide, fun m hm => ?_⟩
    obtain ⟨A3, B3, et3, _⟩ := id t3
    have tm : t ≠ m := ne_of_none et3 hm
    refine ⟨_, rfl, t, 2, c3, rfl, t3.same (same_new hm), by omega, by decide, by decide, fun v4 c4 H4 k4 t4 l4 u4 a4 b4 => ?_⟩
    obtain ⟨wd, hw, hw2⟩ := wide_at a4 b4
    have w1 : 1 ≤ wd ∧ wd ≤ 100000000000000000000 := by omega
    refine ⟨m, _, v4, _, rfl, rfl, lstL (k4 m _ (Ne.symm tm) upd_same), hw, ?_⟩
    -- the pose
    refine ⟨_, rfl, _, rfl, _, rfl, t, wd, c4, rfl, t4, by omega, by omega, by omega, fun v5 c5 H5 k5 t5 l5 u5 a5 b5 => ⟨_, _, rfl, rfl, _, rfl, _, _, rfl, rfl, wide_div (b := 4) (by decide) (by decide) (by decide) (by decide), _, _, rfl, rfl, ?_⟩⟩
    refine ⟨_, rfl, _, rfl, _, rfl, t, wd, c5, rfl, t5, by omega, by omega, by omega, fun v6 c6 H6 k6 t6 l6 u6 a6 b6 => ⟨_, _, rfl, rfl, _, rfl, _, _, rfl, rfl, wide_div (b := 4) (by decide) (by decide) (by decide) (by decide), _, _, rfl, rfl, ?_⟩⟩
    refine ⟨_, rfl, t, 4, c6, rfl, t6, by omega, by decide, by decide, fun v7 c7 H7 k7 t7 l7 u7 a7 b7 => ?_⟩
    refine ⟨by show 3 ≤ sizeLine; decide, fun p hp => ?_⟩
    obtain ⟨A7, B7, et7, _⟩ := id t7
    have tp : t ≠ p := ne_of_none et7 hp
    obtain ⟨h, rfl⟩ := Int.eq_ofNat_of_zero_le a7
    have kk : Keep t H H7 := (Same.keep (same_new hl)).trans (k1.trans (k2.trans (k3.trans ((Same.keep (same_new hm)).trans (k4.trans (k5.trans (k6.trans k7)))))))
    refine q p _ _ h c7 _ (kk.trans (Same.keep (same_new hp))) (t7.same (same_new hp)) (by omega) (by omega) (kk.free hp (Ne.symm tp)) ⟨upd_same, by omega⟩ ?_ ?_ ?_ ?_
    all_goals (unfold Big; rcases hw2 with rfl | rfl <;> omega)
end
end K13

set_option Elab.async false
set_option linter.all false
set_option maxRecDepth 100000
set_option maxHeartbeats 4000000
namespace K13
open PySem PySem.Spec PyProof.Rows L2 RT M13
/-- a method of the class, with its promise -/
structure MethO (P : Program) (w : World) (K : PySem.W.Frag) (mg : Str → Option Value) (base : Heap) (nm : Str) (sp : Sp) where
  f : Addr
  fd : FuncData
  ps : List Str
  m : Meth K (He.ga K "Motion") nm f
  F : FnOk P w K mg base CX0 9 f fd ps sp
  b : Binds K fd ps []
structure PropO (P : Program) (w : World) (K : PySem.W.Frag) (mg : Str → Option Value) (base : Heap) (nm : Str) (sp : Sp) where
  p : Addr
  g : Addr
  fd : FuncData
  ps : List Str
  h : PropOf K (He.ga K "Motion") nm p g
  F : FnOk P w K mg base CX0 9 g fd ps sp
  b : Binds K fd ps []
abbrev MoT := Hp → Addr → M3 → Prop
def tupO (H : Hp) (p : Addr) (x y : Int) : Prop := H p = some (.tup [.int x, .int y])
def poseO (H : Hp) (p : Addr) (q : Int × Int × Nat) : Prop := H p = some (.tup [.int q.1, .int q.2.1, .int (q.2.2 : Int)]) ∧ q.2.2 ≤ 3
def ordV : Option Nat → V
  | none => .non
  | some n => .int n
abbrev T30 : Int := 1000000000000000000000000000000
def sMk (K : PySem.W.Frag) (Mo : MoT) : Sp := fun vs H Q _ => ∃ (a d : Addr) (t : Nat) (dx dy : Int), vs = [.ref a, .int t, .int dx, .int dy] ∧ t ≤ 3 ∧ H a = some (.ins (He.ga K "Motion") d []) ∧
  ∀ H', (∀ b o, b ≠ a → H b = some o → H' b = some o) → Mo H' a (t, dx, dy) → Q .non H'
def sAdd (Mo : MoT) : Sp := fun vs H Q _ => ∃ a b m n, vs = [.ref a, .ref b] ∧ Mo H a m ∧ Mo H b n ∧ ∀ r H', Same H H' → Mo H' r (cmp m n) → Q (.ref r) H'
def sMul (Mo : MoT) : Sp := fun vs H Q _ => ∃ a z m, vs = [.ref a, .int z] ∧ Mo H a m ∧ -T30 ≤ z ∧ z ≤ T30 ∧ m.2.1.natAbs < 2 ^ 400 ∧ m.2.2.natAbs < 2 ^ 400 ∧ ∀ r H', Same H H' → Mo H' r (zpow m z) → Q (.ref r) H'
def sNeg (Mo : MoT) : Sp := fun vs H Q _ => ∃ a m, vs = [.ref a] ∧ Mo H a m ∧ ∀ r H', Same H H' → Mo H' r (inv m) → Q (.ref r) H'
def sEq (K : PySem.W.Frag) (Mo : MoT) : Sp := fun vs H Q _ => ∃ a m v, vs = [.ref a, v] ∧ Mo H a m ∧
  ((∃ b n, v = .ref b ∧ Mo H b n ∧ Q (.bl (decide (m = n))) H) ∨ (∃ T, TyY K H v (.type T) ∧ T ∈ (["NoneType", "int", "str", "list", "tuple"] : List String) ∧ Q (.bl false) H))
def sCall (Mo : MoT) : Sp := fun vs H Q _ => ∃ a m p q, vs = [.ref a, .ref p] ∧ Mo H a m ∧ poseO H p q ∧ ∀ r H', Same H H' → poseO H' r (act m q) → Q (.ref r) H'
def sOrd (Mo : MoT) : Sp := fun vs H Q _ => ∃ a m, vs = [.ref a] ∧ Mo H a m ∧ ∀ H', Same H H' → Q (ordV (ord m)) H'
def sTurn (Mo : MoT) : Sp := fun vs H Q _ => ∃ a m, vs = [.ref a] ∧ Mo H a m ∧ Q (.int (m.1 : Int)) H
def sShift (Mo : MoT) : Sp := fun vs H Q _ => ∃ a m, vs = [.ref a] ∧ Mo H a m ∧ ∀ r H', Same H H' → tupO H' r m.2.1 m.2.2 → Q (.ref r) H'
/-- the class of motions, by what it promises -/
structure Mots (P : Program) (w : World) (K : PySem.W.Frag) (mg : Str → Option Value) (base : Heap) where
  Mo : MoT
  same : ∀ {H H' : Hp} {a : Addr} {m : M3}, Mo H a m → Same H H' → Mo H' a m
  keep : ∀ {H H' : Hp} {a t : Addr} {m : M3} {c : Nat}, Mo H a m → Tk H t c → Keep t H H' → Mo H' a m
  ne : PySem.W.findIn K (.ref (He.ga K "Motion")) "__ne__" = some (some (.builtin "object.__ne__"))
  mro : PySem.W.mroIn K (He.ga K "Motion") (.type "object") = some true
  ins : ∀ {H : Hp} {a : Addr} {m : M3}, Mo H a m → ∃ d fs, H a = some (.ins (He.ga K "Motion") d fs)
  le : ∀ {H : Hp} {a : Addr} {m : M3}, Mo H a m → m.1 ≤ 3
  noa : ∀ {H : Hp} {a d : Addr} {m : M3} {fs : List (Str × V)}, Mo H a m → H a = some (.ins (He.ga K "Motion") d fs) → fs.lookup ("order" : Str) = none
  fi : Addr
  fdi : FuncData
  psi : List Str
  mkf : Mk K (He.ga K "Motion") fi
  Fi : FnOk P w K mg base CX0 9 fi fdi psi (sMk K Mo)
  bi : Binds K fdi psi []
  add : MethO P w K mg base "__add__" (sAdd Mo)
  mul : MethO P w K mg base "__mul__" (sMul Mo)
  neg : MethO P w K mg base "__neg__" (sNeg Mo)
  eq : MethO P w K mg base "__eq__" (sEq K Mo)
  call : MethO P w K mg base "__call__" (sCall Mo)
  cfn : PySem.W.fnIn K call.f = true
  ord : MethO P w K mg base "order" (sOrd Mo)
  turn : PropO P w K mg base "turn" (sTurn Mo)
  shift : PropO P w K mg base "shift" (sShift Mo)
/-- Motion(..) -/
theorem Mots.made {P : Program} {w : World} {K : PySem.W.Frag} {mg : Str → Option Value} {base : Heap} (M : Mots P w K mg base) {H : Hp} {t : Nat} {dx dy : Int} {Q : VK} {E : XK} (ht : t ≤ 3) {x dx' : Addr} (hx : H x = none) (hd : H dx' = none) (q : ∀ H', Same H H' → M.Mo H' x (t, dx, dy) → Q .non H') :
    sMk K M.Mo (.ref x :: ([.int t, .int dx, .int dy] ++ [])) (upd (upd H dx' (.own x)) x (.ins (He.ga K "Motion") dx' [])) Q E :=
  ⟨x, dx', t, dx, dy, rfl, ht, upd_same, fun H' k m => q H' (fun b o e => k b o (ne_of_none e hx) (by rw [upd_ne (ne_of_none e hx), upd_ne (ne_of_none e hd)]; exact e)) m⟩
theorem poseO.same {H H' : Hp} {p : Addr} {q : Int × Int × Nat} (h : poseO H p q) (e : Same H H') : poseO H' p q := ⟨e _ _ h.1, h.2⟩
theorem poseO.keep {H H' : Hp} {p t : Addr} {q : Int × Int × Nat} {c : Nat} (h : poseO H p q) (tk : Tk H t c) (e : Keep t H H') : poseO H' p q := by
  obtain ⟨A, B, et, _⟩ := tk
  refine ⟨e p _ (fun z => ?_) h.1, h.2⟩
  have h1 := h.1
  rw [z, et] at h1
  cases h1
def poseD (q : Int × Int × Nat) : PyData := .tuple [.int q.1, .int q.2.1, .int (q.2.2 : Int)]
theorem poseO.dp {K : PySem.W.Frag} {H : Hp} {p : Addr} {q : Int × Int × Nat} (h : poseO H p q) : Dp K H (.ref p) (poseD q) := .tup (tupT h.1) (.cons (.int _) (.cons (.int _) (.cons (.int _) .nil)))
theorem poseD_shaped (q : Int × Int × Nat) : SeqAt.shaped (poseD q) = true := rfl
theorem poseD_eqv (q r : Int × Int × Nat) : PyData.eqv (poseD q) (poseD r) = decide (q = r) := by
  have h := PySem.W.ked_eqvAll [q.1, q.2.1, (q.2.2 : Int)] [r.1, r.2.1, (r.2.2 : Int)]
  show PyData.eqvAll _ _ = _
  refine h.trans ?_
  obtain ⟨x, y, n⟩ := q
  obtain ⟨u, v, m⟩ := r
  refine decide_eq_decide.mpr ?_
  simp only [List.cons.injEq, Prod.mk.injEq, and_true]
  omega
theorem rot_case (n : Nat) (x y : Int) : rot (n + 1) (x, y) = (-(rot n (x, y)).2, (rot n (x, y)).1) := rfl
section
variable {P : Program} {w : World} {K : PySem.W.Frag} {mg : Str → Option Value} {base : Heap}
def spMoved : Sp := fun vs H Q _ => ∃ (s p : Addr) (m : M3) (q : Int × Int × Nat), vs = [.int (m.1 : Int), .ref s, .ref p] ∧ tupO H s m.2.1 m.2.2 ∧ poseO H p q ∧ ∀ r H', Same H H' → poseO H' r (act m q) → Q (.ref r) H'
theorem ok_moved (D : Ds K) (T : Tx K mg) : FnOk P w K mg base CX0 1 (d_law_moved.adr K) D.fd__law_moved ["turn_here", "shift_here", "pose_here"] spMoved := by
  refine D.F__law_moved.ok sc_law_moved (fun vs H Q E h => ?_) (fun cdv A outer s H vs Q E hr h => ?_)
  · obtain ⟨s, p, m, q, rfl, _⟩ := h
    rfl
  · obtain ⟨s, p, ⟨t, dx, dy⟩, ⟨x, y, h⟩, rfl, es, ⟨ep, hh⟩, q⟩ := h
    have hh : h ≤ 3 := hh
    have nd := sc_law_moved.nd
    refine ⟨_, PSs.nox (pss_cons (ps_asg (pv 2) (pg_tup (by rfl) (pgs_cons (pg_name (i := 3) nd rfl (.inl rfl)) (pgs_cons (pg_name (i := 4) nd rfl (.inl rfl)) (pgs_cons (pg_name (i := 5) nd rfl (.inl rfl)) pgs_nil)))))
      (pss_cons (ps_asg (pv 1) (pg_tup (by rfl) (pgs_cons (pg_name (i := 6) nd rfl (.inl rfl)) (pgs_cons (pg_name (i := 7) nd rfl (.inl rfl)) pgs_nil))))
      (pss_cons (ps_for PassesOwn.never rfl (pi_range1 (by rfl) T.z_range (pa_cons (pv 5) pa_nil)) (pg_name (i := 8) nd rfl (.inl rfl))
          (pss_one (ps_par (i := 6) (j := 7) (by rfl) nd rfl rfl (by decide) rfl rfl (pa_cons (pe_op op_sub pe_int (pv 7)) (pa_cons (pv 6) pa_nil)) (by rfl))))
      (pss_one (ps_ret (pe_tup (pa_cons (pe_op op_add (pv 3) (pv 6)) (pa_cons (pe_op op_add (pv 4) (pv 7)) (pa_cons (pe_op op_mod (pe_op op_add (pv 5) (pv 0)) pe_int) pa_nil))))))))), ?_⟩
    refine ⟨_, rfl, p, _, rfl, tupT ep, rfl, _, _, rfl, _, _, rfl, _, _, rfl, rfl, ?_⟩
    refine ⟨_, rfl, s, _, rfl, tupT es, rfl, _, _, rfl, _, _, rfl, rfl, ?_⟩
    refine ⟨_, rfl, (h : Int), rfl, by omega, by omega, ?_⟩
    refine for_range (lo := 0) (n := (h : Int).toNat) (fun i σ H' => ∃ z, σ = [some (.int t), some (.ref s), some (.ref p), some (.int x), some (.int y), some (.int h), some (.int (rot i (dx, dy)).1), some (.int (rot i (dx, dy)).2), z] ∧ H' = H) ⟨none, rfl, rfl⟩ (fun i σ' H' hi hp => ?_) fun σ' H' hp => ?_
    · obtain ⟨z, rfl, rfl⟩ := hp
      refine ⟨_, rfl, _, _, rfl, rfl, _, rfl, _, _, rfl, some (.int (0 + (i : Int))), ?_, rfl⟩
      rw [rot_case]
      show _ = [_, _, _, _, _, _, some (V.int (-(rot i (dx, dy)).2)), _, _]
      rw [← Int.zero_sub]
      rfl
    · obtain ⟨z, rfl, rfl⟩ := hp
      refine ⟨_, rfl, _, rfl, _, _, rfl, rfl, _, rfl, _, rfl, _, _, rfl, rfl, _, rfl, _, rfl, _, _, rfl, rfl, _, _, rfl, rfl, by show (0 : Int) < 4; decide, by show 3 ≤ sizeLine; decide, fun r hr => ?_⟩
      refine q r _ (same_new hr) ⟨?_, act_le _ _⟩
      rw [upd_same, show ((h : Int).toNat) = h by omega]
      show some (HO.tup [_, _, .int (((h : Int) + (t : Int)) % 4)]) = some (HO.tup [_, _, .int (((h + t) % 4 : Nat) : Int)])
      rw [show ((h : Int) + (t : Int)) % 4 = (((h + t) % 4 : Nat) : Int) by omega]
      rfl
theorem ok_led (D : Ds K) (T : Tx K mg) (M : Mots P w K mg base) : FnOk P w K mg base CX0 10 (d_law_led.adr K) D.fd__law_led ["motion_here", "pose_here"] (sCall M.Mo) := by
  refine D.F__law_led.ok sc_law_led (fun vs H Q E h => ?_) (fun cdv A outer s H vs Q E hr h => ?_)
  · obtain ⟨a, m, p, q, rfl, _⟩ := h
    rfl
  · obtain ⟨a, m, p, q, rfl, hm, hp, k⟩ := h
    have nd := sc_law_led.nd
    refine ⟨_, PSs.nox (pss_one (ps_ret (pe_callO (i := 0) M.call.m M.cfn M.call.F hr (by rfl) (.inl rfl) M.call.b pass0 (pa_cons (pv 1) pa_nil)))), ?_⟩
    obtain ⟨d, fs, e⟩ := M.ins hm
    exact ⟨a, rfl, _, rfl, ⟨d, fs, e⟩, a, m, p, q, rfl, hm, hp, k⟩
end
end K13

set_option Elab.async false
set_option linter.all false
set_option maxRecDepth 100000
set_option maxHeartbeats 4000000
namespace K13
open PySem PySem.Spec PyProof.Rows L2 RT M13
def fstP (m : M3) : Nat → Option Nat
  | 0 => none
  | i + 1 => match fstP m i with
    | some j => some j
    | none => if npow m (i + 1) = idM then some (i + 1) else none
theorem fstP_ord (m : M3) (h : m.1 ≤ 3) : fstP m 4 = ord m := by
  rw [ord_at m h]
  simp only [fstP]
  by_cases h1 : npow m 1 = idM
  · simp [h1]
  · by_cases h2 : npow m 2 = idM
    · simp [h1, h2]
    · by_cases h3 : npow m 3 = idM
      · simp [h1, h2, h3]
      · by_cases h4 : npow m 4 = idM
        · simp [h1, h2, h3, h4]
        · simp [h1, h2, h3, h4]
theorem ord_small (m : M3) {n : Nat} (h : ord m = some n) : n ≤ 4 := by
  unfold ord at h
  split at h
  · split at h <;> cases h
    omega
  · split at h <;> cases h <;> omega
section
variable {P : Program} {w : World} {K : PySem.W.Frag} {mg : Str → Option Value} {base : Heap}
def spOrdR (Mo : MoT) : Sp := fun vs H Q _ => ∃ a m, vs = [.ref a] ∧ Mo H a m ∧ ∀ H', Same H H' → Q (.bl true) H'
theorem ok_ordR (D : Ds K) (T : Tx K mg) (M : Mots P w K mg base) : FnOk P w K mg base CX0 11 (d_law_order_right.adr K) D.fd__law_order_right ["one"] (spOrdR M.Mo) := by
  refine D.F__law_order_right.ok sc_law_order_right (fun vs H Q E h => ?_) (fun cdv A outer s H vs Q E hr h => ?_)
  · obtain ⟨a, m, rfl, _⟩ := h
    rfl
  · obtain ⟨a, m, rfl, hm, q⟩ := h
    have nd := sc_law_order_right.nd
    have hle := M.le hm
    refine ⟨_, PSs.nox (pss_cons (ps_par (i := 1) (j := 2) (by rfl) nd rfl rfl (by decide) rfl rfl
          (pa_cons pe_non (pa_cons (pe_make M.mkf M.Fi hr (by rfl) T.g_Motion M.bi .nil pass0 (pa_cons pe_int (pa_cons pe_int (pa_cons pe_int pa_nil)))) pa_nil)) (by rfl))
      (pss_cons (ps_for PassesOwn.never rfl (pi_range2 (by rfl) T.z_range (pa_cons pe_int (pa_cons pe_int pa_nil))) (pg_name (i := 3) nd rfl (.inl rfl))
        (pss_cons (ps_set (i := 2) nd rfl (.inl rfl) (pe_op (op_binO T.f_Motion M.add.m M.add.F (hr.mono (by decide)) M.add.b pass0) (pv 2) (pv 0)))
        (pss_one (ps_if (PW.pt (pw_and (pt_cmpR (op_eqO (fun _ _ => rfl) M.eq.m M.eq.F (hr.mono (by decide)) M.eq.b pass0) (pv 2) (pe_make M.mkf M.Fi hr (by rfl) T.g_Motion M.bi .nil pass0 (pa_cons pe_int (pa_cons pe_int (pa_cons pe_int pa_nil)))) (nomark _))
            (pw_and1 (pt_cmpR op_isN (pv 1) pe_non (nomark _)))))
          (pss_one (ps_set (i := 1) nd rfl (.inl rfl) (pv 3))) pss_nil))))
      (pss_one (ps_ret (pe_cmpR op_eq (pe_callB call_repr0 (by rfl) T.z_repr (by decide +kernel) (pa_cons (pe_meth0 (pv 0) T.c_Motion M.ord.m M.ord.F (hr.mono (by decide)) M.ord.b .nil pass0) pa_nil))
        (pe_callB call_repr0 (by rfl) T.z_repr (by decide +kernel) (pa_cons (pv 1) pa_nil)) (nomark _)))))), ?_⟩
    refine fun r1 d1 n1 nd1 _ => M.made (t := 0) (by decide) n1 nd1 fun H1 s1 m1 => ⟨rfl, ?_⟩
    refine ⟨_, _, rfl, ?_⟩
    refine ⟨1, 5, rfl, by decide, ?_⟩
    refine for_range (lo := 1) (n := 4) (fun i σ H' => ∃ r z, Same H H' ∧ M.Mo H' r (npow m i) ∧ σ = [some (.ref a), some (ordV (fstP m i)), some (.ref r), z]) ⟨r1, none, s1, m1, rfl⟩ (fun i σ' H' hi hp => ?_) fun σ' H' hp => ?_
    · obtain ⟨r, z, sm, mr, rfl⟩ := hp
      obtain ⟨d, fs, er⟩ := M.ins mr
      obtain ⟨d2, fs2, ea⟩ := M.ins (M.same hm sm)
      refine ⟨_, rfl, _, rfl, r, d, fs, rfl, er, .inl ⟨a, d2, fs2, rfl, ea⟩, r, a, _, _, rfl, mr, M.same hm sm, fun r2 H2 s2 m2 => ?_⟩
      refine ⟨_, rfl, fun r3 d3 n3 nd3 _ => M.made (t := 0) (by decide) n3 nd3 fun H3 s3 m3 => ⟨rfl, ?_⟩⟩
      have m2' := M.same m2 s3
      obtain ⟨d4, f4, e4⟩ := M.ins m2'
      obtain ⟨d5, f5, e5⟩ := M.ins m3
      refine ⟨r2, d4, f4, _, rfl, e4, .inl ⟨r3, d5, f5, rfl, e5, rfl⟩, T.nf_self, r2, _, _, rfl, m2', .inl ⟨r3, _, rfl, m3, ?_⟩⟩
      have sm3 := sm.trans (s2.trans s3)
      by_cases hz : npow m (i + 1) = idM
      · refine ⟨true, by rw [show cmp (npow m i) m = idM from hz]; rfl, iteT ⟨_, rfl, rfl, ?_⟩⟩
        cases hf : fstP m i with
        | none =>
          refine ⟨true, rfl, iteT ⟨_, rfl, r2, some (.int (1 + (i : Int))), sm3, m2', ?_⟩⟩
          rw [show fstP m (i + 1) = some (i + 1) by simp only [fstP, hf]; rw [if_pos hz]]
          show _ = [_, some (V.int ((i + 1 : Nat) : Int)), _, _]
          rw [show ((i + 1 : Nat) : Int) = 1 + (i : Int) by omega]
          rfl
        | some j =>
          refine ⟨false, rfl, iteF ⟨r2, some (.int (1 + (i : Int))), sm3, m2', ?_⟩⟩
          rw [show fstP m (i + 1) = some j by simp only [fstP, hf]]
          rfl
      · refine ⟨false, by rw [decide_eq_false (show ¬ cmp (npow m i) m = (0, 0, 0) from hz)], iteF ⟨r2, some (.int (1 + (i : Int))), sm3, m2', ?_⟩⟩
        cases hf : fstP m i with
        | none =>
          rw [show fstP m (i + 1) = none by simp only [fstP, hf]; rw [if_neg hz]]
          rfl
        | some j =>
          rw [show fstP m (i + 1) = some j by simp only [fstP, hf]]
          rfl
    · obtain ⟨r, z, sm, mr, rfl⟩ := hp
      have hm' := M.same hm sm
      obtain ⟨d, fs, ea⟩ := M.ins hm'
      refine ⟨_, rfl, a, d, fs, rfl, ea, M.noa hm' ea, a, m, rfl, hm', fun H2 s2 => ?_⟩
      rw [fstP_ord m hle]
      cases ho : ord m with
      | none => exact .inr ⟨rfl, _, rfl, .inr ⟨rfl, rfl, q _ (sm.trans s2)⟩⟩
      | some n =>
        have h4 := ord_small m ho
        have hb : ((n : Int)).natAbs.log2 < 1920 := by
          have : n = 0 ∨ n = 1 ∨ n = 2 ∨ n = 3 ∨ n = 4 := by omega
          rcases this with rfl | rfl | rfl | rfl | rfl <;> decide
        refine .inl ⟨_, rfl, hb, _, rfl, .inl ⟨_, rfl, hb, rfl, ?_⟩⟩
        rw [show ∀ v : V, decide (v = v) = true from fun v => decide_eq_true rfl]
        exact q _ (sm.trans s2)
end
end K13

set_option Elab.async false
set_option linter.all false
set_option maxRecDepth 100000
set_option maxHeartbeats 8000000
namespace K13
open PySem PySem.Spec PyProof.Rows L2 RT M13
def Bd (m : M3) : Prop := m.2.1.natAbs < 2 ^ 400 ∧ m.2.2.natAbs < 2 ^ 400
theorem rot_bd (n : Nat) (p : Int × Int) (B : Nat) (h : p.1.natAbs < B ∧ p.2.natAbs < B) : (rot n p).1.natAbs < B ∧ (rot n p).2.natAbs < B := by
  induction n with
  | zero => exact h
  | succ n ih =>
    show (-(rot n p).2).natAbs < B ∧ (rot n p).1.natAbs < B
    rw [Int.natAbs_neg]
    exact ⟨ih.2, ih.1⟩
theorem p29 : (10 : Int) ^ ((29 : Int).toNat) = 100000000000000000000000000000 := by decide
theorem act_far (m : M3) (h0 : m.1 = 0) (n : Nat) (x y : Int) (h : Nat) (hh : h ≤ 3) : act (npow m n) (x, y, h) = (x + (n : Int) * (rot h m.2).1, y + (n : Int) * (rot h m.2).2, h) := by
  obtain ⟨t, dx, dy⟩ := m
  have ht : t = 0 := h0
  subst ht
  rw [npow_shift]
  show (x + (rot h ((n : Int) * dx, (n : Int) * dy)).1, y + (rot h ((n : Int) * dx, (n : Int) * dy)).2, (h + 0) % 4) = _
  rw [rot_smul h n (dx, dy), Nat.add_zero, Nat.mod_eq_of_lt (by omega)]
theorem neq_pose {q r : Int × Int × Nat} (h : q = r) : (!PyData.eqv (poseD q) (poseD r)) = false := by
  rw [poseD_eqv, decide_eq_true h]
  rfl
theorem many_at {a b v : Int} (h0 : 0 ≤ v) (h : v < 3) (ha : 0 ≤ a ∧ a < 10 ^ ((30 : Int).toNat)) (hb : 0 ≤ b ∧ b < 10 ^ ((29 : Int).toNat)) : ∃ n : Nat, atI [V.int a, V.int (10 ^ ((30 : Int).toNat)), V.int (4 * b)] v = some (.int (n : Int)) ∧ (n : Int) ≤ T30 := by
  rw [p30] at *
  rw [p29] at hb
  have e : v = 0 ∨ v = 1 ∨ v = 2 := by omega
  rcases e with rfl | rfl | rfl
  · obtain ⟨n, rfl⟩ := Int.eq_ofNat_of_zero_le ha.1
    exact ⟨n, atI_nat (j := 0) rfl, by show (n : Int) ≤ 1000000000000000000000000000000; omega⟩
  · exact ⟨1000000000000000000000000000000, atI_nat (j := 1) rfl, by decide⟩
  · obtain ⟨n, rfl⟩ := Int.eq_ofNat_of_zero_le hb.1
    exact ⟨4 * n, atI_nat (j := 2) rfl, by show ((4 * n : Nat) : Int) ≤ 1000000000000000000000000000000; omega⟩
theorem Same.tk {H H' : Hp} {t : Addr} {c : Nat} (e : Same H H') (h : Tk H t c) : Tk H' t c := h.same e
section
variable {P : Program} {w : World} {K : PySem.W.Frag} {mg : Str → Option Value} {base : Heap}
def spPowR (Mo : MoT) : Sp := fun vs H Q _ => ∃ t c a m, vs = [.ref t, .ref a] ∧ Tk H t c ∧ c ≤ 80000 ∧ Mo H a m ∧ Bd m ∧ ∀ c' H', Keep t H H' → Tk H' t c' → c ≤ c' → c' ≤ c + 20 → Q (.bl true) H'
theorem ok_powR (D : Ds K) (T : Tx K mg) (M : Mots P w K mg base) : FnOk P w K mg base CX0 11 (d_law_power_right.adr K) D.fd__law_power_right ["tank", "one"] (spPowR M.Mo) := by
  have GS : FnOk P w K mg base CX0 2 _ _ _ spStart := ok_start D T
  have GD : FnOk P w K mg base CX0 1 _ _ _ spDip := ok_dip D T
  have GL : FnOk P w K mg base CX0 10 _ _ _ (sCall M.Mo) := ok_led D T M
  refine D.F__law_power_right.ok sc_law_power_right (fun vs H Q E h => ?_) (fun cdv A outer s H vs Q E hr h => ?_)
  · obtain ⟨t, c, a, m, rfl, _⟩ := h
    rfl
  · obtain ⟨t, c, a, m, rfl, tk, hc, hm, bd, q⟩ := h
    have nd := sc_law_power_right.nd
    have hle := M.le hm
    have hr9 := hr.mono (show 9 ≤ 10 by decide)
    refine ⟨_, PSs.nox (pss_cons (ps_par3 (i := 2) (j := 3) (l := 4) (by rfl) nd rfl rfl rfl (by decide) (by decide) (by decide) rfl rfl rfl
          (pa_cons (pe_call GS (hr.mono (by decide)) (by rfl) T.g__law_start D.F__law_start.kp (b__law_start D) .nil pass0 (pa_cons (pv 0) pa_nil)) (pa_cons pe_non (pa_cons pe_non pa_nil))) (by rfl))
      (pss_cons (ps_par (i := 3) (j := 4) (by rfl) nd rfl rfl (by decide) rfl rfl (pa_cons (pv 2) (pa_cons (pv 2) pa_nil)) (by rfl))
      (pss_cons (ps_set (i := 5) nd rfl (.inl rfl) (pe_un (un_negO M.neg.m M.neg.F hr9 M.neg.b pass0) (pv 1)))
      (pss_cons (ps_for PassesOwn.never rfl (pi_range2 (by rfl) T.z_range (pa_cons pe_int (pa_cons pe_int pa_nil))) (pg_name (i := 6) nd rfl (.inl rfl))
        (pss_cons (ps_par (i := 3) (j := 4) (by rfl) nd rfl rfl (by decide) rfl rfl
            (pa_cons (pe_callO (i := 1) M.call.m M.cfn M.call.F hr9 (by rfl) (.inl rfl) M.call.b pass0 (pa_cons (pv 3) pa_nil))
              (pa_cons (pe_callO (i := 5) M.call.m M.cfn M.call.F hr9 (by rfl) (.inl rfl) M.call.b pass0 (pa_cons (pv 4) pa_nil)) pa_nil)) (by rfl))
        (pss_one (ps_if (PW.pt (pw_or
            (pt_cmpR (op_neD hr.units) (pe_call GL hr (by rfl) T.g__law_led D.F__law_led.kp (b__law_led D) .nil pass0 (pa_cons (pe_op (op_binO T.f_Motion M.mul.m M.mul.F hr9 M.mul.b pass0) (pv 1) (pv 6)) (pa_cons (pv 2) pa_nil))) (pv 3) (nomark _))
            (pw_or1 (pt_cmpR (op_neD hr.units) (pe_call GL hr (by rfl) T.g__law_led D.F__law_led.kp (b__law_led D) .nil pass0 (pa_cons (pe_op (op_binO T.f_Motion M.mul.m M.mul.F hr9 M.mul.b pass0) (pv 1) (pe_op op_sub pe_int (pv 6))) (pa_cons (pv 2) pa_nil))) (pv 4) (nomark _)))))
          (pss_one (ps_ret pe_bl)) pss_nil))))
      (pss_cons (ps_set (i := 6) nd rfl (.inl rfl) (pe_ix ix_list (pe_lst (pa_cons (pe_call GD (hr.mono (by decide)) (by rfl) T.g__law_dip D.F__law_dip.kp (b__law_dip D) .nil pass0 (pa_cons (pv 0) (pa_cons (pe_op op_pow pe_int pe_int) pa_nil)))
          (pa_cons (pe_op op_pow pe_int pe_int) (pa_cons (pe_op op_mul pe_int (pe_call GD (hr.mono (by decide)) (by rfl) T.g__law_dip D.F__law_dip.kp (b__law_dip D) .nil pass0 (pa_cons (pv 0) (pa_cons (pe_op op_pow pe_int pe_int) pa_nil)))) pa_nil))))
        (pe_call GD (hr.mono (by decide)) (by rfl) T.g__law_dip D.F__law_dip.kp (b__law_dip D) .nil pass0 (pa_cons (pv 0) (pa_cons pe_int pa_nil))) (fun _ _ => rfl)))
      (pss_cons (ps_asg (pv 2) (pg_tup (by rfl) (pgs_cons (pg_name (i := 7) nd rfl (.inl rfl)) (pgs_cons (pg_name (i := 8) nd rfl (.inl rfl)) (pgs_cons (pg_name (i := 9) nd rfl (.inl rfl)) pgs_nil)))))
      (pss_cons (ps_if (pt_cmpR op_eq (pe_prop (pv 1) T.c_Motion M.turn.h M.turn.F hr M.turn.b .nil pass0 rfl) pe_int (nomark _))
          (pss_cons (ps_set (i := 10) nd rfl (.inl rfl) (pe_callO (i := 1) M.call.m M.cfn M.call.F hr9 (by rfl) (.inl rfl) M.call.b pass0 (pa_cons (pe_tup (pa_cons pe_int (pa_cons pe_int (pa_cons (pv 9) pa_nil)))) pa_nil)))
          (pss_one (ps_set (i := 11) nd rfl (.inl rfl) (pe_tup (pa_cons (pe_op op_add (pv 7) (pe_op op_mulW (pv 6) (pe_ix ix_tup (pv 10) pe_int (fun _ _ => rfl))))
            (pa_cons (pe_op op_add (pv 8) (pe_op op_mulW (pv 6) (pe_ix ix_tup (pv 10) pe_int (fun _ _ => rfl)))) (pa_cons (pv 9) pa_nil)))))))
          (pss_one (ps_set (i := 11) nd rfl (.inl rfl) (pe_call GL hr (by rfl) T.g__law_led D.F__law_led.kp (b__law_led D) .nil pass0 (pa_cons (pe_op (op_binO T.f_Motion M.mul.m M.mul.F hr9 M.mul.b pass0) (pv 1) (pe_op op_mod (pv 6) pe_int)) (pa_cons (pv 2) pa_nil))))))
      (pss_cons (ps_if (PW.pt (pw_or
            (pt_cmpR (op_neD hr.units) (pe_call GL hr (by rfl) T.g__law_led D.F__law_led.kp (b__law_led D) .nil pass0 (pa_cons (pe_op (op_binO T.f_Motion M.mul.m M.mul.F hr9 M.mul.b pass0) (pv 1) (pv 6)) (pa_cons (pv 2) pa_nil))) (pv 11) (nomark _))
            (pw_or1 (pt_cmpR (op_neO M.ne M.mro M.eq.m M.eq.F hr M.eq.b pass0)
              (pe_op (op_binO T.f_Motion M.add.m M.add.F hr9 M.add.b pass0) (pe_op (op_binO T.f_Motion M.mul.m M.mul.F hr9 M.mul.b pass0) (pv 1) (pv 6)) (pe_op (op_binO T.f_Motion M.mul.m M.mul.F hr9 M.mul.b pass0) (pv 1) (pe_op op_sub pe_int (pv 6))))
              (pe_make M.mkf M.Fi hr (by rfl) T.g_Motion M.bi .nil pass0 (pa_cons pe_int (pa_cons pe_int (pa_cons pe_int pa_nil)))) (nomark _)))))
          (pss_one (ps_ret pe_bl)) pss_nil)
      (pss_one (ps_ret (pe_and (pe_cmpR (op_eqO (fun _ _ => rfl) M.eq.m M.eq.F hr9 M.eq.b pass0) (pe_op (op_binO T.f_Motion M.mul.m M.mul.F hr9 M.mul.b pass0) (pv 1) pe_int) (pe_make M.mkf M.Fi hr (by rfl) T.g_Motion M.bi .nil pass0 (pa_cons pe_int (pa_cons pe_int (pa_cons pe_int pa_nil)))) (nomark _))
        (pe_and (pe_cmpR (op_eqO (fun _ _ => rfl) M.eq.m M.eq.F hr9 M.eq.b pass0) (pe_op (op_binO T.f_Motion M.mul.m M.mul.F hr9 M.mul.b pass0) (pv 1) pe_int) (pv 1) (nomark _))
        (pe_one (pe_cmpR (op_eqO (fun _ _ => rfl) M.eq.m M.eq.F hr9 M.eq.b pass0) (pe_op (op_binO T.f_Motion M.mul.m M.mul.F hr9 M.mul.b pass0) (pv 1) (pe_un un_neg pe_int)) (pe_un (un_negO M.neg.m M.neg.F hr9 M.neg.b pass0) (pv 1)) (nomark _))))))))))))))), ?_⟩
    -- the pose
    refine ⟨_, rfl, t, c, rfl, tk, by omega, fun p x y h c1 H1 k1 t1 l1 u1 _ pp _ _ _ _ => ⟨_, _, _, rfl, ?_⟩⟩
    have pp : poseO H1 p (x, y, h) := pp
    have hm1 := M.keep hm tk k1
    have hh : h ≤ 3 := pp.2
    refine ⟨_, rfl, _, rfl, _, _, rfl, ?_⟩
    obtain ⟨d, fs, ea⟩ := M.ins hm1
    refine ⟨_, rfl, a, d, fs, rfl, ea, a, m, rfl, hm1, fun o H2 s2 mo => ?_⟩
    -- few times
    refine ⟨1, 9, rfl, by decide, ?_⟩
    refine for_range (lo := 1) (n := 8) (fun i σ H' => ∃ pa b z, Same H2 H' ∧ poseO H' pa (act (npow m i) (x, y, h)) ∧ poseO H' b (act (npow (inv m) i) (x, y, h)) ∧
      σ = [some (.ref t), some (.ref a), some (.ref p), some (.ref pa), some (.ref b), some (.ref o), z, none, none, none, none, none])
      ⟨p, p, none, fun _ _ e => e, ?_, ?_, rfl⟩ (fun i σ' H' hi hp => ?_) fun σ' H' hp => ?_
    · rw [show act (npow m 0) (x, y, h) = (x, y, h) from act_id _ hh]
      exact pp.same s2
    · rw [show act (npow (inv m) 0) (x, y, h) = (x, y, h) from act_id _ hh]
      exact pp.same s2
    · obtain ⟨pa, b, z, sm, ha, hb, rfl⟩ := hp
      have hma := M.same (M.same hm1 s2) sm
      obtain ⟨d1, f1, e1⟩ := M.ins hma
      refine ⟨a, rfl, _, rfl, ⟨d1, f1, e1⟩, a, m, pa, _, rfl, hma, ha, fun r1 H3 s3 q1 => ?_⟩
      have hmo := M.same (M.same mo sm) s3
      obtain ⟨d2, f2, e2⟩ := M.ins hmo
      refine ⟨o, rfl, _, rfl, ⟨d2, f2, e2⟩, o, inv m, b, _, rfl, hmo, hb.same s3, fun r2 H4 s4 q2 => ⟨_, _, rfl, ?_⟩⟩
      rw [← act_npow_succ] at q1 q2
      have sm4 : Same H2 H4 := sm.trans (s3.trans s4)
      have hma4 := M.same hma (s3.trans s4)
      obtain ⟨d3, f3, e3⟩ := M.ins hma4
      refine ⟨_, rfl, _, rfl, a, d3, f3, rfl, e3, .inr ⟨_, .base (.base (.int _)), T.r_Mult_int⟩, a, _, m, rfl, hma4, by show (-1000000000000000000000000000000 : Int) ≤ 1 + (i : Int); omega, by show 1 + (i : Int) ≤ 1000000000000000000000000000000; omega, bd.1, bd.2, fun r3 H5 s5 m5 => ?_⟩
      have sm5 : Same H2 H5 := sm4.trans s5
      refine ⟨_, rfl, r3, _, p, (x, y, h), rfl, m5, (pp.same s2).same sm5, fun r4 H6 s6 q6 => ?_⟩
      have z1 : (1 + (i : Int)) = ((i + 1 : Nat) : Int) := by omega
      refine ⟨_, rfl, _, _, q6.dp, (q1.same (s4.trans (s5.trans s6))).dp, rfl, rfl, false, by rw [neq_pose (by rw [z1]; rfl)], iteF ?_⟩
      have sm6 : Same H2 H6 := sm5.trans s6
      have hma6 := M.same hma4 (s5.trans s6)
      obtain ⟨d4, f4, e4⟩ := M.ins hma6
      refine ⟨_, rfl, _, rfl, _, _, rfl, rfl, a, d4, f4, rfl, e4, .inr ⟨_, .base (.base (.int _)), T.r_Mult_int⟩, a, _, m, rfl, hma6, by show (-1000000000000000000000000000000 : Int) ≤ 0 - (1 + (i : Int)); omega, by show 0 - (1 + (i : Int)) ≤ 1000000000000000000000000000000; omega, bd.1, bd.2, fun r5 H7 s7 m7 => ?_⟩
      refine ⟨_, rfl, r5, _, p, (x, y, h), rfl, m7, (pp.same s2).same (sm6.trans s7), fun r6 H8 s8 q8 => ?_⟩
      have z2 : 0 - (1 + (i : Int)) = -((i + 1 : Nat) : Int) := by omega
      have s48 : Same H4 H8 := s5.trans (s6.trans (s7.trans s8))
      refine ⟨_, rfl, _, _, q8.dp, (q2.same s48).dp, rfl, rfl, false, by rw [neq_pose (by rw [z2, zpow_neg])], iteF ?_⟩
      exact ⟨r1, r2, some (.int (1 + (i : Int))), sm4.trans s48, (q1.same s4).same s48, q2.same s48, rfl⟩
    · obtain ⟨pa, b, z, sm, ha, hb, rfl⟩ := hp
      have t2 : Tk H' t c1 := t1.same (s2.trans sm)
      have pp2 := (pp.same s2).same sm
      have hm2 := M.same (M.same hm1 s2) sm
      have k2 : Keep t H H' := k1.trans (Same.keep (s2.trans sm))
      clear ha hb mo d fs ea
      -- many times
      refine ⟨_, rfl, _, _, rfl, rfl, pw_ok (by decide) (by decide), t, _, c1, rfl, t2, by omega, by rw [p30]; decide, by rw [p30]; decide, fun v1 c2 H3 k3 t3 l3 u3 a1 b1 => ?_⟩
      refine ⟨_, _, rfl, rfl, pw_ok (by decide) (by decide), _, rfl, _, _, rfl, rfl, pw_ok (by decide) (by decide), t, _, c2, rfl, t3, by omega, by rw [p29]; decide, by rw [p29]; decide, fun v2 c3 H4 k4 t4 l4 u4 a2 b2 => ?_⟩
      refine ⟨_, _, rfl, rfl, .inl ⟨by decide, by decide⟩, by show 3 ≤ sizeLine; decide, fun l hl => ?_⟩
      obtain ⟨A4, B4, et4, _⟩ := id t4
      have tl : t ≠ l := ne_of_none et4 hl
      refine ⟨_, rfl, t, 3, c3, rfl, t4.same (same_new hl), by omega, by decide, by decide, fun v3 c4 H5 k5 t5 l5 u5 a3 b3 => ?_⟩
      obtain ⟨n, hn, hn2⟩ := many_at a3 b3 ⟨a1, b1⟩ ⟨a2, b2⟩
      refine ⟨l, _, v3, _, rfl, rfl, lstL (k5 l _ (Ne.symm tl) upd_same), hn, ?_⟩
      have k35 : Keep t H' H5 := k3.trans (k4.trans ((Same.keep (same_new hl)).trans k5))
      have hm5 := M.keep hm2 t2 k35
      have pp5 := pp2.keep t2 k35
      have kH5 := k2.trans k35
      obtain ⟨d, fs, ea⟩ := M.ins hm5
      refine ⟨_, rfl, p, _, rfl, tupT pp5.1, rfl, _, _, rfl, _, _, rfl, _, _, rfl, rfl, ?_⟩
      refine ⟨_, rfl, a, d, fs, rfl, ea, a, m, rfl, hm5, rfl, _, rfl, ?_⟩
      have hn3 : (-1000000000000000000000000000000 : Int) ≤ (n : Int) := by omega
      have hn4 : (n : Int) ≤ 1000000000000000000000000000000 := hn2
      refine ite2 (fun e => ?ta) (fun e => ?tb)
      case' ta =>
        have h0 : m.1 = 0 := by
          have e2 := of_decide_eq_true e
          injection e2 with e3
          omega
        refine ⟨a, rfl, _, rfl, by show 3 ≤ sizeLine; decide, fun tp htp => ⟨M.ins (M.same hm5 (same_new htp)), a, m, tp, (0, 0, h), rfl, M.same hm5 (same_new htp), ⟨upd_same, hh⟩, fun r H6 s6 q6 => ?_⟩⟩
        obtain ⟨b1, b2⟩ := rot_bd h m.2 _ bd
        have n100 : ((n : Int)).natAbs < 2 ^ 100 := by
          have : (2 : Nat) ^ 100 = 1267650600228229401496703205376 := by decide
          omega
        refine ⟨_, rfl, _, rfl, _, rfl, r, _, 0, _, rfl, rfl, tupT q6.1, atI_nat (j := 0) rfl, _, _, rfl, rfl, wide_mul (a := 100) (b := 400) n100 (by show (0 + (rot h m.2).1).natAbs < _; rw [Int.zero_add]; exact b1) (by decide) (by decide) (by decide), _, _, rfl, rfl, ?_⟩
        refine ⟨_, rfl, _, rfl, _, rfl, r, _, 1, _, rfl, rfl, tupT q6.1, atI_nat (j := 1) rfl, _, _, rfl, rfl, wide_mul (a := 100) (b := 400) n100 (by show (0 + (rot h m.2).2).natAbs < _; rw [Int.zero_add]; exact b2) (by decide) (by decide) (by decide), _, _, rfl, rfl, ?_⟩
        refine ⟨_, rfl, by show 3 ≤ sizeLine; decide, fun du hdu => ?_⟩
        have sx := ((same_new htp).trans s6).trans (same_new (o := .tup [.int (x + (n : Int) * (0 + (rot h m.2).1)), .int (y + (n : Int) * (0 + (rot h m.2).2)), .int (h : Int)]) hdu)
        have px : poseO (upd H6 du (.tup [.int (x + (n : Int) * (0 + (rot h m.2).1)), .int (y + (n : Int) * (0 + (rot h m.2).2)), .int (h : Int)])) du (act (npow m n) (x, y, h)) := by
          rw [act_far m h0 n x y h hh]
          refine ⟨?_, hh⟩
          rw [upd_same, Int.zero_add, Int.zero_add]
      case' tb =>
        have h0 : m.1 ≠ 0 := by
          intro z
          exact e (by rw [z]; rfl)
        refine ⟨_, rfl, _, rfl, _, _, rfl, rfl, by show (0 : Int) < 4; decide, a, d, fs, rfl, ea, .inr ⟨_, .base (.base (.int _)), T.r_Mult_int⟩, a, _, m, rfl, hm5, by show (-1000000000000000000000000000000 : Int) ≤ (n : Int) % 4; omega, by show (n : Int) % 4 ≤ 1000000000000000000000000000000; omega, bd.1, bd.2, fun r3 H6 s6 m6 => ?_⟩
        refine ⟨_, rfl, r3, _, p, (x, y, h), rfl, m6, pp5.same s6, fun du Hx s7 px => ?_⟩
        have sx := s6.trans s7
        have px : poseO Hx du (act (npow m n) (x, y, h)) := by
          rw [show (n : Int) % 4 = ((n % 4 : Nat) : Int) by omega, zpow_nat, npow_mod m hle h0] at px
          exact px
      all_goals
        have t5' := t5.same sx
        have hm6 := M.same hm5 sx
        have pp6 := pp5.same sx
        have kH6 := kH5.trans (Same.keep sx)
        obtain ⟨d6, f6, e6⟩ := M.ins hm6
        refine ⟨_, rfl, _, rfl, a, d6, f6, rfl, e6, .inr ⟨_, .base (.base (.int _)), T.r_Mult_int⟩, a, _, m, rfl, hm6, hn3, hn4, bd.1, bd.2, fun r7 H7 s7 m7 => ?_⟩
        refine ⟨_, rfl, r7, _, p, (x, y, h), rfl, m7, pp6.same s7, fun r8 H8 s8 q8 => ?_⟩
        refine ⟨_, rfl, _, _, q8.dp, (px.same (s7.trans s8)).dp, rfl, rfl, false, by rw [neq_pose (show act (zpow m n) (x, y, h) = act (npow m n) (x, y, h) from rfl)], iteF ?_⟩
        have hm8 := M.same hm6 (s7.trans s8)
        obtain ⟨d8, f8, e8⟩ := M.ins hm8
        refine ⟨_, rfl, _, rfl, a, d8, f8, rfl, e8, .inr ⟨_, .base (.base (.int _)), T.r_Mult_int⟩, a, _, m, rfl, hm8, hn3, hn4, bd.1, bd.2, fun r9 H9 s9 m9 => ?_⟩
        have hm9 := M.same hm8 s9
        obtain ⟨d9, f9, e9⟩ := M.ins hm9
        refine ⟨_, rfl, _, rfl, _, _, rfl, rfl, a, d9, f9, rfl, e9, .inr ⟨_, .base (.base (.int _)), T.r_Mult_int⟩, a, _, m, rfl, hm9, by show (-1000000000000000000000000000000 : Int) ≤ 0 - (n : Int); omega, by show 0 - (n : Int) ≤ 1000000000000000000000000000000; omega, bd.1, bd.2, fun r10 H10 s10 m10 => ?_⟩
        have m9' := M.same m9 s10
        obtain ⟨d10, f10, e10⟩ := M.ins m9'
        obtain ⟨d11, f11, e11⟩ := M.ins m10
        refine ⟨r9, d10, f10, rfl, e10, .inl ⟨r10, d11, f11, rfl, e11⟩, r9, r10, _, _, rfl, m9', m10, fun r12 H12 s12 m12 => ?_⟩
        rw [Int.zero_sub, zpow_back m hle n] at m12
        refine fun r13 d13 n13 nd13 _ => M.made (t := 0) (by decide) n13 nd13 fun H13 s13 m13 => ⟨rfl, ?_⟩
        have m12' := M.same m12 s13
        obtain ⟨d14, f14, e14⟩ := M.ins m12'
        obtain ⟨d15, f15, e15⟩ := M.ins m13
        refine ⟨r12, d14, f14, _, rfl, e14, .inl ⟨r13, d15, f15, rfl, e15, rfl⟩, T.nf_self, r12, _, _, rfl, m12', .inl ⟨r13, _, rfl, m13, true, rfl, false, rfl, iteF ?_⟩⟩
        -- the last row
        have s813 : Same H8 H13 := s9.trans (s10.trans (s12.trans s13))
        have hm13 := M.same hm8 s813
        obtain ⟨d16, f16, e16⟩ := M.ins hm13
        refine ⟨_, rfl, a, d16, f16, rfl, e16, .inr ⟨_, .base (.base (.int _)), T.r_Mult_int⟩, a, _, m, rfl, hm13, by decide, by decide, bd.1, bd.2, fun r14 H14 s14 m14 => ?_⟩
        refine fun r15 d15 n15 nd15 _ => M.made (t := 0) (by decide) n15 nd15 fun H15 s15 m15 => ⟨rfl, ?_⟩
        have m14' := M.same m14 s15
        obtain ⟨d17, f17, e17⟩ := M.ins m14'
        obtain ⟨d18, f18, e18⟩ := M.ins m15
        refine ⟨r14, d17, f17, _, rfl, e17, .inl ⟨r15, d18, f18, rfl, e18, rfl⟩, T.nf_self, r14, _, _, rfl, m14', .inl ⟨r15, _, rfl, m15, true, rfl, iteT ?_⟩⟩
        have hm15 := M.same hm13 (s14.trans s15)
        obtain ⟨d19, f19, e19⟩ := M.ins hm15
        refine ⟨_, rfl, a, d19, f19, rfl, e19, .inr ⟨_, .base (.base (.int _)), T.r_Mult_int⟩, a, _, m, rfl, hm15, by decide, by decide, bd.1, bd.2, fun r16 H16 s16 m16 => ?_⟩
        have hm16 := M.same hm15 s16
        obtain ⟨d20, f20, e20⟩ := M.ins m16
        obtain ⟨d21, f21, e21⟩ := M.ins hm16
        refine ⟨_, rfl, r16, d20, f20, _, rfl, e20, .inl ⟨a, d21, f21, rfl, e21, rfl⟩, T.nf_self, r16, _, _, rfl, m16, .inl ⟨a, m, rfl, hm16, true, by rw [decide_eq_true (show zpow m 1 = m from npow_one m hle)], iteT ?_⟩⟩
        refine ⟨_, rfl, _, rfl, a, d21, f21, rfl, e21, .inr ⟨_, .base (.base (.int _)), T.r_Mult_int⟩, a, _, m, rfl, hm16, by decide, by decide, bd.1, bd.2, fun r17 H17 s17 m17 => ?_⟩
        have hm17 := M.same hm16 s17
        obtain ⟨d22, f22, e22⟩ := M.ins hm17
        refine ⟨_, rfl, a, d22, f22, rfl, e22, a, m, rfl, hm17, fun r18 H18 s18 m18 => ?_⟩
        have m17' := M.same m17 s18
        obtain ⟨d23, f23, e23⟩ := M.ins m17'
        obtain ⟨d24, f24, e24⟩ := M.ins m18
        refine ⟨r17, d23, f23, _, rfl, e23, .inl ⟨r18, d24, f24, rfl, e24, rfl⟩, T.nf_self, r17, _, _, rfl, m17', .inl ⟨r18, _, rfl, m18, ?_⟩⟩
        have s618 := (s7.trans s8).trans (s813.trans ((s14.trans s15).trans (s16.trans (s17.trans s18))))
        rw [decide_eq_true (show zpow m (-1) = inv m from npow_one (inv m) (inv_le m))]
        exact q c4 _ (kH6.trans (Same.keep s618)) (t5'.same s618) (by omega) (by omega)
end
end K13

set_option Elab.async false
set_option linter.all false
set_option maxRecDepth 100000
set_option maxHeartbeats 8000000
set_option exponentiation.threshold 600
namespace K13
open PySem PySem.Spec PyProof.Rows L2 RT M13
theorem log_of {i : Int} (h : i.natAbs < 2 ^ 401) : i.natAbs.log2 < 1920 := by
  by_cases z : i.natAbs = 0
  · rw [z]; decide
  · have := (Nat.log2_lt z).mpr h
    omega
theorem it_len {i : Int} (h : i.natAbs < 2 ^ 401) : (PySem.Str.ofString (toString i)).length ≤ 1921 := int_text_len_1921 (log_of h)
def Sm (q : Int × Int × Nat) : Prop := q.1.natAbs < 2 ^ 401 ∧ q.2.1.natAbs < 2 ^ 401 ∧ q.2.2 ≤ 3
theorem sm_h {n : Nat} (h : n ≤ 3) : ((n : Int)).natAbs < 2 ^ 401 := by
  have : n < 2 ^ 401 := Nat.lt_of_le_of_lt h (by decide)
  omega
theorem shown_tup3 (a b c : Int) (ha : a.natAbs < 2 ^ 401) (hb : b.natAbs < 2 ^ 401) (hc : c.natAbs < 2 ^ 401) : (PyData.tuple [.int a, .int b, .int c]).shown.length ≤ sizeLine := by
  have h1 := it_len ha
  have h2 := it_len hb
  have h3 := it_len hc
  have e : (PyData.tuple [.int a, .int b, .int c]).shown = tupleText [Str.ofString (toString a), Str.ofString (toString b), Str.ofString (toString c)] := by
    simp only [PyData.shown, PyData.shownAll]
  rw [e]
  unfold tupleText
  rw [strLen_append, strLen_append]
  show _ + (Str.ofString (toString a) ++ (", " : Str) ++ (Str.ofString (toString b) ++ (", " : Str) ++ Str.ofString (toString c))).length + _ ≤ _
  rw [strLen_append, strLen_append, strLen_append, strLen_append]
  have hs : 6000 ≤ sizeLine := by decide
  have l1 : (("(" : String) : Str).length = 1 := rfl
  have l2 : ((", " : String) : Str).length = 2 := rfl
  have l3 : ((if ([Str.ofString (toString a), Str.ofString (toString b), Str.ofString (toString c)] : List Str).length == 1 then ",)" else ")" : String) : Str).length = 1 := rfl
  omega
theorem shown_tup2 (a b : Int) (ha : a.natAbs < 2 ^ 401) (hb : b.natAbs < 2 ^ 401) : (PyData.tuple [.int a, .int b]).shown.length ≤ 4000 := by
  have h1 := it_len ha
  have h2 := it_len hb
  have e : (PyData.tuple [.int a, .int b]).shown = tupleText [Str.ofString (toString a), Str.ofString (toString b)] := by
    simp only [PyData.shown, PyData.shownAll]
  rw [e]
  unfold tupleText
  rw [strLen_append, strLen_append]
  show _ + (Str.ofString (toString a) ++ (", " : Str) ++ Str.ofString (toString b)).length + _ ≤ _
  rw [strLen_append, strLen_append]
  have l1 : (("(" : String) : Str).length = 1 := rfl
  have l2 : ((", " : String) : Str).length = 2 := rfl
  have l3 : ((if ([Str.ofString (toString a), Str.ofString (toString b)] : List Str).length == 1 then ",)" else ")" : String) : Str).length = 1 := rfl
  omega
def twoD (t dx dy : Int) : PyData := .list [.int t, .tuple [.int dx, .int dy]]
theorem twoD_len (t dx dy : Int) (ht : t.natAbs < 2 ^ 401) (ha : dx.natAbs < 2 ^ 401) (hb : dy.natAbs < 2 ^ 401) : (twoD t dx dy).shown.length ≤ sizeLine := by
  have h1 := it_len ht
  have h2 := shown_tup2 dx dy ha hb
  have e : (twoD t dx dy).shown = listText [Str.ofString (toString t), (PyData.tuple [.int dx, .int dy]).shown] := by
    unfold twoD
    rw [PyData.shown]
    simp only [PyData.shownAll]
    rfl
  rw [e]
  generalize (PyData.tuple [.int dx, .int dy]).shown = S at h2 ⊢
  show ((((("[" : Str) ++ ("" : Str) ++ Str.ofString (toString t)) ++ (", " : Str)) ++ S) ++ ("]" : Str)).length ≤ _
  rw [strLen_append, strLen_append, strLen_append, strLen_append, strLen_append]
  have hs : 7000 ≤ sizeLine := by decide
  have l0 : (("" : String) : Str).length = 0 := rfl
  have l1 : (("[" : String) : Str).length = 1 := rfl
  have l2 : ((", " : String) : Str).length = 2 := rfl
  have l3 : (("]" : String) : Str).length = 1 := rfl
  omega
theorem twoD_ok (t dx dy : Int) (ht : t.natAbs < 2 ^ 401) (ha : dx.natAbs < 2 ^ 401) (hb : dy.natAbs < 2 ^ 401) : (twoD t dx dy).showable = true ∧ (twoD t dx dy).hasDict = false ∧ (twoD t dx dy).depth ≤ 40 := by
  refine ⟨?_, ?_, ?_⟩
  · simp only [twoD, PyData.showable, PyData.showableAll, decide_eq_true (log_of ht), decide_eq_true (log_of ha), decide_eq_true (log_of hb), Bool.and_self]
  · simp only [twoD, PyData.hasDict, PyData.hasDictAll, Bool.or_self]
  · show (2 : Nat) ≤ 40
    decide
theorem poseD_ok {q : Int × Int × Nat} (h : Sm q) : (poseD q).showable = true ∧ (poseD q).hasDict = false ∧ (poseD q).depth ≤ 40 ∧ (poseD q).shown.length ≤ sizeLine := by
  obtain ⟨h1, h2, h3⟩ := h
  refine ⟨?_, ?_, ?_, shown_tup3 _ _ _ h1 h2 (sm_h h3)⟩
  · simp only [poseD, PyData.showable, PyData.showableAll, decide_eq_true (log_of h1), decide_eq_true (log_of h2), decide_eq_true (log_of (sm_h h3)), Bool.and_self]
  · simp only [poseD, PyData.hasDict, PyData.hasDictAll, Bool.or_self]
  · show (1 : Nat) ≤ 40
    decide
theorem big400 {x : Int} (h1 : -Big ≤ x) (h2 : x ≤ Big) : x.natAbs < 2 ^ 390 := by
  have e : (2 : Nat) ^ 390 = 2521728396569246669585858566409191283525103313309788586748690777871726193375821479130513040312634601011624191379636224 := by decide
  unfold Big at h1 h2
  omega
/-- near poses are led to near ones -/
theorem act_bd {m : M3} {q : Int × Int × Nat} {B C : Nat} (hm : m.2.1.natAbs < B ∧ m.2.2.natAbs < B) (hq : q.1.natAbs < C ∧ q.2.1.natAbs < C) : (act m q).1.natAbs < B + C ∧ (act m q).2.1.natAbs < B + C := by
  obtain ⟨h1, h2⟩ := rot_bd q.2.2 m.2 B hm
  show (q.1 + (rot q.2.2 m.2).1).natAbs < B + C ∧ (q.2.1 + (rot q.2.2 m.2).2).natAbs < B + C
  omega
theorem cmp_bd {m n : M3} {B C : Nat} (hm : m.2.1.natAbs < B ∧ m.2.2.natAbs < B) (hn : n.2.1.natAbs < C ∧ n.2.2.natAbs < C) : (cmp m n).2.1.natAbs < B + C ∧ (cmp m n).2.2.natAbs < B + C := by
  obtain ⟨h1, h2⟩ := rot_bd m.1 n.2 C hn
  show (m.2.1 + (rot m.1 n.2).1).natAbs < B + C ∧ (m.2.2 + (rot m.1 n.2).2).natAbs < B + C
  omega
theorem same_ne {H0 H H' : Hp} {t : Addr} (h0 : H0 t = none) (e : Same H0 H) (k : Keep t H H') : Same H0 H' := fun b o h => k b o (ne_of_none h h0) (e b o h)
theorem Ps.keep {H H' : Hp} {t p : Addr} {c : Nat} {q : Int × Int × Nat} (h : poseO H p q) (tk : Tk H t c) (k : Keep t H H') : poseO H' p q := h.keep tk k
section
variable {P : Program} {w : World} {K : PySem.W.Frag} {mg : Str → Option Value} {base : Heap}
/-- what stands during a turn of the law -/
structure EnvL (M : Mots P w K mg base) (H0 : Hp) (t m1 m2 f g p du : Addr) (m n : M3) (q1 q2 q3 q4 : Int × Int × Nat) (c : Nat) (H : Hp) : Prop where
  s0 : Same H0 H
  tk : Tk H t c
  a : M.Mo H m1 m
  b : M.Mo H m2 n
  f : poseO H f q1
  g : poseO H g q2
  p : poseO H p q3
  d : poseO H du q4
theorem EnvL.same {M : Mots P w K mg base} {H0 : Hp} {t m1 m2 f g p du : Addr} {m n : M3} {q1 q2 q3 q4 : Int × Int × Nat} {c : Nat} {H H' : Hp} (e : EnvL M H0 t m1 m2 f g p du m n q1 q2 q3 q4 c H) (s : Same H H') : EnvL M H0 t m1 m2 f g p du m n q1 q2 q3 q4 c H' :=
  ⟨e.s0.trans s, e.tk.same s, M.same e.a s, M.same e.b s, e.f.same s, e.g.same s, e.p.same s, e.d.same s⟩
theorem EnvL.keep {M : Mots P w K mg base} {H0 : Hp} {t m1 m2 f g p du : Addr} {m n : M3} {q1 q2 q3 q4 : Int × Int × Nat} {c c' : Nat} {H H' : Hp} (e : EnvL M H0 t m1 m2 f g p du m n q1 q2 q3 q4 c H) (h0 : H0 t = none) (k : Keep t H H') (tk : Tk H' t c') : EnvL M H0 t m1 m2 f g p du m n q1 q2 q3 q4 c' H' :=
  ⟨same_ne h0 e.s0 k, tk, M.keep e.a e.tk k, M.keep e.b e.tk k, e.f.keep e.tk k, e.g.keep e.tk k, e.p.keep e.tk k, e.d.keep e.tk k⟩
def AllP (H : Hp) (xs : List V) : Prop := ∀ x, x ∈ xs → ∃ b q, x = .ref b ∧ poseO H b q
theorem AllP.same {H H' : Hp} {xs : List V} (h : AllP H xs) (s : Same H H') : AllP H' xs := fun x hx => by
  obtain ⟨b, q, e, o⟩ := h x hx
  exact ⟨b, q, e, o.same s⟩
theorem AllP.nil {H : Hp} : AllP H [] := fun x hx => nomatch hx
theorem AllP.cons {H : Hp} {b : Addr} {q : Int × Int × Nat} {xs : List V} (o : poseO H b q) (h : AllP H xs) : AllP H (.ref b :: xs) := fun x hx => by
  rcases List.mem_cons.mp hx with rfl | hx
  · exact ⟨b, q, rfl, o⟩
  · exact h x hx
end
end K13

set_option Elab.async false
set_option linter.all false
set_option maxRecDepth 100000
set_option maxHeartbeats 20000000
set_option exponentiation.threshold 600
namespace K13
open PySem PySem.Spec PyProof.Rows L2 RT M13
abbrev NL : List Str := Nlaw ++ [("value" : Str)]
theorem scL : FnScope NL ["script"] (defScope slaw) := ⟨rfl, rfl, rfl, by decide +kernel, rfl, by decide +kernel, by decide +kernel⟩
theorem mod4 (x y : Int) (h k : Nat) : some (HO.tup [.int x, .int y, .int (((h : Int) + (k : Int)) % 4)]) = some (HO.tup [.int x, .int y, .int (((h + k) % 4 : Nat) : Int)]) := by
  rw [show ((h : Int) + (k : Int)) % 4 = (((h + k) % 4 : Nat) : Int) by omega]
theorem Same.sql {K : PySem.W.Frag} {H H' : Hp} {a : Addr} {xs : List V} (e : Same H H') (h : SqL K H a xs) : SqL K H' a xs := by
  rcases h with (h | ⟨o, h⟩) | h
  · exact .inl (.inl (e _ _ h))
  · exact .inl (.inr ⟨o, e _ _ h⟩)
  · exact .inr h
section
variable {P : Program} {w : World} {K : PySem.W.Frag} {mg : Str → Option Value} {base : Heap}
def spLaw (K : PySem.W.Frag) : Sp := fun vs H Q _ => ∃ (a : Addr) (ns : List Int), vs = [.ref a] ∧ SqL K H a (ns.map V.int) ∧ ∀ H', Q (.bl true) H'
theorem ok_law (D : Ds K) (T : Tx K mg) (M : Mots P w K mg base) : FnG P w K mg base CX0 12 (dlaw.adr K) D.fd_law ["script"] (spLaw K) := by
  have GT : FnOk P w K mg base CX0 1 _ _ _ (spTank K) := ok_tank D T
  have GS : FnOk P w K mg base CX0 2 _ _ _ spStart := ok_start D T
  have GM : FnOk P w K mg base CX0 1 _ _ _ spMoved := ok_moved D T
  have GL : FnOk P w K mg base CX0 10 _ _ _ (sCall M.Mo) := ok_led D T M
  have GP : FnOk P w K mg base CX0 11 _ _ _ (spPowR M.Mo) := ok_powR D T M
  have GO : FnOk P w K mg base CX0 11 _ _ _ (spOrdR M.Mo) := ok_ordR D T M
  refine okG D.F_law scL (fun vs H Q E h => ?_) (fun cdv A outer s H vs Q E hg hr h => ?_)
  · obtain ⟨a, ns, rfl, _⟩ := h
    rfl
  · obtain ⟨a, ns, rfl, hS, q⟩ := h
    have nd := scL.nd
    have hr9 := hr.mono (show 9 ≤ 11 by decide)
    have hr10 := hr.mono (show 10 ≤ 11 by decide)
    refine ⟨_, PSs.nox (pss_cons (ps_for PassesOwn.never rfl (pi_range1 (by rfl) T.z_range (pa_cons (pe_callB (call_max2 rfl) (by rfl) T.z_max (by decide +kernel) (pa_cons pe_int (pa_cons (pe_callB (call_min2 rfl) (by rfl) T.z_min (by decide +kernel) (pa_cons pe_int (pa_cons (pe_callB call_len_seq (by rfl) T.z_len PySem.boot_len (pa_cons (pv 0) pa_nil)) pa_nil))) pa_nil))) pa_nil)) (pg_name (i := 1) nd rfl (.inl rfl)) (pss_cons (ps_set (i := 2) nd rfl (.inl rfl) (pe_call GT (hr.mono (by decide)) (by rfl) T.g__law_tank D.F__law_tank.kp (b__law_tank D) .nil pass0 (pa_cons (pv 0) (pa_cons (pv 1) pa_nil))))
      (pss_one (ps_for PassesOwn.never rfl (pi_range1 (by rfl) T.z_range (pa_cons pe_int pa_nil)) (pg_name (i := 3) nd rfl (.inl rfl)) (pss_cons (ps_par (i := 4) (j := 5) (by rfl) nd rfl rfl (by decide) rfl rfl (pa_cons (pe_call GS (hr.mono (by decide)) (by rfl) T.g__law_start D.F__law_start.kp (b__law_start D) .nil pass0 (pa_cons (pv 2) pa_nil)) (pa_cons (pe_call GS (hr.mono (by decide)) (by rfl) T.g__law_start D.F__law_start.kp (b__law_start D) .nil pass0 (pa_cons (pv 2) pa_nil)) pa_nil)) (by rfl))
      (pss_cons (ps_if (pt_cmpR op_eq (pv 3) pe_int (nomark _)) (pss_one (ps_set (i := 4) nd rfl (.inl rfl) (pe_tup (pa_cons pe_int (pa_cons pe_int (pa_cons (pe_ix ix_tup (pv 4) pe_int (fun _ _ => rfl)) pa_nil)))))) pss_nil)
      (pss_cons (ps_asg (pe_tup (pa_cons (pe_make M.mkf M.Fi hr10 (by rfl) T.g_Motion M.bi .nil pass0 (pa_cons (pe_ix ix_tup (pv 4) pe_int (fun _ _ => rfl)) (pa_cons (pe_ix ix_tup (pv 4) pe_int (fun _ _ => rfl)) (pa_cons (pe_ix ix_tup (pv 4) pe_int (fun _ _ => rfl)) pa_nil)))) (pa_cons (pe_make M.mkf M.Fi hr10 (by rfl) T.g_Motion M.bi .nil pass0 (pa_cons (pe_ix ix_tup (pv 5) pe_int (fun _ _ => rfl)) (pa_cons (pe_ix ix_tup (pv 5) pe_int (fun _ _ => rfl)) (pa_cons (pe_ix ix_tup (pv 5) pe_int (fun _ _ => rfl)) pa_nil)))) pa_nil))) (pg_tup (by rfl) (pgs_cons (pg_name (i := 6) nd rfl (.inr rfl)) (pgs_cons (pg_name (i := 7) nd rfl (.inl rfl)) pgs_nil))) (by rfl))
      (pss_cons (ps_set (i := 8) nd rfl (.inl rfl) (pe_call GS (hr.mono (by decide)) (by rfl) T.g__law_start D.F__law_start.kp (b__law_start D) .nil pass0 (pa_cons (pv 2) pa_nil)))
      (pss_cons (ps_if (pt_cmpR op_ne (pe_callB (call_reprD hg hr.units) (by rfl) T.z_repr (by decide +kernel) (pa_cons (pe_lst (pa_cons (pe_prop (pv 6) T.c_Motion M.turn.h M.turn.F hr10 M.turn.b .nil pass0 rfl) (pa_cons (pe_prop (pv 6) T.c_Motion M.shift.h M.shift.F hr10 M.shift.b .nil pass0 rfl) pa_nil))) pa_nil)) (pe_callB (call_reprD hg hr.units) (by rfl) T.z_repr (by decide +kernel) (pa_cons (pe_lst (pa_cons (pe_ix ix_tup (pv 4) pe_int (fun _ _ => rfl)) (pa_cons (pe_slice sl_tup (pv 4) po_none (po_some pe_int)) pa_nil))) pa_nil)) (nomark _)) (pss_one (ps_ret pe_bl)) pss_nil)
      (pss_cons (ps_set (i := 9) nd rfl (.inl rfl) (pe_call GM (hr.mono (by decide)) (by rfl) T.g__law_moved D.F__law_moved.kp (b__law_moved D) .nil pass0 (pa_cons (pe_prop (pv 6) T.c_Motion M.turn.h M.turn.F hr10 M.turn.b .nil pass0 rfl) (pa_cons (pe_prop (pv 6) T.c_Motion M.shift.h M.shift.F hr10 M.shift.b .nil pass0 rfl) (pa_cons (pv 8) pa_nil)))))
      (pss_cons (ps_if (PW.pt (pw_or (pt_cmpR op_ne (pe_callB (call_reprD hg hr.units) (by rfl) T.z_repr (by decide +kernel) (pa_cons (pe_callO (i := 6) M.call.m M.cfn M.call.F hr9 (by rfl) (.inr (.inl rfl)) M.call.b pass0 (pa_cons (pv 8) pa_nil)) pa_nil)) (pe_callB (call_reprD hg hr.units) (by rfl) T.z_repr (by decide +kernel) (pa_cons (pv 9) pa_nil)) (nomark _)) (pw_or1 (pt_cmpR op_ne (pe_callB (call_reprD hg hr.units) (by rfl) T.z_repr (by decide +kernel) (pa_cons (pe_call GL (hr.mono (by decide)) (by rfl) T.g__law_led D.F__law_led.kp (b__law_led D) .nil pass0 (pa_cons (pe_op (op_binO T.f_Motion M.add.m M.add.F hr9 M.add.b pass0) (pv 6) (pv 7)) (pa_cons (pv 8) pa_nil))) pa_nil)) (pe_callB (call_reprD hg hr.units) (by rfl) T.z_repr (by decide +kernel) (pa_cons (pe_callO (i := 7) M.call.m M.cfn M.call.F hr9 (by rfl) (.inl rfl) M.call.b pass0 (pa_cons (pv 9) pa_nil)) pa_nil)) (nomark _))))) (pss_one (ps_ret pe_bl)) pss_nil)
      (pss_cons (ps_set (i := 10) nd rfl (.inl rfl) (pe_cmpR (op_eqD hr.units) (pe_call GL (hr.mono (by decide)) (by rfl) T.g__law_led D.F__law_led.kp (b__law_led D) .nil pass0 (pa_cons (pe_op (op_binO T.f_Motion M.add.m M.add.F hr9 M.add.b pass0) (pv 6) (pv 7)) (pa_cons (pe_tup (pa_cons pe_int (pa_cons pe_int (pa_cons pe_int pa_nil)))) pa_nil))) (pe_call GL (hr.mono (by decide)) (by rfl) T.g__law_led D.F__law_led.kp (b__law_led D) .nil pass0 (pa_cons (pe_op (op_binO T.f_Motion M.add.m M.add.F hr9 M.add.b pass0) (pv 7) (pv 6)) (pa_cons (pe_tup (pa_cons pe_int (pa_cons pe_int (pa_cons pe_int pa_nil)))) pa_nil))) (nomark _)))
      (pss_cons (ps_if (pt_cmpR op_ne (pe_cmpR (op_eqO (fun _ _ => rfl) M.eq.m M.eq.F hr9 M.eq.b pass0) (pe_op (op_binO T.f_Motion M.add.m M.add.F hr9 M.add.b pass0) (pv 6) (pv 7)) (pe_op (op_binO T.f_Motion M.add.m M.add.F hr9 M.add.b pass0) (pv 7) (pv 6)) (nomark _)) (pv 10) (nomark _)) (pss_one (ps_ret pe_bl)) pss_nil)
      (pss_cons (ps_if (PW.pt (pw_or (pt_not (pt_val (pe_call GP (hr.mono (by decide)) (by rfl) T.g__law_power_right D.F__law_power_right.kp (b__law_power_right D) .nil pass0 (pa_cons (pv 2) (pa_cons (pv 6) pa_nil))))) (pw_or1 (pt_not (pt_val (pe_call GO (hr.mono (by decide)) (by rfl) T.g__law_order_right D.F__law_order_right.kp (b__law_order_right D) .nil pass0 (pa_cons (pv 6) pa_nil))))))) (pss_one (ps_ret pe_bl)) pss_nil)
      (pss_cons (ps_if (PW.pt (pw_or (pt_cmpR op_ne (pe_cmpR (op_eqO (fun _ _ => rfl) M.eq.m M.eq.F hr9 M.eq.b pass0) (pv 6) (pv 7) (nomark _)) (pe_cmpR (op_eqD hr.units) (pv 4) (pv 5) (nomark _)) (nomark _)) (pw_or1 (pt_cmpR (op_neO M.ne M.mro M.eq.m M.eq.F hr10 M.eq.b pass0) (pv 6) (pe_make M.mkf M.Fi hr10 (by rfl) T.g_Motion M.bi .nil pass0 (pa_cons (pe_ix ix_tup (pv 4) pe_int (fun _ _ => rfl)) (pa_cons (pe_ix ix_tup (pv 4) pe_int (fun _ _ => rfl)) (pa_cons (pe_ix ix_tup (pv 4) pe_int (fun _ _ => rfl)) pa_nil)))) (nomark _))))) (pss_one (ps_ret pe_bl)) pss_nil)
      (pss_cons (ps_asg (pv 4) (pg_tup (by rfl) (pgs_cons (pg_name (i := 11) nd rfl (.inl rfl)) (pgs_cons (pg_name (i := 12) nd rfl (.inl rfl)) (pgs_cons (pg_name (i := 13) nd rfl (.inl rfl)) pgs_nil)))))
      (pss_cons (ps_set (i := 14) nd rfl (.inl rfl) (pe_lst (pa_cons (pe_tup (pa_cons (pe_op op_add (pv 11) pe_int) (pa_cons (pv 12) (pa_cons (pv 13) pa_nil)))) (pa_cons (pe_tup (pa_cons (pv 11) (pa_cons (pe_op op_sub (pv 12) pe_int) (pa_cons (pv 13) pa_nil)))) (pa_cons (pe_tup (pa_cons (pv 11) (pa_cons (pv 12) (pa_cons (pe_op op_mod (pe_op op_add (pv 13) pe_int) pe_int) pa_nil)))) (pa_cons (pe_tup (pa_cons (pv 11) (pa_cons (pv 12) (pa_cons (pe_op op_mod (pe_op op_add (pv 13) pe_int) pe_int) pa_nil)))) pa_nil))))))
      (pss_cons (ps_for PassesOwn.never rfl (pi_list (pe_op op_cat (pv 14) (pe_lst (pa_cons (pe_tup (pa_cons (pv 12) (pa_cons (pv 11) (pa_cons (pv 13) pa_nil)))) (pa_cons (pe_tup (pa_cons (pe_op op_sub pe_int (pv 11)) (pa_cons (pv 12) (pa_cons (pv 13) pa_nil)))) (pa_cons (pe_tup (pa_cons (pv 11) (pa_cons (pe_op op_sub pe_int (pv 12)) (pa_cons (pv 13) pa_nil)))) pa_nil)))))) (pg_tup (by rfl) (pgs_cons (pg_name (i := 15) nd rfl (.inl rfl)) (pgs_cons (pg_name (i := 16) nd rfl (.inl rfl)) (pgs_cons (pg_name (i := 17) nd rfl (.inl rfl)) pgs_nil)))) (pss_one (ps_if (pt_cmpR op_ne (pe_cmpR (op_eqO (fun _ _ => rfl) M.eq.m M.eq.F hr9 M.eq.b pass0) (pv 6) (pe_make M.mkf M.Fi hr10 (by rfl) T.g_Motion M.bi .nil pass0 (pa_cons (pv 17) (pa_cons (pv 15) (pa_cons (pv 16) pa_nil)))) (nomark _)) (pe_cmpR (op_eqD hr.units) (pe_tup (pa_cons (pv 15) (pa_cons (pv 16) (pa_cons (pv 17) pa_nil)))) (pv 4) (nomark _)) (nomark _)) (pss_one (ps_ret pe_bl)) pss_nil)))
      (pss_cons (ps_if (PW.pt (pw_or (pt_cmpR (op_neO M.ne M.mro M.eq.m M.eq.F hr10 M.eq.b pass0) (pe_op (op_binO T.f_Motion M.add.m M.add.F hr9 M.add.b pass0) (pv 6) (pe_un (un_negO M.neg.m M.neg.F hr9 M.neg.b pass0) (pv 6))) (pe_make M.mkf M.Fi hr10 (by rfl) T.g_Motion M.bi .nil pass0 (pa_cons pe_int (pa_cons pe_int (pa_cons pe_int pa_nil)))) (nomark _)) (pw_or1 (pt_cmpR (op_neO M.ne M.mro M.eq.m M.eq.F hr10 M.eq.b pass0) (pe_op (op_binO T.f_Motion M.add.m M.add.F hr9 M.add.b pass0) (pe_un (un_negO M.neg.m M.neg.F hr9 M.neg.b pass0) (pv 6)) (pv 6)) (pe_make M.mkf M.Fi hr10 (by rfl) T.g_Motion M.bi .nil pass0 (pa_cons pe_int (pa_cons pe_int (pa_cons pe_int pa_nil)))) (nomark _))))) (pss_one (ps_ret pe_bl)) pss_nil)
      (pss_one (ps_if (pt_cmpR (op_neD hr.units) (pe_lc (own := [(("value" : Str), 18)]) (g := gName 18) rfl nd (pi_list (pe_lst (pa_cons pe_non (pa_cons (pv 4) (pa_cons (pe_prop (pv 6) T.c_Motion M.shift.h M.shift.F hr10 M.shift.b .nil pass0 rfl) (pa_cons pe_int (pa_cons pe_str (pa_cons (pe_prop (pv 6) T.c_Motion M.turn.h M.turn.F hr10 M.turn.b .nil pass0 rfl) (pa_cons (pe_lst (pa_cons (pv 6) pa_nil)) pa_nil))))))))) (blkOk_by (own := [(("value" : Str), 18)]) (N := NL) (sc := defScope slaw) (by decide +kernel)) (fun _ _ _ _ _ => pg_name (i := 18) nd rfl (Or.inl rfl)) (fun _ _ _ _ _ => pts_one (pt_cmpR (show OpR _ _ (rEqO K (He.ga K "Motion") (sEq K M.Mo) E0) from op_eqO (fun _ _ => rfl) M.eq.m M.eq.F hr9 M.eq.b pass0) (pv 6) (pv 18) (nomark _))) (fun _ _ _ _ _ => pv 18)) (pe_lst pa_nil) (nomark _)) (pss_one (ps_ret pe_bl)) pss_nil)))))))))))))))))))))
      (pss_one (ps_ret (pe_and (pe_cmpR (op_eqD hr.units) (pe_call GL (hr.mono (by decide)) (by rfl) T.g__law_led D.F__law_led.kp (b__law_led D) .nil pass0 (pa_cons (pe_make M.mkf M.Fi hr10 (by rfl) T.g_Motion M.bi .nil pass0 (pa_cons pe_int (pa_cons pe_int (pa_cons pe_int pa_nil)))) (pa_cons (pe_tup (pa_cons pe_int (pa_cons pe_int (pa_cons pe_int pa_nil)))) pa_nil))) (pe_tup (pa_cons pe_int (pa_cons (pe_un un_neg pe_int) (pa_cons pe_int pa_nil)))) (nomark _)) (pe_one (pe_cmpR op_eq (pe_meth0 (pe_make M.mkf M.Fi hr10 (by rfl) T.g_Motion M.bi .nil pass0 (pa_cons pe_int (pa_cons pe_int (pa_cons pe_int pa_nil)))) T.c_Motion M.ord.m M.ord.F hr9 M.ord.b .nil pass0) pe_int (nomark _))))))), ?_⟩
    -- reading
    refine ⟨_, rfl, a, _, rfl, .inl hS, _, _, rfl, _, _, rfl, _, rfl, ?b1, ?b2, ?_⟩
    case b1 => split <;> omega
    case b2 => split <;> split <;> omega
    refine for_range (lo := 0) (fun i σ H' => ∃ z1 z2 z3 z4 z5 z6 z7 z8 z9 z10 z11 z12 z13 z14 z15 z16 z17 z18, SqL K H' a (ns.map V.int) ∧ σ = [some (.ref a), z1, z2, z3, z4, z5, z6, z7, z8, z9, z10, z11, z12, z13, z14, z15, z16, z17, z18])
      ⟨none, none, none, none, none, none, none, none, none, none, none, none, none, none, none, none, none, none, hS, rfl⟩ (fun k σ' H0 hk hp => ?_) fun σ' H' hp => ?_
    · obtain ⟨z1, z2, z3, z4, z5, z6, z7, z8, z9, z10, z11, z12, z13, z14, z15, z16, z17, z18, hS0, rfl⟩ := hp
      have hk8 : k < 9 := by
        have h2 := hk
        split at h2 <;> split at h2 <;> omega
      refine ⟨_, rfl, _, rfl, a, ns, k, by rw [Int.zero_add]; rfl, hS0, by omega, fun t Ht st h0 tk0 => ?_⟩
      refine ⟨3, rfl, by decide, by decide, ?_⟩
      refine for_range (lo := 0) (n := 3) (fun i σ H' => ∃ c z3 z4 z5 z6 z7 z8 z9 z10 z11 z12 z13 z14 z15 z16 z17 z18, Same H0 H' ∧ Tk H' t c ∧ c ≤ 100 * i ∧ σ = [some (.ref a), some (.int (0 + k)), some (.ref t), z3, z4, z5, z6, z7, z8, z9, z10, z11, z12, z13, z14, z15, z16, z17, z18])
        ⟨0, z3, z4, z5, z6, z7, z8, z9, z10, z11, z12, z13, z14, z15, z16, z17, z18, st, tk0, Nat.zero_le _, rfl⟩ (fun j σ' H hj hp => ?_) fun σ' H' hp => ?_
      · obtain ⟨c, z3, z4, z5, z6, z7, z8, z9, z10, z11, z12, z13, z14, z15, z16, z17, z18, s0, tk, hcj, rfl⟩ := hp
        have hc : c ≤ 300 := by omega
        refine ⟨_, rfl, t, c, rfl, tk, by omega, fun f x1 y1 h1 c1 H1 k1 t1 l1 u1 _ p1 bx1 bx2 by1 by2 => ?_⟩
        refine ⟨_, rfl, t, c1, rfl, t1, by omega, fun g x2 y2 h2 c2 H2 k2 t2 l2 u2 _ p2 cx1 cx2 cy1 cy2 => ⟨_, _, rfl, ?_⟩⟩
        have p1' : poseO H2 f (x1, y1, h1) := (show poseO H1 f (x1, y1, h1) from p1).keep t1 k2
        have p2' : poseO H2 g (x2, y2, h2) := p2
        have s2 : Same H0 H2 := same_ne h0 s0 (k1.trans k2)
        have hh1 : h1 ≤ 3 := p1.2
        have hh2 : h2 ≤ 3 := p2.2
        have bX := big400 bx1 bx2
        have bY := big400 by1 by2
        have b2x := big400 cx1 cx2
        have b2y := big400 cy1 cy2
        clear p1 p2
        refine ⟨_, rfl, rfl, _, rfl, ite2 (fun e => ?ta) (fun e => ?tb)⟩
        case' ta =>
          refine ⟨_, rfl, f, _, 2, _, rfl, rfl, tupT p1'.1, atI_nat (j := 2) rfl, by show 3 ≤ sizeLine; decide, fun fF hF => ?_⟩
          have sF : Same H2 (upd H2 fF (.tup [.int 0, .int 0, .int (h1 : Int)])) := same_new hF
          have pG := p2'.same sF
          have sH := s2.trans sF
          have tH := t2.same sF
          have pF : poseO (upd H2 fF (.tup [.int 0, .int 0, .int (h1 : Int)])) fF (0, 0, h1) := ⟨upd_same, hh1⟩
          obtain ⟨X1, eX⟩ : ∃ X : Int, X = 0 := ⟨0, rfl⟩
          obtain ⟨Y1, eY⟩ : ∃ X : Int, X = 0 := ⟨0, rfl⟩
          have pF : poseO (upd H2 fF (.tup [.int 0, .int 0, .int (h1 : Int)])) fF (X1, Y1, h1) := by
            rw [eX, eY]
            exact pF
          have bX : X1.natAbs < 2 ^ 390 := by rw [eX]; decide
          have bY : Y1.natAbs < 2 ^ 390 := by rw [eY]; decide
          clear eX eY
        case' tb =>
          obtain ⟨fF, eF⟩ : ∃ fF, fF = f := ⟨f, rfl⟩
          obtain ⟨X1, eX⟩ : ∃ X : Int, X = x1 := ⟨_, rfl⟩
          obtain ⟨Y1, eY⟩ : ∃ X : Int, X = y1 := ⟨_, rfl⟩
          subst eF eX eY
          have pF := p1'
          have pG := p2'
          have sH := s2
          have tH := t2
        all_goals
          clear p1' p2' s2 t2
          have bF : (X1.natAbs < 2 ^ 390 ∧ Y1.natAbs < 2 ^ 390) := ⟨bX, bY⟩
          have bG : (x2.natAbs < 2 ^ 390 ∧ y2.natAbs < 2 ^ 390) := ⟨b2x, b2y⟩
          -- the motions
          refine ⟨_, rfl, fF, _, 2, _, rfl, rfl, tupT pF.1, atI_nat (j := 2) rfl, _, rfl, fF, _, 0, _, rfl, rfl, tupT pF.1, atI_nat (j := 0) rfl, _, rfl, fF, _, 1, _, rfl, rfl, tupT pF.1, atI_nat (j := 1) rfl,
            fun m1 d1 n1 nd1 _ => M.made (t := h1) hh1 n1 nd1 fun H3 s3 mo1 => ⟨rfl, ?_⟩⟩
          have pG3 := pG.same s3
          refine ⟨_, rfl, g, _, 2, _, rfl, rfl, tupT pG3.1, atI_nat (j := 2) rfl, _, rfl, g, _, 0, _, rfl, rfl, tupT pG3.1, atI_nat (j := 0) rfl, _, rfl, g, _, 1, _, rfl, rfl, tupT pG3.1, atI_nat (j := 1) rfl,
            fun m2 d2 n2 nd2 _ => M.made (t := h2) hh2 n2 nd2 fun H4 s4 mo2 => ⟨rfl, by show 2 ≤ sizeLine; decide, fun tp ntp => ?_⟩⟩
          refine ⟨tp, _, rfl, tupT upd_same, rfl, _, _, rfl, _, _, rfl, rfl, ?_⟩
          have sp := same_new (o := .tup [.ref m1, .ref m2]) ntp
          have mo1' := M.same mo1 (s4.trans sp)
          have mo2' := M.same mo2 sp
          have pF4 := pF.same (s3.trans (s4.trans sp))
          have pG4 := pG.same (s3.trans (s4.trans sp))
          have sH4 := sH.trans (s3.trans (s4.trans sp))
          have tH4 := tH.same (s3.trans (s4.trans sp))
          clear pG3 pF pG sH tH
          -- the pose
          dsimp only [List.set_cons_zero, List.set_cons_succ]
          refine ⟨_, rfl, t, c2, rfl, tH4, by omega, fun p x y h c3 H5 k5 t5 l5 u5 _ pp ex1 ex2 ey1 ey2 => ?_⟩
          have bP : (x.natAbs < 2 ^ 390 ∧ y.natAbs < 2 ^ 390) := ⟨big400 ex1 ex2, big400 ey1 ey2⟩
          have pp : poseO H5 p (x, y, h) := pp
          have hh : h ≤ 3 := pp.2
          have env : EnvL M H0 t m1 m2 fF g p p (h1, X1, Y1) (h2, x2, y2) (X1, Y1, h1) (x2, y2, h2) (x, y, h) (x, y, h) c3 H5 :=
            ⟨same_ne h0 sH4 k5, t5, M.keep mo1' tH4 k5, M.keep mo2' tH4 k5, pF4.keep tH4 k5, pG4.keep tH4 k5, pp, pp⟩
          have hc3 : c3 ≤ c + 21 := by omega
          clear ex1 ex2 ey1 ey2 mo1' mo2' pF4 pG4 sH4 tH4 mo1 mo2 k5 t5 pp
          -- what the motion tells
          obtain ⟨d, fs, e1⟩ := M.ins env.a
          refine ⟨_, rfl, m1, d, fs, rfl, e1, m1, _, rfl, env.a, _, rfl, m1, d, fs, rfl, e1, m1, _, rfl, env.a, fun sr H6 s6 tsr => ⟨by show 2 ≤ sizeLine; decide, fun l nl => ?_⟩⟩
          have tsr : H6 sr = some (.tup [.int X1, .int Y1]) := tsr
          have ok2 := twoD_ok (h1 : Int) X1 Y1 (sm_h hh1) (by omega) (by omega)
          refine ⟨l, twoD (h1 : Int) X1 Y1, rfl, .lst (lstL upd_same) (.cons (.int _) (.cons (.tup (tupT ((upd_ne (ne_of_none tsr nl)).trans tsr)) (.cons (.int _) (.cons (.int _) .nil))) .nil)), ok2.1, ok2.2.1, ok2.2.2, twoD_len _ _ _ (sm_h hh1) (by omega) (by omega), ?_⟩
          have env := env.same (s6.trans (same_new (o := .lst [.int (h1 : Int), .ref sr]) nl))
          refine ⟨_, rfl, fF, _, 2, _, rfl, rfl, tupT env.f.1, atI_nat (j := 2) rfl, _, rfl, 2, rfl, fF, _, rfl, tupT env.f.1, by show ¬ (HT.sIx 3 0 none = 0 ∧ HT.sIx 3 3 (some 2) = 3); decide, fun u nu => ⟨by show 2 ≤ sizeLine; decide, fun l2 nl2 => ?_⟩⟩
          refine ⟨l2, twoD (h1 : Int) X1 Y1, rfl, .lst (lstL upd_same) (.cons (.int _) (.cons (.tup (tupT ((upd_ne (ne_of_none upd_same nl2)).trans upd_same)) (.cons (.int _) (.cons (.int _) .nil))) .nil)), ok2.1, ok2.2.1, ok2.2.2, twoD_len _ _ _ (sm_h hh1) (by omega) (by omega), ?_⟩
          refine ⟨rfl, false, by rw [show ∀ v : V, decide (v = v) = true from fun v => decide_eq_true rfl]; rfl, iteF ?_⟩
          have env := env.same ((same_new (o := .tup (cutV [.int X1, .int Y1, .int (h1 : Int)] none (some 2))) nu).trans (same_new (o := .lst [.int (h1 : Int), .ref u]) nl2))
          -- due
          obtain ⟨d, fs, e1⟩ := M.ins env.a
          refine ⟨_, rfl, m1, d, fs, rfl, e1, m1, _, rfl, env.a, _, rfl, m1, d, fs, rfl, e1, m1, _, rfl, env.a, fun sr H6 s6 tsr => ⟨_, rfl, ?_⟩⟩
          have env := env.same s6
          refine ⟨sr, p, (h1, X1, Y1), _, rfl, tsr, env.p, fun du H7 s7 pdu => ?_⟩
          have env : EnvL M H0 t m1 m2 fF g p du (h1, X1, Y1) (h2, x2, y2) (X1, Y1, h1) (x2, y2, h2) (x, y, h) (act (h1, X1, Y1) (x, y, h)) c3 H7 :=
            have e := env.same s7
            ⟨e.s0, e.tk, e.a, e.b, e.f, e.g, e.p, pdu⟩
          have bD := act_bd (m := (h1, X1, Y1)) (q := (x, y, h)) bF bP
          have okD := poseD_ok (q := act (h1, X1, Y1) (x, y, h)) ⟨by omega, by omega, act_le _ _⟩
          have bD2 := act_bd (m := (h2, x2, y2)) (q := act (h1, X1, Y1) (x, y, h)) bG bD
          have okD2 := poseD_ok (q := act (h2, x2, y2) (act (h1, X1, Y1) (x, y, h))) ⟨by omega, by omega, act_le _ _⟩
          -- the poses behind the motions
          dsimp only [List.set_cons_zero, List.set_cons_succ]
          obtain ⟨d, fs, e1⟩ := M.ins env.a
          refine ⟨m1, rfl, _, rfl, ⟨d, fs, e1⟩, m1, _, p, _, rfl, env.a, env.p, fun r8 H8 s8 p8 => ?_⟩
          have env := env.same s8
          refine ⟨r8, poseD _, rfl, p8.dp, okD.1, okD.2.1, okD.2.2.1, okD.2.2.2, _, rfl, du, poseD _, rfl, env.d.dp, okD.1, okD.2.1, okD.2.2.1, okD.2.2.2, rfl, false, by rw [show ∀ v : V, decide (v = v) = true from fun v => decide_eq_true rfl]; rfl, iteF ?_⟩
          obtain ⟨d, fs, e1⟩ := M.ins env.a
          obtain ⟨d', fs', e2⟩ := M.ins env.b
          refine ⟨_, rfl, _, rfl, m1, d, fs, rfl, e1, .inl ⟨m2, d', fs', rfl, e2⟩, m1, m2, _, _, rfl, env.a, env.b, fun r9 H9 s9 m9 => ?_⟩
          have env := env.same s9
          refine ⟨_, rfl, r9, _, p, _, rfl, m9, env.p, fun r10 H10 s10 p10 => ?_⟩
          have env := env.same s10
          rw [act_cmp] at p10
          obtain ⟨d', fs', e2⟩ := M.ins env.b
          refine ⟨r10, poseD _, rfl, p10.dp, okD2.1, okD2.2.1, okD2.2.2.1, okD2.2.2.2, m2, rfl, _, rfl, ⟨d', fs', e2⟩, m2, _, du, _, rfl, env.b, env.d, fun r11 H11 s11 p11 => ?_⟩
          have env := env.same s11
          refine ⟨r11, poseD _, rfl, p11.dp, okD2.1, okD2.2.1, okD2.2.2.1, okD2.2.2.2, rfl, false, by rw [show ∀ v : V, decide (v = v) = true from fun v => decide_eq_true rfl]; rfl, iteF ?_⟩
          -- one order or the other
          obtain ⟨d, fs, e1⟩ := M.ins env.a
          obtain ⟨d', fs', e2⟩ := M.ins env.b
          refine ⟨_, rfl, _, rfl, m1, d, fs, rfl, e1, .inl ⟨m2, d', fs', rfl, e2⟩, m1, m2, _, _, rfl, env.a, env.b, fun r12 H12 s12 m12 => ⟨by show 3 ≤ sizeLine; decide, fun zr nz => ?_⟩⟩
          have sz := same_new (o := .tup [.int 0, .int 0, .int 0]) nz
          have env := (env.same s12).same sz
          refine ⟨r12, _, zr, (0, 0, 0), rfl, M.same m12 sz, ⟨upd_same, by decide⟩, fun r13 H13 s13 p13 => ?_⟩
          have env := env.same s13
          obtain ⟨d, fs, e1⟩ := M.ins env.a
          obtain ⟨d', fs', e2⟩ := M.ins env.b
          refine ⟨_, rfl, _, rfl, m2, d', fs', rfl, e2, .inl ⟨m1, d, fs, rfl, e1⟩, m2, m1, _, _, rfl, env.b, env.a, fun r14 H14 s14 m14 => ⟨by show 3 ≤ sizeLine; decide, fun zr2 nz2 => ?_⟩⟩
          have sz2 := same_new (o := .tup [.int 0, .int 0, .int 0]) nz2
          have env := (env.same s14).same sz2
          refine ⟨r14, _, zr2, (0, 0, 0), rfl, M.same m14 sz2, ⟨upd_same, by decide⟩, fun r15 H15 s15 p15 => ?_⟩
          have env := env.same s15
          refine ⟨_, _, (p13.same (s14.trans (sz2.trans s15))).dp, p15.dp, rfl, rfl, ?_⟩
          have hal : PyData.eqv (poseD (act (cmp (h1, X1, Y1) (h2, x2, y2)) (0, 0, 0))) (poseD (act (cmp (h2, x2, y2) (h1, X1, Y1)) (0, 0, 0))) = decide (cmp (h1, X1, Y1) (h2, x2, y2) = cmp (h2, x2, y2) (h1, X1, Y1)) := by
            rw [poseD_eqv]
            exact decide_eq_decide.mpr ⟨fun h => ext_act (cmp_le _ _) (cmp_le _ _) h, fun h => by rw [h]⟩
          rw [hal]
          generalize hal2 : decide (cmp (h1, X1, Y1) (h2, x2, y2) = cmp (h2, x2, y2) (h1, X1, Y1)) = al
          obtain ⟨d, fs, e1⟩ := M.ins env.a
          obtain ⟨d', fs', e2⟩ := M.ins env.b
          refine ⟨_, rfl, _, rfl, m1, d, fs, rfl, e1, .inl ⟨m2, d', fs', rfl, e2⟩, m1, m2, _, _, rfl, env.a, env.b, fun r16 H16 s16 m16 => ?_⟩
          have env := env.same s16
          obtain ⟨d, fs, e1⟩ := M.ins env.a
          obtain ⟨d', fs', e2⟩ := M.ins env.b
          refine ⟨_, rfl, _, rfl, m2, d', fs', rfl, e2, .inl ⟨m1, d, fs, rfl, e1⟩, m2, m1, _, _, rfl, env.b, env.a, fun r17 H17 s17 m17 => ?_⟩
          have env := env.same s17
          have m16' := M.same m16 s17
          obtain ⟨d3, f3, e3⟩ := M.ins m16'
          obtain ⟨d4, f4, e4⟩ := M.ins m17
          refine ⟨r16, d3, f3, _, rfl, e3, .inl ⟨r17, d4, f4, rfl, e4, rfl⟩, T.nf_self, r16, _, _, rfl, m16', .inl ⟨r17, _, rfl, m17, ?_⟩⟩
          rw [hal2]
          refine ⟨_, rfl, rfl, false, by rw [show ∀ v : V, decide (v = v) = true from fun v => decide_eq_true rfl]; rfl, iteF ?_⟩
          -- powers, order
          dsimp only [List.set_cons_zero, List.set_cons_succ]
          refine ⟨_, rfl, _, rfl, t, c3, m1, _, rfl, env.tk, by omega, env.a, ⟨by show X1.natAbs < 2 ^ 400; omega, by show Y1.natAbs < 2 ^ 400; omega⟩, fun c4 H18 k18 t18 l18 u18 => ⟨true, rfl, iteF ?_⟩⟩
          have env := env.keep h0 k18 t18
          refine ⟨_, rfl, m1, _, rfl, env.a, fun H19 s19 => ⟨true, rfl, iteF ?_⟩⟩
          have env := env.same s19
          have hc4 : c4 ≤ c + 41 := by omega
          -- equal ones
          obtain ⟨d, fs, e1⟩ := M.ins env.a
          obtain ⟨d', fs', e2⟩ := M.ins env.b
          refine ⟨_, rfl, _, rfl, m1, d, fs, _, rfl, e1, .inl ⟨m2, d', fs', rfl, e2, rfl⟩, T.nf_self, m1, _, _, rfl, env.a, .inl ⟨m2, _, rfl, env.b, ?_⟩⟩
          have heq : PyData.eqv (poseD (X1, Y1, h1)) (poseD (x2, y2, h2)) = decide (((h1, X1, Y1) : M3) = (h2, x2, y2)) := by
            rw [poseD_eqv]
            refine decide_eq_decide.mpr ?_
            simp only [Prod.mk.injEq]
            omega
          refine ⟨_, rfl, _, rfl, _, _, env.f.dp, env.g.dp, rfl, rfl, ?_⟩
          rw [heq]
          refine ⟨rfl, false, by rw [show ∀ v : V, decide (v = v) = true from fun v => decide_eq_true rfl]; rfl, iteF ?_⟩
          refine ⟨_, rfl, _, rfl, fF, _, 2, _, rfl, rfl, tupT env.f.1, atI_nat (j := 2) rfl, _, rfl, fF, _, 0, _, rfl, rfl, tupT env.f.1, atI_nat (j := 0) rfl, _, rfl, fF, _, 1, _, rfl, rfl, tupT env.f.1, atI_nat (j := 1) rfl,
            fun m3 d3 n3 nd3 _ => M.made (t := h1) hh1 n3 nd3 fun H20 s20 mo3 => ⟨rfl, ?_⟩⟩
          have env := env.same s20
          obtain ⟨d, fs, e1⟩ := M.ins env.a
          obtain ⟨d', fs', e2⟩ := M.ins mo3
          refine ⟨m1, d, fs, _, rfl, e1, .inl ⟨m3, d', fs', rfl, e2, rfl⟩, T.nf_self, m1, _, _, rfl, env.a, .inl ⟨m3, _, rfl, mo3, true, by rw [decide_eq_true rfl], false, rfl, iteF ?_⟩⟩
          refine ⟨_, rfl, fF, _, rfl, tupT env.f.1, rfl, _, _, rfl, _, _, rfl, _, _, rfl, rfl, ?_⟩
          -- near ones
          dsimp only [List.set_cons_zero, List.set_cons_succ]
          have g1 : (h1 : Int) ≤ 3 := by omega
          refine ⟨_, rfl, _, _, rfl, rfl, _, rfl, _, rfl, by show 3 ≤ sizeLine; decide, fun a1 w1 => ?_⟩
          have v1 := same_new (o := .tup [.int (X1 + 1), .int Y1, .int (h1 : Int)]) w1
          refine ⟨_, rfl, _, rfl, _, _, rfl, rfl, _, rfl, by show 3 ≤ sizeLine; decide, fun a2 w2 => ?_⟩
          have v2 := same_new (o := .tup [.int X1, .int (Y1 - 1), .int (h1 : Int)]) w2
          refine ⟨_, rfl, _, rfl, _, rfl, _, _, rfl, rfl, _, _, rfl, rfl, by show (0 : Int) < 4; decide, by show 3 ≤ sizeLine; decide, fun a3 w3 => ?_⟩
          have v3 := same_new (o := .tup [.int X1, .int Y1, .int (((h1 : Int) + 1) % 4)]) w3
          refine ⟨_, rfl, _, rfl, _, rfl, _, _, rfl, rfl, _, _, rfl, rfl, by show (0 : Int) < 4; decide, by show 3 ≤ sizeLine; decide, fun a4 w4 => ⟨by show 4 ≤ sizeLine; decide, fun b1 y1 => ?_⟩⟩
          have v4 := same_new (o := .tup [.int X1, .int Y1, .int (((h1 : Int) + 2) % 4)]) w4
          have v5 := same_new (o := .lst [.ref a1, .ref a2, .ref a3, .ref a4]) y1
          have o1 : poseO _ a1 (X1 + 1, Y1, h1) := ⟨(v2.trans (v3.trans (v4.trans v5))) _ _ upd_same, hh1⟩
          have o2 : poseO _ a2 (X1, Y1 - 1, h1) := ⟨(v3.trans (v4.trans v5)) _ _ upd_same, hh1⟩
          have o3 : poseO _ a3 (X1, Y1, (h1 + 1) % 4) := ⟨(v4.trans v5) _ _ (upd_same.trans (mod4 X1 Y1 h1 1)), by show (h1 + 1) % 4 ≤ 3; omega⟩
          have o4 : poseO _ a4 (X1, Y1, (h1 + 2) % 4) := ⟨v5 _ _ (upd_same.trans (mod4 X1 Y1 h1 2)), by show (h1 + 2) % 4 ≤ 3; omega⟩
          have env := env.same (v1.trans (v2.trans (v3.trans (v4.trans v5))))
          refine ⟨_, rfl, ?_⟩
          refine ⟨_, rfl, _, rfl, _, rfl, by show 3 ≤ sizeLine; decide, fun a5 w5 => ?_⟩
          have v6 := same_new (o := .tup [.int Y1, .int X1, .int (h1 : Int)]) w5
          refine ⟨_, rfl, _, _, rfl, rfl, _, rfl, _, rfl, by show 3 ≤ sizeLine; decide, fun a6 w6 => ?_⟩
          have v7 := same_new (o := .tup [.int (0 - X1), .int Y1, .int (h1 : Int)]) w6
          refine ⟨_, rfl, _, rfl, _, _, rfl, rfl, _, rfl, by show 3 ≤ sizeLine; decide, fun a7 w7 => ⟨by show 3 ≤ sizeLine; decide, fun b2 y2' => ?_⟩⟩
          have v8 := same_new (o := .tup [.int X1, .int (0 - Y1), .int (h1 : Int)]) w7
          have v9 := same_new (o := .lst [.ref a5, .ref a6, .ref a7]) y2'
          refine ⟨_, _, _, _, rfl, rfl, (v6.trans (v7.trans (v8.trans v9))) _ _ upd_same, upd_same, by show 7 ≤ sizeLine; decide, fun lc nlc => ?_⟩
          have v10 := same_new (o := .lst ([V.ref a1, .ref a2, .ref a3, .ref a4] ++ [.ref a5, .ref a6, .ref a7])) nlc
          have v69 := v6.trans (v7.trans (v8.trans (v9.trans v10)))
          have all := AllP.cons (o1.same v69) (AllP.cons (o2.same v69) (AllP.cons (o3.same v69) (AllP.cons (o4.same v69)
            (AllP.cons (q := (Y1, X1, h1)) ⟨(v7.trans (v8.trans (v9.trans v10))) _ _ upd_same, hh1⟩ (AllP.cons (q := (0 - X1, Y1, h1)) ⟨(v8.trans (v9.trans v10)) _ _ upd_same, hh1⟩ (AllP.cons (q := (X1, 0 - Y1, h1)) ⟨(v9.trans v10) _ _ upd_same, hh1⟩ AllP.nil))))))
          have env := env.same v69
          refine ⟨lc, rfl, ⟨_, lstL upd_same⟩, ?_⟩
          refine for_list (xs := [V.ref a1, .ref a2, .ref a3, .ref a4, .ref a5, .ref a6, .ref a7]) (fun i σ H' => ∃ u15 u16 u17, EnvL M H0 t m1 m2 fF g p du (h1, X1, Y1) (h2, x2, y2) (X1, Y1, h1) (x2, y2, h2) (x, y, h) (act (h1, X1, Y1) (x, y, h)) c4 H' ∧
              H' lc = some (.lst [V.ref a1, .ref a2, .ref a3, .ref a4, .ref a5, .ref a6, .ref a7]) ∧ AllP H' [V.ref a1, .ref a2, .ref a3, .ref a4, .ref a5, .ref a6, .ref a7] ∧
              σ = [some (.ref a), some (.int (0 + k)), some (.ref t), some (.int (0 + j)), some (.ref fF), some (.ref g), some (.ref m1), some (.ref m2), some (.ref p), some (.ref du), some (.bl al), some (.int X1), some (.int Y1), some (.int h1), some (.ref b1), u15, u16, u17, z18])
            ⟨z15, z16, z17, env, upd_same, all, rfl⟩ (fun i σ H' hi hp => lstL hp.choose_spec.choose_spec.choose_spec.2.1) (fun i xv σ H' hx hp => ?_) (fun σ H' hp => ?_)
          · obtain ⟨u15, u16, u17, env, elc, all, rfl⟩ := hp
            obtain ⟨b, ⟨u, v, w⟩, rfl, ob⟩ := all xv (List.mem_of_getElem? hx)
            have hw : w ≤ 3 := ob.2
            refine ⟨b, _, rfl, tupT ob.1, rfl, _, _, rfl, _, _, rfl, _, _, rfl, rfl, ?_⟩
            dsimp only [List.set_cons_zero, List.set_cons_succ]
            refine ⟨_, rfl, _, rfl, _, rfl, _, rfl, fun m3 d3 n3 nd3 _ => M.made (t := w) hw n3 nd3 fun H21 s21 mo3 => ⟨rfl, ?_⟩⟩
            have env := env.same s21
            obtain ⟨d, fs, e1⟩ := M.ins env.a
            obtain ⟨d', fs', e2⟩ := M.ins mo3
            refine ⟨m1, d, fs, _, rfl, e1, .inl ⟨m3, d', fs', rfl, e2, rfl⟩, T.nf_self, m1, _, _, rfl, env.a, .inl ⟨m3, _, rfl, mo3, ?_⟩⟩
            refine ⟨_, rfl, _, rfl, _, rfl, by show 3 ≤ sizeLine; decide, fun tq ntq => ?_⟩
            have s22 := same_new (o := .tup [.int u, .int v, .int (w : Int)]) ntq
            have env := env.same s22
            have oq : poseO (upd H21 tq (.tup [.int u, .int v, .int (w : Int)])) tq (u, v, w) := ⟨upd_same, hw⟩
            refine ⟨_, rfl, _, _, oq.dp, env.f.dp, rfl, rfl, ?_⟩
            have heq : PyData.eqv (poseD (u, v, w)) (poseD (X1, Y1, h1)) = decide (((h1, X1, Y1) : M3) = (w, u, v)) := by
              rw [poseD_eqv]
              refine decide_eq_decide.mpr ?_
              simp only [Prod.mk.injEq]
              omega
            rw [heq]
            refine ⟨rfl, false, by rw [show ∀ v : V, decide (v = v) = true from fun v => decide_eq_true rfl]; rfl, iteF ?_⟩
            exact ⟨_, _, _, env, s22 _ _ (s21 _ _ elc), (all.same s21).same s22, rfl⟩
          · obtain ⟨u15, u16, u17, env, _, _, rfl⟩ := hp
            -- there and back
            obtain ⟨d, fs, e1⟩ := M.ins env.a
            refine ⟨_, rfl, _, rfl, m1, d, fs, rfl, e1, m1, _, rfl, env.a, fun r1 H21 s21 mr1 => ?_⟩
            have env := env.same s21
            obtain ⟨d, fs, e1⟩ := M.ins env.a
            obtain ⟨d', fs', e2⟩ := M.ins mr1
            refine ⟨m1, d, fs, rfl, e1, .inl ⟨r1, d', fs', rfl, e2⟩, m1, r1, _, _, rfl, env.a, mr1, fun r2 H22 s22 mr2 => ?_⟩
            rw [cmp_inv _ hh1] at mr2
            have env := env.same s22
            refine fun r3 d3 n3 nd3 _ => M.made (t := 0) (by decide) n3 nd3 fun H23 s23 mr3 => ⟨rfl, ?_⟩
            have env := env.same s23
            have mr2 := M.same mr2 s23
            obtain ⟨d, fs, e1⟩ := M.ins mr2
            obtain ⟨d', fs', e2⟩ := M.ins mr3
            refine ⟨r2, d, fs, _, rfl, e1, .inl ⟨r3, d', fs', rfl, e2, rfl⟩, T.nf_self, r2, _, _, rfl, mr2, .inl ⟨r3, _, rfl, mr3, true, rfl, false, rfl, iteF ?_⟩⟩
            obtain ⟨d, fs, e1⟩ := M.ins env.a
            refine ⟨_, rfl, m1, d, fs, rfl, e1, m1, _, rfl, env.a, fun r1 H21 s21 mr1 => ?_⟩
            have env := env.same s21
            obtain ⟨d, fs, e1⟩ := M.ins env.a
            obtain ⟨d', fs', e2⟩ := M.ins mr1
            refine ⟨_, rfl, r1, d', fs', rfl, e2, .inl ⟨m1, d, fs, rfl, e1⟩, r1, m1, _, _, rfl, mr1, env.a, fun r2 H22 s22 mr2 => ?_⟩
            rw [inv_cmp _ hh1] at mr2
            have env := env.same s22
            refine fun r3 d3 n3 nd3 _ => M.made (t := 0) (by decide) n3 nd3 fun H23 s23 mr3 => ⟨rfl, ?_⟩
            have env := env.same s23
            have mr2 := M.same mr2 s23
            obtain ⟨d, fs, e1⟩ := M.ins mr2
            obtain ⟨d', fs', e2⟩ := M.ins mr3
            refine ⟨r2, d, fs, _, rfl, e1, .inl ⟨r3, d', fs', rfl, e2, rfl⟩, T.nf_self, r2, _, _, rfl, mr2, .inl ⟨r3, _, rfl, mr3, true, rfl, false, rfl, iteF ?_⟩⟩
            -- no other value
            dsimp only [List.set_cons_zero, List.set_cons_succ]
            obtain ⟨d, fs, e1⟩ := M.ins env.a
            refine ⟨_, rfl, _, rfl, m1, d, fs, rfl, e1, m1, _, rfl, env.a, fun sr H24 s24 tsr => ?_⟩
            have env := env.same s24
            obtain ⟨d, fs, e1⟩ := M.ins env.a
            refine ⟨_, rfl, m1, d, fs, rfl, e1, m1, _, rfl, env.a, _, rfl, by show 1 ≤ sizeLine; decide, fun l1 w1 => ⟨by show 7 ≤ sizeLine; decide, fun L wL => ?_⟩⟩
            have s25 := same_new (o := .lst [.ref m1]) w1
            have s26 := same_new (o := .lst [.non, .ref fF, .ref sr, .int 0, .str "", .int (h1 : Int), .ref l1]) wL
            refine ⟨L, rfl, ⟨_, lstL upd_same⟩, fun Dd wD => ?_⟩
            have s27 := same_new (o := .lst []) wD
            have env := ((env.same s25).same s26).same s27
            refine lc_list (K := K) (a := L) (xs := [.non, .ref fF, .ref sr, .int 0, .str "", .int (h1 : Int), .ref l1]) (fun i H' => EnvL M H0 t m1 m2 fF g p du (h1, X1, Y1) (h2, x2, y2) (X1, Y1, h1) (x2, y2, h2) (x, y, h) (act (h1, X1, Y1) (x, y, h)) c4 H' ∧
                H' L = some (.lst [.non, .ref fF, .ref sr, .int 0, .str "", .int (h1 : Int), .ref l1]) ∧ H' Dd = some (.lst []) ∧ tupO H' sr X1 Y1 ∧ H' l1 = some (.lst [.ref m1]))
              ⟨env, s27 _ _ upd_same, upd_same, s27 _ _ (s26 _ _ (s25 _ _ tsr)), s27 _ _ (s26 _ _ upd_same)⟩ (fun i H' hi hp => lstL hp.2.1) (fun i xv H' hx hp => ?_) fun H' hp => ?_
            · obtain ⟨env, eL, eD, esr, el1⟩ := hp
              obtain ⟨d, fs, e1⟩ := M.ins env.a
              have hT : ∃ T, TyY K H' xv (.type T) ∧ T ∈ (["NoneType", "int", "str", "list", "tuple"] : List String) ∧ PySem.W.notFirst K (He.ga K "Motion") (.type T) = true := by
                have hm := List.mem_of_getElem? hx
                simp only [List.mem_cons, List.not_mem_nil, or_false] at hm
                rcases hm with rfl | rfl | rfl | rfl | rfl | rfl | rfl
                · exact ⟨"NoneType", .base (.base .non), by decide, T.nf_none⟩
                · exact ⟨"tuple", .base (.base (.tup env.f.1)), by decide, T.nf_tuple⟩
                · exact ⟨"tuple", .base (.base (.tup esr)), by decide, T.nf_tuple⟩
                · exact ⟨"int", .base (.base (.int _)), by decide, T.nf_int⟩
                · exact ⟨"str", .base (.base (.str _)), by decide, T.nf_str⟩
                · exact ⟨"int", .base (.base (.int _)), by decide, T.nf_int⟩
                · exact ⟨"list", .base (.base (.lst el1)), by decide, T.nf_list⟩
              obtain ⟨Ty, ty, tm, tn⟩ := hT
              refine ⟨rfl, _, rfl, _, rfl, m1, d, fs, .type Ty, rfl, e1, .inr ty, tn, m1, _, xv, rfl, env.a, .inr ⟨Ty, ty, tm, false, rfl, ?_⟩⟩
              exact iteF ⟨env, eL, eD, esr, el1⟩
            · obtain ⟨env, eL, eD, esr, el1⟩ := hp
              refine ⟨by show 0 ≤ sizeLine; decide, fun e0 w0 => ?_⟩
              have s28 := same_new (o := .lst []) w0
              refine ⟨_, _, .lst (lstL (s28 _ _ eD)) .nil, .lst (lstL upd_same) .nil, rfl, rfl, false, rfl, iteF ?_⟩
              have env := env.same s28
              exact ⟨c4, _, _, _, _, _, _, _, _, _, _, _, _, _, _, _, _, env.s0, env.tk, by omega, rfl⟩
      · obtain ⟨c, z3, z4, z5, z6, z7, z8, z9, z10, z11, z12, z13, z14, z15, z16, z17, z18, s0, tk, hcj, rfl⟩ := hp
        exact ⟨_, _, _, _, _, _, _, _, _, _, _, _, _, _, _, _, _, _, Same.sql s0 hS0, rfl⟩
    · obtain ⟨z1, z2, z3, z4, z5, z6, z7, z8, z9, z10, z11, z12, z13, z14, z15, z16, z17, z18, hS0, rfl⟩ := hp
      refine fun m3 d3 n3 nd3 _ => M.made (t := 1) (by decide) n3 nd3 fun H21 s21 mo3 => ⟨rfl, by show 3 ≤ sizeLine; decide, fun tq ntq => ⟨m3, _, tq, (0, 0, 3), rfl, M.same mo3 (same_new ntq), ⟨upd_same, by decide⟩, fun r H22 s22 pr => ?_⟩⟩
      refine ⟨_, rfl, by show 3 ≤ sizeLine; decide, fun tr ntr => ?_⟩
      have ol : poseO (upd H22 tr (.tup [.int 0, .int (-1), .int 0])) tr (0, -1, 0) := ⟨upd_same, by decide⟩
      refine ⟨_, _, (pr.same (same_new ntr)).dp, ol.dp, rfl, rfl, true, by rw [poseD_eqv]; rfl, iteT ?_⟩
      refine fun m4 d4 n4 nd4 _ => M.made (t := 2) (by decide) n4 nd4 fun H23 s23 mo4 => ⟨rfl, ?_⟩
      obtain ⟨d, fs, e1⟩ := M.ins mo4
      exact ⟨m4, d, fs, rfl, e1, M.noa mo4 e1, m4, _, rfl, mo4, fun H24 s24 => ⟨rfl, q _⟩⟩
end
end K13

set_option Elab.async false
set_option linter.all false
set_option maxRecDepth 100000
set_option maxHeartbeats 4000000
namespace K13
open PySem PySem.Spec PyProof.Rows L2 RT M13
section
variable {P : Program} {w : World} {K : PySem.W.Frag} {mg : Str → Option Value} {base : Heap}
theorem kit_ii {K : PySem.W.Frag} : PySem.W.kitOne K (.type "int") (.type "int") = some true := kit_ty (by decide +kernel)
theorem kit_ib {K : PySem.W.Frag} : PySem.W.kitOne K (.type "int") (.type "bool") = some false := kit_ty (by decide +kernel)
theorem kit_tt {K : PySem.W.Frag} : PySem.W.kitOne K (.type "tuple") (.type "tuple") = some true := kit_ty (by decide +kernel)
def spIsInt : Sp := fun vs H Q _ => ∃ v : Int, vs = [.int v] ∧ Q (.bl true) H
theorem ok_isint (D : Ds K) (T : Tx K mg) : FnOk P w K mg base CX0 1 (dis_integer.adr K) D.fd_is_integer ["value"] spIsInt := by
  refine D.F_is_integer.ok scis_integer (fun vs H Q E h => ?_) (fun cdv A outer s H vs Q E hr h => ?_)
  · obtain ⟨v, rfl, _⟩ := h
    rfl
  · obtain ⟨v, rfl, q⟩ := h
    refine ⟨_, PSs.nox (pss_one (ps_ret (pe_and (pe_callB call_isiY (by rfl) T.z_isinstance (by decide +kernel) (pa_cons (pv 0) (pa_cons (pe_bltn (v := .ty "int") (by rfl) T.z_int (by decide +kernel) rfl) pa_nil)))
      (pe_one (pe_not (pe_callB call_isiY (by rfl) T.z_isinstance (by decide +kernel) (pa_cons (pv 0) (pa_cons (pe_bltn (v := .ty "bool") (by rfl) T.z_bool (by decide +kernel) rfl) pa_nil)))))))), ?_⟩
    refine ⟨_, rfl, _, .ty "int", _, _, true, rfl, .ty "int", .base (.base (.int v)), kit_ii, true, rfl, iteT ?_⟩
    exact ⟨_, rfl, _, .ty "bool", _, _, false, rfl, .ty "bool", .base (.base (.int v)), kit_ib, false, rfl, q⟩
def spWithin : Sp := fun vs H Q _ => ∃ v l m : Int, vs = [.int v, .int l, .int m] ∧ Q (.bl (decide (l ≤ v) && decide (v ≤ m))) H
theorem ok_within (D : Ds K) (T : Tx K mg) : FnOk P w K mg base CX0 2 (dis_integer_within.adr K) D.fd_is_integer_within ["value", "least", "most"] spWithin := by
  have G1 : FnOk P w K mg base CX0 1 _ _ _ spIsInt := ok_isint D T
  refine D.F_is_integer_within.ok scis_integer_within (fun vs H Q E h => ?_) (fun cdv A outer s H vs Q E hr h => ?_)
  · obtain ⟨v, l, m, rfl, _⟩ := h
    rfl
  · obtain ⟨v, l, m, rfl, q⟩ := h
    refine ⟨_, PSs.nox (pss_one (ps_ret (pe_and (pe_call G1 hr (by rfl) T.g_is_integer D.F_is_integer.kp (b_is_integer D) .nil pass0 (pa_cons (pv 0) pa_nil))
      (pe_one (pe_chain op_le op_le (pv 1) (pv 0) (pv 2)))))), ?_⟩
    refine ⟨_, rfl, v, rfl, true, rfl, iteT ?_⟩
    refine ⟨_, rfl, _, rfl, l, v, rfl, rfl, _, rfl, ?_⟩
    by_cases h1 : l ≤ v
    · rw [decide_eq_true h1] at q ⊢
      exact iteT ⟨_, rfl, v, m, rfl, rfl, q⟩
    · rw [decide_eq_false h1] at q ⊢
      exact iteF q
def spTupOf : Sp := fun vs H Q _ => ∃ (a : Addr) (xs : List V) (n : Int), vs = [.ref a, .int n] ∧ H a = some (.tup xs) ∧ Q (.bl (decide (V.int (xs.length : Int) = V.int n))) H
theorem ok_tupof (D : Ds K) (T : Tx K mg) : FnOk P w K mg base CX0 1 (dis_tuple_of.adr K) D.fd_is_tuple_of ["value", "many"] spTupOf := by
  refine D.F_is_tuple_of.ok scis_tuple_of (fun vs H Q E h => ?_) (fun cdv A outer s H vs Q E hr h => ?_)
  · obtain ⟨a, xs, n, rfl, _⟩ := h
    rfl
  · obtain ⟨a, xs, n, rfl, ea, q⟩ := h
    refine ⟨_, PSs.nox (pss_one (ps_ret (pe_and (pe_callB call_isiY (by rfl) T.z_isinstance (by decide +kernel) (pa_cons (pv 0) (pa_cons (pe_bltn (v := .ty "tuple") (by rfl) T.z_tuple (by decide +kernel) rfl) pa_nil)))
      (pe_one (pe_cmpR op_eq (pe_callB call_len_seq (by rfl) T.z_len PySem.boot_len (pa_cons (pv 0) pa_nil)) (pv 1) (nomark _)))))), ?_⟩
    refine ⟨_, rfl, _, .ty "tuple", _, _, true, rfl, .ty "tuple", .base (.base (.tup ea)), kit_tt, true, rfl, iteT ?_⟩
    exact ⟨_, rfl, a, _, rfl, .inr (tupT ea), _, rfl, rfl, q⟩
def spPoint : Sp := fun vs H Q _ => ∃ (a : Addr) (x y : Int), vs = [.ref a] ∧ H a = some (.tup [.int x, .int y]) ∧ Q (.bl true) H
theorem ok_point (D : Ds K) (T : Tx K mg) : FnOk P w K mg base CX0 2 (dis_point.adr K) D.fd_is_point ["value"] spPoint := by
  have G1 : FnOk P w K mg base CX0 1 _ _ _ spIsInt := ok_isint D T
  have G2 : FnOk P w K mg base CX0 1 _ _ _ spTupOf := ok_tupof D T
  refine D.F_is_point.ok scis_point (fun vs H Q E h => ?_) (fun cdv A outer s H vs Q E hr h => ?_)
  · obtain ⟨a, x, y, rfl, _⟩ := h
    rfl
  · obtain ⟨a, x, y, rfl, ea, q⟩ := h
    refine ⟨_, PSs.nox (pss_one (ps_ret (pe_and (pe_call G2 hr (by rfl) T.g_is_tuple_of D.F_is_tuple_of.kp (b_is_tuple_of D) .nil pass0 (pa_cons (pv 0) (pa_cons pe_int pa_nil)))
      (pe_and (pe_call G1 hr (by rfl) T.g_is_integer D.F_is_integer.kp (b_is_integer D) .nil pass0 (pa_cons (pe_ix ix_tup (pv 0) pe_int (fun _ _ => rfl)) pa_nil))
      (pe_one (pe_call G1 hr (by rfl) T.g_is_integer D.F_is_integer.kp (b_is_integer D) .nil pass0 (pa_cons (pe_ix ix_tup (pv 0) pe_int (fun _ _ => rfl)) pa_nil))))))), ?_⟩
    refine ⟨_, rfl, a, _, _, rfl, ea, true, by rfl, iteT ?_⟩
    refine ⟨_, rfl, a, _, _, _, rfl, rfl, tupT ea, rfl, x, rfl, true, rfl, iteT ?_⟩
    exact ⟨_, rfl, a, _, _, _, rfl, rfl, tupT ea, rfl, y, rfl, q⟩
def spTurn (K : PySem.W.Frag) : Sp := fun vs H Q _ => ∃ (p : Addr) (n : Nat) (x y : Int), vs = [.ref p, .int n] ∧ n ≤ 3 ∧ SqT K H p [.int x, .int y] ∧
  ∀ r H', Same H H' → H r = none → H' r = some (.tup [.int (rot n (x, y)).1, .int (rot n (x, y)).2]) → Q (.ref r) H'
theorem ok_turned (D : Ds K) (T : Tx K mg) : FnOk P w K mg base CX0 1 (dturned_point.adr K) D.fd_turned_point ["point", "quarters"] (spTurn K) := by
  refine D.F_turned_point.ok scturned_point (fun vs H Q E h => ?_) (fun cdv A outer s H vs Q E hr h => ?_)
  · obtain ⟨p, n, x, y, rfl, _⟩ := h
    rfl
  · obtain ⟨p, n, x, y, rfl, hn, hp, q⟩ := h
    have nd := scturned_point.nd
    refine ⟨_, PSs.nox (pss_cons (ps_asg (pv 0) (pg_tup (by rfl) (pgs_cons (pg_name (i := 2) nd rfl (.inl rfl)) (pgs_cons (pg_name (i := 3) nd rfl (.inl rfl)) pgs_nil))))
      (pss_cons (ps_for PassesOwn.never rfl (pi_range1 (by rfl) T.z_range (pa_cons (pv 1) pa_nil)) (pg_name (i := 4) nd rfl (.inl rfl))
          (pss_one (ps_par (i := 2) (j := 3) (by rfl) nd rfl rfl (by decide) rfl rfl (pa_cons (pe_un un_neg (pv 3)) (pa_cons (pv 2) pa_nil)) (by rfl))))
      (pss_one (ps_ret (pe_tup (pa_cons (pv 2) (pa_cons (pv 3) pa_nil))))))), ?_⟩
    refine ⟨_, rfl, p, _, rfl, hp, rfl, _, _, rfl, _, _, rfl, rfl, ?_⟩
    refine ⟨_, rfl, (n : Int), rfl, by omega, by omega, ?_⟩
    refine for_range (lo := 0) (n := (n : Int).toNat) (fun i σ H' => ∃ z, σ = [some (.ref p), some (.int n), some (.int (rot i (x, y)).1), some (.int (rot i (x, y)).2), z] ∧ H' = H) ⟨none, rfl, rfl⟩ (fun i σ' H' hi hp => ?_) fun σ' H' hp => ?_
    · obtain ⟨z, rfl, rfl⟩ := hp
      refine ⟨_, rfl, _, rfl, _, rfl, _, _, rfl, _, rfl, rfl⟩
    · obtain ⟨z, rfl, rfl⟩ := hp
      refine ⟨_, rfl, _, rfl, by show 2 ≤ sizeLine; decide, fun r hr => ?_⟩
      rw [show ((n : Int).toNat) = n from by omega] at *
      exact q r _ (same_new hr) hr upd_same
end
end K13

set_option Elab.async false
set_option linter.all false
set_option maxRecDepth 100000
set_option maxHeartbeats 4000000
namespace K13
open PySem PySem.Spec PyProof.Rows L2 RT M13
/-- a Motion at a -/
def IsM (K : PySem.W.Frag) (H : Hp) (a : Addr) (t : Nat) (dx dy : Int) : Prop := t ≤ 3 ∧ ∃ d s, H a = some (.ins (He.ga K "Motion") d [("_turn", .int t), ("_shift", .ref s)]) ∧ H s = some (.tup [.int dx, .int dy])
theorem IsM.same {K : PySem.W.Frag} {H H' : Hp} {a : Addr} {t : Nat} {dx dy : Int} (h : IsM K H a t dx dy) (e : Same H H') : IsM K H' a t dx dy := by
  obtain ⟨ht, d, s, h1, h2⟩ := h
  exact ⟨ht, d, s, e _ _ h1, e _ _ h2⟩
theorem big2 : 2 ≤ sizeLine := by decide
section
variable {P : Program} {w : World} {K : PySem.W.Frag} {mg : Str → Option Value} {base : Heap}
def spInit (K : PySem.W.Frag) : Sp := fun vs H Q _ => ∃ (a d : Addr) (t : Nat) (dx dy : Int), vs = [.ref a, .int t, .int dx, .int dy] ∧ t ≤ 3 ∧ H a = some (.ins (He.ga K "Motion") d []) ∧
  ∀ H', (∀ b o, b ≠ a → H b = some o → H' b = some o) → IsM K H' a t dx dy → Q .non H'
theorem ok_init (D : Ds K) (T : Tx K mg) : FnOk P w K mg base CX0 3 (dMotion_init.adr K) D.fd_Motion_init ["self", "turn", "dx", "dy"] (spInit K) := by
  have G1 : FnOk P w K mg base CX0 2 _ _ _ spWithin := ok_within D T
  have G2 : FnOk P w K mg base CX0 2 _ _ _ spPoint := ok_point D T
  refine D.F_Motion_init.ok scMotion_init (fun vs H Q E h => ?_) (fun cdv A outer s H vs Q E hr h => ?_)
  · obtain ⟨a, d, t, dx, dy, rfl, _⟩ := h
    rfl
  · obtain ⟨a, d, t, dx, dy, rfl, ht, ea, q⟩ := h
    refine ⟨_, PSs.nox (pss_cons (ps_if (PW.pt (pw_or (pt_not (pt_val (pe_call G1 hr (by rfl) T.g_is_integer_within D.F_is_integer_within.kp (b_is_integer_within D) .nil pass0 (pa_cons (pv 1) (pa_cons pe_int (pa_cons pe_int pa_nil))))))
        (pw_or1 (pt_not (pt_val (pe_call G2 hr (by rfl) T.g_is_point D.F_is_point.kp (b_is_point D) .nil pass0 (pa_cons (pe_tup (pa_cons (pv 2) (pa_cons (pv 3) pa_nil))) pa_nil)))))))
        (pss_one ps_never) pss_nil)
      (pss_cons (ps_fld (pv 0) (pv 1) rfl) (pss_one (ps_fld (pv 0) (pe_tup (pa_cons (pv 2) (pa_cons (pv 3) pa_nil))) rfl)))), ?_⟩
    refine ⟨_, rfl, t, 0, 3, rfl, _, rfl, ?_⟩
    rw [show (decide ((0 : Int) ≤ t) && decide ((t : Int) ≤ 3)) = true by rw [decide_eq_true (by omega), decide_eq_true (by omega)]; rfl]
    refine iteF ⟨_, rfl, _, rfl, big2, fun p0 hp0 => ⟨p0, dx, dy, rfl, upd_same, _, rfl, iteF ?_⟩⟩
    have ea0 : upd H p0 (.tup [.int dx, .int dy]) a = some (.ins (He.ga K "Motion") d []) := same_new hp0 _ _ ea
    refine ⟨_, rfl, _, rfl, a, _, d, _, rfl, ea0, T.c_Motion, T.n_Motion__turn, by show 0 < 1000; decide, ?_⟩
    refine ⟨_, rfl, _, rfl, big2, fun p hp => ?_⟩
    have nap : a ≠ p := ne_of_none upd_same hp
    refine ⟨_, rfl, a, _, d, _, rfl, (upd_ne nap).trans upd_same, T.c_Motion, T.n_Motion__shift, by show 1 < 1000; decide, ?_⟩
    have hpH : upd H p0 (.tup [.int dx, .int dy]) p = none := by
      rw [upd_ne (Ne.symm nap)] at hp
      exact hp
    refine q _ (fun b o hb e => ?_) ⟨ht, d, p, upd_same, ?_⟩
    · have e0 : upd H p0 (.tup [.int dx, .int dy]) b = some o := same_new hp0 _ _ e
      rw [upd_ne hb, upd_ne (ne_of_none e0 hpH), upd_ne hb]
      exact e0
    · rw [upd_ne (Ne.symm nap), upd_same]
/-- Motion(..) -/
theorem make_m {K : PySem.W.Frag} {H : Hp} {t : Nat} {dx dy : Int} {Q : VK} {E : XK} (ht : t ≤ 3) (q : ∀ a H', Same H H' → H a = none → IsM K H' a t dx dy → Q (.ref a) H') :
    ∀ x dx', H x = none → H dx' = none → dx' ≠ x → spInit K (.ref x :: ([.int t, .int dx, .int dy] ++ [])) (upd (upd H dx' (.own x)) x (.ins (He.ga K "Motion") dx' [])) (fun v H2 => v = .non ∧ Q (.ref x) H2) E := fun x d hx hd hne =>
  ⟨x, d, t, dx, dy, rfl, ht, upd_same, fun H' k m => ⟨rfl, q x H' (fun b o e => k b o (ne_of_none e hx) (by rw [upd_ne (ne_of_none e hx), upd_ne (ne_of_none e hd)]; exact e)) hx m⟩⟩
def spCheckM (K : PySem.W.Frag) : Sp := fun vs H Q _ => ∃ (a : Addr) (t : Nat) (dx dy : Int), vs = [.ref a] ∧ IsM K H a t dx dy ∧ Q .non H
theorem ok_checkM (D : Ds K) (T : Tx K mg) : FnOk P w K mg base CX0 1 (dcheck_motion.adr K) D.fd_check_motion ["motion"] (spCheckM K) := by
  refine D.F_check_motion.ok sccheck_motion (fun vs H Q E h => ?_) (fun cdv A outer s H vs Q E hr h => ?_)
  · obtain ⟨a, t, dx, dy, rfl, _⟩ := h
    rfl
  · obtain ⟨a, t, dx, dy, rfl, ⟨_, d, sh, ea, es⟩, q⟩ := h
    refine ⟨_, PSs.nox (pss_one (ps_if (pt_not (pt_val (pe_callB call_isiY (by rfl) T.z_isinstance (by decide +kernel) (pa_cons (pv 0) (pa_cons (pe_glob (v := .ref (He.ga K "Motion")) rfl T.g_Motion rfl) pa_nil))))) (pss_one ps_never) pss_nil)), ?_⟩
    exact ⟨_, rfl, _, .ref (He.ga K "Motion"), _, _, true, rfl, .own _, .base (.base (.ins ea T.c_Motion T.i_Motion.ha T.i_Motion.hn T.i_Motion.ht T.i_Motion.hm)), T.t_Motion, true, rfl, iteF q⟩
def spPose (K : PySem.W.Frag) : Sp := fun vs H Q _ => ∃ (a : Addr) (x y : Int) (h : Nat), vs = [.ref a] ∧ H a = some (.tup [.int x, .int y, .int h]) ∧ h ≤ 3 ∧ ∀ H', Same H H' → Q (.bl true) H'
theorem ok_ispose (D : Ds K) (T : Tx K mg) : FnOk P w K mg base CX0 3 (dis_pose.adr K) D.fd_is_pose ["value"] (spPose K) := by
  have G1 : FnOk P w K mg base CX0 1 _ _ _ spTupOf := ok_tupof D T
  have G2 : FnOk P w K mg base CX0 2 _ _ _ spPoint := ok_point D T
  have G3 : FnOk P w K mg base CX0 2 _ _ _ spWithin := ok_within D T
  refine D.F_is_pose.ok scis_pose (fun vs H Q E h => ?_) (fun cdv A outer s H vs Q E hr h => ?_)
  · obtain ⟨a, x, y, h, rfl, _⟩ := h
    rfl
  · obtain ⟨a, x, y, h, rfl, ea, hh, q⟩ := h
    refine ⟨_, PSs.nox (pss_one (ps_ret (pe_and (pe_call G1 (hr.mono (by decide)) (by rfl) T.g_is_tuple_of D.F_is_tuple_of.kp (b_is_tuple_of D) .nil pass0 (pa_cons (pv 0) (pa_cons pe_int pa_nil)))
      (pe_and (pe_call G2 hr (by rfl) T.g_is_point D.F_is_point.kp (b_is_point D) .nil pass0 (pa_cons (pe_slice sl_tup (pv 0) po_none (po_some pe_int)) pa_nil))
      (pe_one (pe_call G3 hr (by rfl) T.g_is_integer_within D.F_is_integer_within.kp (b_is_integer_within D) .nil pass0 (pa_cons (pe_ix ix_tup (pv 0) pe_int (fun _ _ => rfl)) (pa_cons pe_int (pa_cons pe_int pa_nil))))))))), ?_⟩
    refine ⟨_, rfl, a, _, _, rfl, ea, true, by rfl, iteT ?_⟩
    refine ⟨_, rfl, _, rfl, a, _, rfl, tupT ea, by show ¬(HT.sIx 3 0 none = 0 ∧ HT.sIx 3 3 (some 2) = 3); decide, fun p hp => ?_⟩
    refine ⟨p, x, y, rfl, upd_same, true, rfl, iteT ?_⟩
    refine ⟨_, rfl, a, _, _, _, rfl, rfl, tupT (same_new hp _ _ ea), rfl, h, 0, 3, rfl, ?_⟩
    rw [show (decide ((0 : Int) ≤ h) && decide ((h : Int) ≤ 3)) = true by rw [decide_eq_true (by omega), decide_eq_true (by omega)]; rfl]
    exact q _ (same_new hp)
def spCheckPose (K : PySem.W.Frag) : Sp := fun vs H Q _ => ∃ (a : Addr) (x y : Int) (h : Nat), vs = [.ref a] ∧ H a = some (.tup [.int x, .int y, .int h]) ∧ h ≤ 3 ∧ ∀ H', Same H H' → Q .non H'
theorem ok_checkpose (D : Ds K) (T : Tx K mg) : FnOk P w K mg base CX0 4 (dcheck_pose.adr K) D.fd_check_pose ["pose"] (spCheckPose K) := by
  have G1 : FnOk P w K mg base CX0 3 _ _ _ (spPose K) := ok_ispose D T
  refine D.F_check_pose.ok sccheck_pose (fun vs H Q E h => ?_) (fun cdv A outer s H vs Q E hr h => ?_)
  · obtain ⟨a, x, y, h, rfl, _⟩ := h
    rfl
  · obtain ⟨a, x, y, h, rfl, ea, hh, q⟩ := h
    refine ⟨_, PSs.nox (pss_one (ps_if (pt_not (pt_val (pe_call G1 hr (by rfl) T.g_is_pose D.F_is_pose.kp (b_is_pose D) .nil pass0 (pa_cons (pv 0) pa_nil)))) (pss_one ps_never) pss_nil)), ?_⟩
    exact ⟨_, rfl, a, x, y, h, rfl, ea, hh, fun H' s => ⟨true, rfl, iteF (q H' s)⟩⟩
def spCall (K : PySem.W.Frag) : Sp := fun vs H Q _ => ∃ (m a : Addr) (t : Nat) (dx dy x y : Int) (h : Nat), vs = [.ref m, .ref a] ∧ IsM K H m t dx dy ∧ H a = some (.tup [.int x, .int y, .int h]) ∧ h ≤ 3 ∧
  ∀ r H', Same H H' → H r = none → H' r = some (.tup [.int (x + (rot h (dx, dy)).1), .int (y + (rot h (dx, dy)).2), .int (((h + t) % 4 : Nat) : Int)]) → Q (.ref r) H'
theorem ok_call (D : Ds K) (T : Tx K mg) : FnOk P w K mg base CX0 5 (dMotion_call.adr K) D.fd_Motion_call ["self", "pose"] (spCall K) := by
  have G1 : FnOk P w K mg base CX0 4 _ _ _ (spCheckPose K) := ok_checkpose D T
  have G2 : FnOk P w K mg base CX0 1 _ _ _ (spTurn K) := ok_turned D T
  refine D.F_Motion_call.ok scMotion_call (fun vs H Q E h => ?_) (fun cdv A outer s H vs Q E hr h => ?_)
  · obtain ⟨m, a, t, dx, dy, x, y, h, rfl, _⟩ := h
    rfl
  · obtain ⟨m, a, t, dx, dy, x, y, h, rfl, ⟨ht, d, sh, em, es⟩, ea, hh, q⟩ := h
    have nd := scMotion_call.nd
    refine ⟨_, PSs.nox (pss_cons (ps_expr (pe_call G1 hr (by rfl) T.g_check_pose D.F_check_pose.kp (b_check_pose D) .nil pass0 (pa_cons (pv 1) pa_nil)))
      (pss_cons (ps_asg (pv 1) (pg_tup (by rfl) (pgs_cons (pg_name (i := 2) nd rfl (.inl rfl)) (pgs_cons (pg_name (i := 3) nd rfl (.inl rfl)) (pgs_cons (pg_name (i := 4) nd rfl (.inl rfl)) pgs_nil)))))
      (pss_cons (ps_asg (pe_call G2 (hr.mono (by decide)) (by rfl) T.g_turned_point D.F_turned_point.kp (b_turned_point D) .nil pass0 (pa_cons (pe_fld (pv 0) rfl) (pa_cons (pv 4) pa_nil))) (pg_tup (by rfl) (pgs_cons (pg_name (i := 5) nd rfl (.inl rfl)) (pgs_cons (pg_name (i := 6) nd rfl (.inl rfl)) pgs_nil))))
      (pss_one (ps_ret (pe_tup (pa_cons (pe_op op_add (pv 2) (pv 5)) (pa_cons (pe_op op_add (pv 3) (pv 6)) (pa_cons (pe_op op_mod (pe_op op_add (pv 4) (pe_fld (pv 0) rfl)) pe_int) pa_nil))))))))), ?_⟩
    refine ⟨_, rfl, a, x, y, h, rfl, ea, hh, fun H0 s0 => ?_⟩
    have em := s0 _ _ em
    have es := s0 _ _ es
    have ea := s0 _ _ ea
    refine ⟨_, rfl, a, _, rfl, tupT ea, rfl, _, _, rfl, _, _, rfl, _, _, rfl, rfl, ?_⟩
    refine ⟨_, rfl, m, _, d, _, _, rfl, em, T.c_Motion, T.n_Motion__shift, rfl, _, rfl, sh, h, dx, dy, rfl, hh, tupT es, fun r H1 s1 hr1 er => ?_⟩
    refine ⟨r, _, rfl, tupT er, rfl, _, _, rfl, _, _, rfl, rfl, ?_⟩
    refine ⟨_, rfl, _, rfl, _, _, rfl, rfl, _, rfl, _, rfl, _, _, rfl, rfl, _, rfl, _, rfl, m, _, d, _, _, rfl, s1 _ _ em, T.c_Motion, T.n_Motion__turn, rfl, _, _, rfl, rfl, _, _, rfl, rfl, by show (0 : Int) < 4; decide, by show 3 ≤ sizeLine; decide, fun p hp => ?_⟩
    refine q p _ ((s0.trans s1).trans (same_new hp)) (Same.free (s0.trans s1) hp) ?_
    rw [upd_same]
    show some (HO.tup [_, _, .int (((h : Int) + (t : Int)) % 4)]) = _
    rw [show ((h : Int) + (t : Int)) % 4 = (((h + t) % 4 : Nat) : Int) by omega]
end
end K13

set_option Elab.async false
set_option linter.all false
set_option maxRecDepth 100000
set_option maxHeartbeats 4000000
set_option exponentiation.threshold 600
namespace K13
open PySem PySem.Spec PyProof.Rows L2 RT M13
/-! mathematics of powers -/
theorem inv0 (x y : Int) : inv (0, x, y) = (0, -x, -y) := by simp [inv, rot]
theorem zpow_shift (x y : Int) : ∀ z : Int, zpow (0, x, y) z = (0, x * z, y * z)
  | .ofNat n => by
    show npow (0, x, y) n = _
    rw [npow_shift, Int.mul_comm, Int.mul_comm (n : Int)]
    rfl
  | .negSucc n => by
    show npow (inv (0, x, y)) (n + 1) = _
    rw [inv0, npow_shift]
    have e : (Int.negSucc n) = -((n + 1 : Nat) : Int) := rfl
    rw [e, Int.mul_neg, Int.mul_neg, Int.mul_neg, Int.mul_neg, Int.mul_comm, Int.mul_comm ((n + 1 : Nat) : Int)]
theorem zpow_mod (m : M3) (h : m.1 ≤ 3) (h0 : m.1 ≠ 0) (z : Int) : zpow m z = npow m (z % 4).toNat := by
  cases z with
  | ofNat n =>
    show npow m n = _
    rw [← npow_mod m h h0 n]
    congr 1
  | negSucc n =>
    show npow (inv m) (n + 1) = _
    have hk : ∃ k, k = (Int.negSucc n % 4).toNat := ⟨_, rfl⟩
    obtain ⟨k, hk⟩ := hk
    rw [← hk]
    have e : Int.negSucc n = -((n + 1 : Nat) : Int) := rfl
    have h4 : (n + 1 + k) % 4 = 0 := by omega
    have e1 : npow m (n + 1 + k) = idM := by
      rw [← npow_mod m h h0, h4]
      rfl
    rw [npow_add m h] at e1
    have e2 := npow_back (inv m) (inv_le m) (n + 1)
    have ii : inv (inv m) = m := by
      have a1 : cmp (cmp (inv (inv m)) (inv m)) m = cmp idM m := by rw [inv_cmp _ (inv_le m)]
      rw [cmp_assoc, inv_cmp m h, cmp_id _ (inv_le _), id_cmp m h] at a1
      exact a1
    rw [ii] at e2
    have e3 : cmp (npow (inv m) (n + 1)) (cmp (npow m (n + 1)) (npow m k)) = npow (inv m) (n + 1) := by rw [e1, cmp_id _ (npow_le _ _)]
    rw [← cmp_assoc, e2, id_cmp _ (npow_le _ _)] at e3
    exact e3.symm
section
variable {P : Program} {w : World} {K : PySem.W.Frag} {mg : Str → Option Value} {base : Heap}
theorem make_i {H : Hp} {t : Nat} {tt dx dy : Int} {Q : VK} {E : XK} {x d : Addr} (hx : H x = none) (hd : H d = none) (ht : t ≤ 3) (et : tt = (t : Int)) (q : ∀ H', Same H H' → IsM K H' x t dx dy → Q .non H') :
    spInit K (.ref x :: ([.int tt, .int dx, .int dy] ++ [])) (upd (upd H d (.own x)) x (.ins (He.ga K "Motion") d [])) Q E := by
  subst et
  exact ⟨x, d, t, dx, dy, rfl, ht, upd_same, fun H' k m => q H' (fun b o e => k b o (ne_of_none e hx) (by rw [upd_ne (ne_of_none e hx), upd_ne (ne_of_none e hd)]; exact e)) m⟩
def MoM (K : PySem.W.Frag) : MoT := fun H a m => IsM K H a m.1 m.2.1 m.2.2
theorem ok_add (D : Ds K) (T : Tx K mg) : FnOk P w K mg base CX0 5 (dMotion_add.adr K) D.fd_Motion_add ["self", "other"] (sAdd (MoM K)) := by
  have GC : FnOk P w K mg base CX0 1 _ _ _ (spCheckM K) := ok_checkM D T
  have GT : FnOk P w K mg base CX0 1 _ _ _ (spTurn K) := ok_turned D T
  have GI : FnOk P w K mg base CX0 3 _ _ _ (spInit K) := ok_init D T
  refine D.F_Motion_add.ok scMotion_add (fun vs H Q E h => ?_) (fun cdv A outer s H vs Q E hr h => ?_)
  · obtain ⟨a, b, m, n, rfl, _⟩ := h
    rfl
  · obtain ⟨a, b, ⟨t1, x1, y1⟩, ⟨t2, x2, y2⟩, rfl, ha, hb, q⟩ := h
    have nd := scMotion_add.nd
    refine ⟨_, PSs.nox (pss_cons (ps_expr (pe_call GC (hr.mono (by decide)) (by rfl) T.g_check_motion D.F_check_motion.kp (b_check_motion D) .nil pass0 (pa_cons (pv 1) pa_nil)))
      (pss_cons (ps_asg (pe_fld (pv 0) rfl) (pg_tup (by rfl) (pgs_cons (pg_name (i := 2) nd rfl (.inl rfl)) (pgs_cons (pg_name (i := 3) nd rfl (.inl rfl)) pgs_nil))))
      (pss_cons (ps_asg (pe_call GT (hr.mono (by decide)) (by rfl) T.g_turned_point D.F_turned_point.kp (b_turned_point D) .nil pass0 (pa_cons (pe_fld (pv 1) rfl) (pa_cons (pe_fld (pv 0) rfl) pa_nil))) (pg_tup (by rfl) (pgs_cons (pg_name (i := 4) nd rfl (.inl rfl)) (pgs_cons (pg_name (i := 5) nd rfl (.inl rfl)) pgs_nil))))
      (pss_one (ps_ret (pe_make T.k_Motion GI hr (by rfl) T.g_Motion (b_Motion_init D) .nil pass0 (pa_cons (pe_op op_mod (pe_op op_add (pe_fld (pv 0) rfl) (pe_fld (pv 1) rfl)) pe_int) (pa_cons (pe_op op_add (pv 2) (pv 4)) (pa_cons (pe_op op_add (pv 3) (pv 5)) pa_nil))))))))), ?_⟩
    obtain ⟨l1, d1, s1, e1, f1⟩ := id ha
    obtain ⟨l2, d2, s2, e2, f2⟩ := id hb
    refine ⟨_, rfl, b, t2, x2, y2, rfl, hb, ?_⟩
    refine ⟨_, rfl, a, _, d1, _, _, rfl, e1, T.c_Motion, T.n_Motion__shift, rfl, s1, _, rfl, tupT f1, rfl, _, _, rfl, _, _, rfl, rfl, ?_⟩
    refine ⟨_, rfl, b, _, d2, _, _, rfl, e2, T.c_Motion, T.n_Motion__shift, rfl, _, rfl, a, _, d1, _, _, rfl, e1, T.c_Motion, T.n_Motion__turn, rfl, s2, t1, x2, y2, rfl, l1, tupT f2, fun r H1 sm nr er => ?_⟩
    refine ⟨r, _, rfl, tupT er, rfl, _, _, rfl, _, _, rfl, rfl, ?_⟩
    refine ⟨_, rfl, a, _, d1, _, _, rfl, sm _ _ e1, T.c_Motion, T.n_Motion__turn, rfl, _, rfl, b, _, d2, _, _, rfl, sm _ _ e2, T.c_Motion, T.n_Motion__turn, rfl, _, _, rfl, rfl, _, _, rfl, rfl, by show (0 : Int) < 4; decide, _, rfl, _, rfl, _, _, rfl, rfl, _, rfl, _, rfl, _, _, rfl, rfl, ?_⟩
    exact fun c d3 n3 nd3 _ => make_i (t := (t1 + t2) % 4) n3 nd3 (by omega) (by show ((t1 : Int) + (t2 : Int)) % 4 = _; omega) fun H2 s3 mc => ⟨rfl, q c H2 (sm.trans s3) mc⟩
theorem rot_neg (n : Nat) (x y : Int) : rot n (-x, -y) = (-(rot n (x, y)).1, -(rot n (x, y)).2) := by
  have h := rot_smul n (-1) (x, y)
  simp only [Int.neg_mul, Int.one_mul] at h
  exact h
theorem ok_neg (D : Ds K) (T : Tx K mg) : FnOk P w K mg base CX0 5 (dMotion_neg.adr K) D.fd_Motion_neg ["self"] (sNeg (MoM K)) := by
  have GT : FnOk P w K mg base CX0 1 _ _ _ (spTurn K) := ok_turned D T
  have GI : FnOk P w K mg base CX0 3 _ _ _ (spInit K) := ok_init D T
  refine D.F_Motion_neg.ok scMotion_neg (fun vs H Q E h => ?_) (fun cdv A outer s H vs Q E hr h => ?_)
  · obtain ⟨a, m, rfl, _⟩ := h
    rfl
  · obtain ⟨a, ⟨t1, x1, y1⟩, rfl, ha, q⟩ := h
    have nd := scMotion_neg.nd
    refine ⟨_, PSs.nox (pss_cons (ps_set (i := 1) nd rfl (.inl rfl) (pe_op op_mod (pe_op op_sub pe_int (pe_fld (pv 0) rfl)) pe_int))
      (pss_cons (ps_asg (pe_call GT (hr.mono (by decide)) (by rfl) T.g_turned_point D.F_turned_point.kp (b_turned_point D) .nil pass0 (pa_cons (pe_fld (pv 0) rfl) (pa_cons (pv 1) pa_nil))) (pg_tup (by rfl) (pgs_cons (pg_name (i := 2) nd rfl (.inl rfl)) (pgs_cons (pg_name (i := 3) nd rfl (.inl rfl)) pgs_nil))))
      (pss_one (ps_ret (pe_make T.k_Motion GI hr (by rfl) T.g_Motion (b_Motion_init D) .nil pass0 (pa_cons (pv 1) (pa_cons (pe_un un_neg (pv 2)) (pa_cons (pe_un un_neg (pv 3)) pa_nil)))))))), ?_⟩
    obtain ⟨l1, d1, s1, e1, f1⟩ := id ha
    have l1 : t1 ≤ 3 := l1
    refine ⟨_, rfl, a, _, d1, _, _, rfl, e1, T.c_Motion, T.n_Motion__turn, rfl, _, _, rfl, rfl, _, _, rfl, rfl, by show (0 : Int) < 4; decide, ?_⟩
    have et : ((4 : Int) - (t1 : Int)) % 4 = (((4 - t1) % 4 : Nat) : Int) := by omega
    refine ⟨_, rfl, a, _, d1, _, _, rfl, e1, T.c_Motion, T.n_Motion__shift, rfl, _, rfl, s1, (4 - t1) % 4, x1, y1, ?_, by omega, tupT f1, fun r H1 sm nr er => ?_⟩
    · show [V.ref s1, V.int (((4 : Int) - (t1 : Int)) % 4)] = _
      rw [et]
    refine ⟨r, _, rfl, tupT er, rfl, _, _, rfl, _, _, rfl, rfl, ?_⟩
    refine ⟨_, rfl, _, rfl, _, rfl, _, rfl, _, rfl, ?_⟩
    refine fun c d3 n3 nd3 _ => make_i (t := (4 - t1) % 4) n3 nd3 (by omega) et fun H2 s3 mc => ⟨rfl, q c H2 (sm.trans s3) ?_⟩
    show IsM K H2 c ((4 - t1) % 4) (rot ((4 - t1) % 4) (-x1, -y1)).1 (rot ((4 - t1) % 4) (-x1, -y1)).2
    rw [rot_neg]
    exact mc
theorem ok_mul (D : Ds K) (T : Tx K mg) : FnOk P w K mg base CX0 6 (dMotion_mul.adr K) D.fd_Motion_mul ["self", "other"] (sMul (MoM K)) := by
  have GW : FnOk P w K mg base CX0 2 _ _ _ spWithin := ok_within D T
  have GI : FnOk P w K mg base CX0 3 _ _ _ (spInit K) := ok_init D T
  have GA : FnOk P w K mg base CX0 5 _ _ _ (sAdd (MoM K)) := ok_add D T
  refine D.F_Motion_mul.ok scMotion_mul (fun vs H Q E h => ?_) (fun cdv A outer s H vs Q E hr h => ?_)
  · obtain ⟨a, z, m, rfl, _⟩ := h
    rfl
  · obtain ⟨a, z, ⟨t1, x1, y1⟩, rfl, ha, z1, z2, bx, by_, q⟩ := h
    have nd := scMotion_mul.nd
    obtain ⟨tM, vM⟩ := T.v_MOST_TIMES
    refine ⟨_, PSs.nox (pss_cons (ps_if (pt_not (pt_val (pe_call GW (hr.mono (by decide)) (by rfl) T.g_is_integer_within D.F_is_integer_within.kp (b_is_integer_within D) .nil pass0 (pa_cons (pv 1) (pa_cons (pe_un un_neg (pe_glob (v := .int 1000000000000000000000000000000) rfl vM ⟨_, rfl⟩)) (pa_cons (pe_glob (v := .int 1000000000000000000000000000000) rfl vM ⟨_, rfl⟩) pa_nil)))))) (pss_one ps_never) pss_nil)
      (pss_cons (ps_if (pt_cmpR op_eq (pe_fld (pv 0) rfl) pe_int (nomark _)) (pss_cons (ps_asg (pe_fld (pv 0) rfl) (pg_tup (by rfl) (pgs_cons (pg_name (i := 2) nd rfl (.inl rfl)) (pgs_cons (pg_name (i := 3) nd rfl (.inl rfl)) pgs_nil)))) (pss_one (ps_ret (pe_make T.k_Motion GI (hr.mono (by decide)) (by rfl) T.g_Motion (b_Motion_init D) .nil pass0 (pa_cons pe_int (pa_cons (pe_op op_mulW (pv 2) (pv 1)) (pa_cons (pe_op op_mulW (pv 3) (pv 1)) pa_nil))))))) pss_nil)
      (pss_cons (ps_set (i := 4) nd rfl (.inl rfl) (pe_make T.k_Motion GI (hr.mono (by decide)) (by rfl) T.g_Motion (b_Motion_init D) .nil pass0 (pa_cons pe_int (pa_cons pe_int (pa_cons pe_int pa_nil)))))
      (pss_cons (ps_for PassesOwn.never rfl (pi_range1 (by rfl) T.z_range (pa_cons (pe_op op_mod (pv 1) pe_int) pa_nil)) (pg_name (i := 5) nd rfl (.inl rfl))
          (pss_one (ps_set (i := 4) nd rfl (.inl rfl) (pe_op (op_binO T.f_Motion T.m_Motion_add GA hr (b_Motion_add D) pass0) (pv 4) (pv 0)))))
      (pss_one (ps_ret (pv 4))))))), ?_⟩
    obtain ⟨l1, d1, s1, e1, f1⟩ := id ha
    have l1 : t1 ≤ 3 := l1
    have z1 : (-1000000000000000000000000000000 : Int) ≤ z := z1
    have z2 : z ≤ 1000000000000000000000000000000 := z2
    refine ⟨_, rfl, _, rfl, z, _, _, rfl, true, ?_, iteF ?_⟩
    · rw [show (decide (-1000000000000000000000000000000 ≤ z) && decide (z ≤ 1000000000000000000000000000000)) = true by rw [decide_eq_true z1, decide_eq_true z2]; rfl]
    refine ⟨_, rfl, a, _, d1, _, _, rfl, e1, T.c_Motion, T.n_Motion__turn, rfl, rfl, _, rfl, ite2 (fun e => ?_) (fun e => ?_)⟩
    · have h0 : t1 = 0 := by
        have e2 := of_decide_eq_true e
        injection e2 with e3
        have e3 : (t1 : Int) = 0 := e3
        omega
      subst h0
      have z100 : z.natAbs < 2 ^ 100 := by
        have : (2 : Nat) ^ 100 = 1267650600228229401496703205376 := by decide
        omega
      refine ⟨_, rfl, a, _, d1, _, _, rfl, e1, T.c_Motion, T.n_Motion__shift, rfl, s1, _, rfl, tupT f1, rfl, _, _, rfl, _, _, rfl, rfl, ?_⟩
      refine ⟨_, rfl, _, rfl, _, _, rfl, rfl, wide_mul (a := 400) (b := 100) bx z100 (by decide) (by decide) (by decide), _, rfl, _, rfl, _, _, rfl, rfl, wide_mul (a := 400) (b := 100) by_ z100 (by decide) (by decide) (by decide), ?_⟩
      refine fun c d3 n3 nd3 _ => make_i (t := 0) n3 nd3 (by decide) rfl fun H2 s3 mc => ⟨rfl, q c H2 s3 ?_⟩
      rw [zpow_shift]
      exact mc
    · have h0 : t1 ≠ 0 := by
        intro z0
        exact e (by rw [z0]; rfl)
      refine fun c d3 n3 nd3 _ => make_i (t := 0) n3 nd3 (by decide) rfl fun H2 s3 mc => ⟨rfl, ?_⟩
      refine ⟨_, rfl, _, _, rfl, rfl, by show (0 : Int) < 4; decide, z % 4, rfl, by omega, by omega, ?_⟩
      refine for_range (lo := 0) (n := (z % 4).toNat) (fun i σ H' => ∃ r u, Same H H' ∧ MoM K H' r (npow (t1, x1, y1) i) ∧ σ = [some (.ref a), some (.int z), none, none, some (.ref r), u]) ⟨c, none, s3, mc, rfl⟩ (fun i σ' H' hi hp => ?_) fun σ' H' hp => ?_
      · obtain ⟨r, u, sm, mr, rfl⟩ := hp
        obtain ⟨_, d4, s4, e4, f4⟩ := id mr
        refine ⟨_, rfl, _, rfl, r, d4, _, rfl, e4, .inl ⟨a, d1, _, rfl, sm _ _ e1⟩, r, a, _, _, rfl, mr, IsM.same ha sm, fun r2 H3 s5 mr2 => ?_⟩
        exact ⟨r2, some (.int (0 + (i : Int))), sm.trans s5, mr2, rfl⟩
      · obtain ⟨r, u, sm, mr, rfl⟩ := hp
        refine ⟨_, rfl, q r H' sm ?_⟩
        rw [zpow_mod _ l1 h0]
        exact mr
end
end K13

set_option Elab.async false
set_option linter.all false
set_option maxRecDepth 100000
set_option maxHeartbeats 4000000
namespace K13
open PySem PySem.Spec PyProof.Rows L2 RT M13
section
variable {P : Program} {w : World} {K : PySem.W.Frag} {mg : Str → Option Value} {base : Heap}
theorem ok_eq (D : Ds K) (T : Tx K mg) : FnOk P w K mg base CX0 1 (dMotion_eq.adr K) D.fd_Motion_eq ["self", "other"] (sEq K (MoM K)) := by
  refine D.F_Motion_eq.ok scMotion_eq (fun vs H Q E h => ?_) (fun cdv A outer s H vs Q E hr h => ?_)
  · obtain ⟨a, m, v, rfl, _⟩ := h
    rfl
  · obtain ⟨a, ⟨t1, x1, y1⟩, v, rfl, ha, h⟩ := h
    have nd := scMotion_eq.nd
    obtain ⟨l1, d1, s1, e1, f1⟩ := id ha
    refine ⟨_, PSs.nox (pss_one (ps_ret (pe_and (pe_callB call_isiY (by rfl) T.z_isinstance (by decide +kernel) (pa_cons (pv 1) (pa_cons (pe_glob (v := .ref (He.ga K "Motion")) rfl T.g_Motion rfl) pa_nil)))
      (pe_and (pe_cmpR op_eq (pe_fld (pv 0) rfl) (pe_fld (pv 1) rfl) (nomark _)) (pe_one (pe_cmpR (op_eqD hr.units) (pe_fld (pv 0) rfl) (pe_fld (pv 1) rfl) (nomark _))))))), ?_⟩
    rcases h with ⟨b, ⟨t2, x2, y2⟩, rfl, hb, q⟩ | ⟨Ty, ty, tm, q⟩
    · obtain ⟨l2, d2, s2, e2, f2⟩ := id hb
      refine ⟨_, rfl, _, .ref (He.ga K "Motion"), _, _, true, rfl, .own _, .base (.base (.ins e2 T.c_Motion T.i_Motion.ha T.i_Motion.hn T.i_Motion.ht T.i_Motion.hm)), T.t_Motion, true, rfl, iteT ?_⟩
      refine ⟨_, rfl, a, _, d1, _, _, rfl, e1, T.c_Motion, T.n_Motion__turn, rfl, _, rfl, b, _, d2, _, _, rfl, e2, T.c_Motion, T.n_Motion__turn, rfl, rfl, ?_⟩
      by_cases ht : t1 = t2
      · subst ht
        refine ⟨true, by rw [show ∀ v : V, decide (v = v) = true from fun v => decide_eq_true rfl], iteT ?_⟩
        refine ⟨_, rfl, a, _, d1, _, _, rfl, e1, T.c_Motion, T.n_Motion__shift, rfl, _, rfl, b, _, d2, _, _, rfl, e2, T.c_Motion, T.n_Motion__shift, rfl, .tuple [.int x1, .int y1], .tuple [.int x2, .int y2], .tup (tupT f1) (.cons (.int _) (.cons (.int _) .nil)), .tup (tupT f2) (.cons (.int _) (.cons (.int _) .nil)), rfl, rfl, ?_⟩
        have e : PyData.eqv (.tuple [.int x1, .int y1]) (.tuple [.int x2, .int y2]) = decide (((t1, x1, y1) : M3) = (t1, x2, y2)) := by
          refine (PySem.W.ked_eqvAll [x1, y1] [x2, y2]).trans (decide_eq_decide.mpr ?_)
          simp only [List.cons.injEq, Prod.mk.injEq, and_true, true_and]
        rw [e]
        exact q
      · refine ⟨false, by rw [decide_eq_false]; intro z; injection z with z; exact ht (by have z : (t1 : Int) = (t2 : Int) := z; omega), iteF ?_⟩
        rw [decide_eq_false (show ¬ ((t1, x1, y1) : M3) = (t2, x2, y2) from fun z => ht (by simp only [Prod.mk.injEq] at z; exact z.1))] at q
        exact q
    · have kt : PySem.W.kitOne K (.type Ty) (.ref (He.ga K "Motion")) = some false := by
        simp only [List.mem_cons, List.not_mem_nil, or_false] at tm
        rcases tm with rfl | rfl | rfl | rfl | rfl
        · exact T.kt_none
        · exact T.kt_int
        · exact T.kt_str
        · exact T.kt_list
        · exact T.kt_tuple
      exact ⟨_, rfl, _, .ref (He.ga K "Motion"), _, _, false, rfl, .own _, ty, kt, false, rfl, iteF q⟩
theorem ok_ord (D : Ds K) (T : Tx K mg) : FnOk P w K mg base CX0 1 (dMotion_order.adr K) D.fd_Motion_order ["self"] (sOrd (MoM K)) := by
  refine D.F_Motion_order.ok scMotion_order (fun vs H Q E h => ?_) (fun cdv A outer s H vs Q E hr h => ?_)
  · obtain ⟨a, m, rfl, _⟩ := h
    rfl
  · obtain ⟨a, ⟨t1, x1, y1⟩, rfl, ha, q⟩ := h
    have nd := scMotion_order.nd
    obtain ⟨l1, d1, s1, e1, f1⟩ := id ha
    have l1 : t1 ≤ 3 := l1
    have e1t : (HO.ins (He.ga K "Motion") d1 [("_turn", .int (t1 : Int)), ("_shift", .ref s1)]) = HO.ins (He.ga K "Motion") d1 [("_turn", .int (t1 : Int)), ("_shift", .ref s1)] := rfl
    refine ⟨_, PSs.nox (pss_cons (ps_if (pt_cmpR op_eq (pe_fld (pv 0) rfl) pe_int (nomark _)) (pss_one (ps_ret (pe_ifExp (pt_cmpR (op_eqD hr.units) (pe_fld (pv 0) rfl) (pe_tup (pa_cons pe_int (pa_cons pe_int pa_nil))) (nomark _)) pe_int pe_non))) pss_nil)
      (pss_one (ps_ret (pe_ifExp (pt_cmpR op_eq (pe_fld (pv 0) rfl) pe_int (nomark _)) pe_int pe_int)))), ?_⟩
    refine ⟨_, rfl, a, _, d1, _, _, rfl, e1, T.c_Motion, T.n_Motion__turn, rfl, rfl, _, rfl, ite2 (fun e => ?_) (fun e => ?_)⟩
    · have h0 : t1 = 0 := by
        have e2 := of_decide_eq_true e
        injection e2 with e3
        have e3 : (t1 : Int) = 0 := e3
        omega
      subst h0
      refine ⟨_, rfl, a, _, d1, _, _, rfl, e1, T.c_Motion, T.n_Motion__shift, rfl, by show 2 ≤ sizeLine; decide, fun p np => ?_⟩
      have sp := same_new (o := .tup [.int 0, .int 0]) np
      refine ⟨.tuple [.int x1, .int y1], .tuple [.int 0, .int 0], .tup (tupT (sp _ _ f1)) (.cons (.int _) (.cons (.int _) .nil)), .tup (tupT upd_same) (.cons (.int _) (.cons (.int _) .nil)), rfl, rfl, ?_⟩
      have ee : PyData.eqv (.tuple [.int x1, .int y1]) (.tuple [.int 0, .int 0]) = decide ((x1, y1) = ((0, 0) : Int × Int)) := by
        refine (PySem.W.ked_eqvAll [x1, y1] [0, 0]).trans (decide_eq_decide.mpr ?_)
        simp only [List.cons.injEq, Prod.mk.injEq, and_true, true_and]
      rw [ee]
      have q2 := q _ sp
      by_cases hx : (x1, y1) = ((0, 0) : Int × Int)
      · rw [show ord (0, x1, y1) = some 1 by unfold ord; rw [if_pos rfl, if_pos hx]] at q2
        refine ⟨true, by rw [decide_eq_true hx], iteT q2⟩
      · rw [show ord (0, x1, y1) = none by unfold ord; rw [if_pos rfl, if_neg hx]] at q2
        refine ⟨false, by rw [decide_eq_false hx], iteF q2⟩
    · have h0 : t1 ≠ 0 := by
        intro z0
        exact e (by rw [z0]; rfl)
      refine ⟨_, rfl, a, _, d1, _, _, rfl, e1, T.c_Motion, T.n_Motion__turn, rfl, rfl, _, rfl, ite2 (fun e => ?_) (fun e => ?_)⟩
      · have h2 : t1 = 2 := by
          have e2 := of_decide_eq_true e
          injection e2 with e3
          have e3 : (t1 : Int) = 2 := e3
          omega
        have q2 := q H (fun _ _ e => e)
        rw [show ord (t1, x1, y1) = some 2 by unfold ord; rw [if_neg h0, if_pos h2]] at q2
        exact q2
      · have h2 : t1 ≠ 2 := by
          intro z0
          exact e (by rw [z0]; rfl)
        have q2 := q H (fun _ _ e => e)
        rw [show ord (t1, x1, y1) = some 4 by unfold ord; rw [if_neg h0, if_neg h2]] at q2
        exact q2
theorem ok_turn (D : Ds K) (T : Tx K mg) : FnOk P w K mg base CX0 1 (dMotion_turn.adr K) D.fd_Motion_turn ["self"] (sTurn (MoM K)) := by
  refine D.F_Motion_turn.ok scMotion_turn (fun vs H Q E h => ?_) (fun cdv A outer s H vs Q E hr h => ?_)
  · obtain ⟨a, m, rfl, _⟩ := h
    rfl
  · obtain ⟨a, ⟨t1, x1, y1⟩, rfl, ⟨l1, d1, s1, e1, f1⟩, q⟩ := h
    exact ⟨_, PSs.nox (pss_one (ps_ret (pe_fld (pv 0) rfl))), _, rfl, a, _, d1, _, _, rfl, e1, T.c_Motion, T.n_Motion__turn, rfl, q⟩
theorem ok_shift (D : Ds K) (T : Tx K mg) : FnOk P w K mg base CX0 1 (dMotion_shift.adr K) D.fd_Motion_shift ["self"] (sShift (MoM K)) := by
  refine D.F_Motion_shift.ok scMotion_shift (fun vs H Q E h => ?_) (fun cdv A outer s H vs Q E hr h => ?_)
  · obtain ⟨a, m, rfl, _⟩ := h
    rfl
  · obtain ⟨a, ⟨t1, x1, y1⟩, rfl, ⟨l1, d1, s1, e1, f1⟩, q⟩ := h
    exact ⟨_, PSs.nox (pss_one (ps_ret (pe_fld (pv 0) rfl))), _, rfl, a, _, d1, _, _, rfl, e1, T.c_Motion, T.n_Motion__shift, rfl, q s1 H (fun _ _ e => e) f1⟩
def mots (D : Ds K) (T : Tx K mg) : Mots P w K mg base where
  Mo := MoM K
  same h e := IsM.same h e
  keep := fun {H H' a t m c} h tk k => by
    obtain ⟨l1, d1, s1, e1, f1⟩ := h
    obtain ⟨A, B, et, _⟩ := tk
    refine ⟨l1, d1, s1, k _ _ (fun z => ?_) e1, k _ _ (fun z => ?_) f1⟩
    · rw [z, et] at e1
      cases e1
    · rw [z, et] at f1
      cases f1
  ne := T.ne_Motion
  mro := T.i_Motion.hm
  ins := fun ⟨_, d, s, e, _⟩ => ⟨d, _, e⟩
  le h := h.1
  noa := fun ⟨_, d, s, e, _⟩ e2 => by
    rw [e] at e2
    cases e2
    rfl
  fi := _
  fdi := _
  psi := _
  mkf := T.k_Motion
  Fi := ((ok_init D T).mono (by decide)).imp fun vs H Q E ⟨a, d, t, dx, dy, e, ht, ea, q⟩ => ⟨a, d, t, dx, dy, e, ht, ea, fun H' k m => q H' k m⟩
  bi := b_Motion_init D
  add := ⟨_, _, _, T.m_Motion_add, (ok_add D T).mono (by decide), b_Motion_add D⟩
  mul := ⟨_, _, _, T.m_Motion_mul, (ok_mul D T).mono (by decide), b_Motion_mul D⟩
  neg := ⟨_, _, _, T.m_Motion_neg, (ok_neg D T).mono (by decide), b_Motion_neg D⟩
  eq := ⟨_, _, _, T.m_Motion_eq, (ok_eq D T).mono (by decide), b_Motion_eq D⟩
  call := ⟨_, _, _, T.m_Motion_call, ((ok_call D T).mono (by decide)).imp fun vs H Q E ⟨a, m, p, pq, e, ha, hp, q⟩ =>
    ⟨a, p, m.1, m.2.1, m.2.2, pq.1, pq.2.1, pq.2.2, e, ha, hp.1, hp.2, fun r H' s n er => q r H' s ⟨er, act_le _ _⟩⟩, b_Motion_call D⟩
  cfn := T.fn_Motion_call
  ord := ⟨_, _, _, T.m_Motion_order, (ok_ord D T).mono (by decide), b_Motion_order D⟩
  turn := ⟨_, _, _, _, T.p_Motion_turn, (ok_turn D T).mono (by decide), b_Motion_turn D⟩
  shift := ⟨_, _, _, _, T.p_Motion_shift, (ok_shift D T).mono (by decide), b_Motion_shift D⟩
end
end K13

set_option Elab.async false
set_option linter.all false
set_option maxRecDepth 100000
set_option maxHeartbeats 0
open PySem PySem.W PySem.Calls PyProof.Rows
theorem PySem.Challenge.cw_plotpens_k13_motions_put_together_holds : PySem.Challenge.rw_plotpens_k13_motions_put_together.Holds := by
  w_on; o_law
  refine HandSHeadRun.head_any (r := OpenLaw.row PySem.Challenge.rw_plotpens_k13_motions_put_together) (q := view (OpenLaw.row PySem.Challenge.rw_plotpens_k13_motions_put_together).prog [25]) (H := K13.hk) (ob := K13.ob) (M := 12000) (loose := K13.names) (d := HandSHeadRun.topDef (OpenLaw.row PySem.Challenge.rw_plotpens_k13_motions_put_together).prog 25) (kwd := []) K13.ob_eq
    (by kernel_rfl) (fun s => by kernel_rfl) K13.run (by kernel_rfl) (by kernel_rfl) (by kernel_rfl) (by rfl) (by first | assumption | decide +kernel) (by decide +kernel) ⟨rfl, rfl, rfl, rfl, rfl, by decide +kernel⟩ ?hw ?hc
  case hw => w_witness2
  case hc =>
    refine RT.walk_ofG (l := PySem.Challenge.rw_plotpens_k13_motions_put_together) (n := 63) (k := 12) (x := "script") (CX := fun _ => L2.CX0) rfl (by decide) (by kernel_rfl) ⟨rfl, by decide, by decide⟩ ?F (fun _ _ _ _ _ z => z)
    intro w mg fa h Y G hmg0
    obtain ⟨K, KX, c⟩ := Y
    have hmg : mg ("law" : PySem.Str) = some (.ref fa) := by
      have e : (HandSHeadRun.topDef (OpenLaw.row PySem.Challenge.rw_plotpens_k13_motions_put_together).prog 25).name = ("law" : PySem.Str) := by kernel_rfl
      rw [← e]
      exact hmg0
    have T := K13.tx_of KX G c
    obtain ⟨D⟩ := K13.ds_of c
    have e := hmg.symm.trans T.g_law
    cases e
    have b := L2.FunD.bindsA (ps := ["script"]) D.F_law fun _ _ _ _ _ _ us hl => match us, hl with | [_], _ => rfl
    exact ⟨K, D.fd_law, K13.spLaw K, KX, fun s v => b s [v] rfl, fun H a ns hl _ hS => ⟨a, ns, rfl, hS, fun _ => rfl⟩, fun base _ _ => K13.ok_law D T (K13.mots D T)⟩
