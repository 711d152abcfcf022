import PyProof.Rows.All
import Wide.All
import OpenK.AllK
import Wide.FinOn
import HandS.ForMost
import HandS.Exc
import HandS.ExcCtx
import HandS.TryOnly
import HandS.ExcInit
import HandS.IsInst
import HandS.ExcIs
import HandS.ExcField
import HandS.SortKw
import HandS.FStr
import HandS.Wide
import KE.DataMinMax
import PyProof.StrBlock2
import PyProof.Rows.RuleB_pow
import HandS.SlotsOwn
import HandS.Property
import HandS.OwnEq
import KE.KOpsOwn
import OpenK.KOps
import HandS.WordsExc
import HandS.Defaults
import HandS.EndBits
import KE.KStateDown
import Lean
import HandS.Head0
import HandS.Head1
import HandS.Head2
import HandS.HeadEnd
import HandS.HeadHook1
import HandS.HeadHook2
import KE.KCallOwn
import PyProof.InstEq
import HandS.More
import HandS.HeadHook3
import HandS.Style
import HandS.StrMore
import HandS.Iter
import HandS.Comp
import HandS.TupAny
import HandS.MakeKwOnly
import HandS.Walk
import PySem.Challenge.RW_plotpens_k15_motions_of_endless_programs
set_option Elab.async false
set_option linter.all false
set_option maxRecDepth 100000
set_option maxHeartbeats 4000000
/-! a try whose clause keeps the exception: behind it the exception stands tracked -/
namespace RT
open PySem PySem.Spec PyProof.Rows L2 L2N
/-- an exception that was caught, at a: its class, its own dict -/
def ExT (a : Addr) (cls : Value) (d : Option Addr) : HO := .ext fun h => ∃ (oe : Obj) (vs : Array Value), h.get? a = some oe ∧ oe.cls = cls ∧ oe.dict = d ∧ oe.data = .fields vs
theorem exT_ok {P : Program} {w : World} {H : Hp} {h : Heap} {a : Addr} {cls : Value} {d : Option Addr} {oe : Obj} {vs : Array Value} (e : h.get? a = some oe) (z : oe.cls = cls) (z2 : oe.dict = d) (dd : oe.data = .fields vs) : ObjOk P w H h a (ExT a cls d) :=
  ⟨⟨oe, vs, e, z, z2, dd⟩, ⟨oe, e⟩, fun _ _ ⟨o, v, q, r⟩ k => ⟨o, v, k o q, r⟩⟩
section
variable {X : Cx} {pins : List (Addr × Obj)} {σ : L2.St} {H : Hp} {s : Shared}
theorem Inv.trackX {a : Addr} {o : HO} {oe : Obj} (I : Inv X pins σ H s) (he : s.heap.get? a = some oe) (hn : H a = none) (n0 : X.s_0.heap.get? a = none) (nL : a ≠ X.env.locals)
    (nC : ∀ x c, X.env.cells.lookup x = some c → c ≠ a) (nP : ∀ p ∈ X.pn ++ pins, p.1 ≠ a) (new : ObjOk X.prog X.w (upd H a o) s.heap a o) : Inv X pins σ (upd H a o) s := by
  have ne0 : ∀ b u, X.s_0.heap.get? b = some u → b ≠ a := fun b u e z => by
    rw [z, n0] at e
    cases e
  have neH : ∀ b u, H b = some u → b ≠ a := fun b u e z => by
    rw [z, hn] at e
    cases e
  refine ⟨I.ok, I.os, I.bare, ⟨I.base.keep, I.base.slot, fun b u e n hx => ?_, I.base.there, fun b xs e => ?_, fun b u xs e => ?_, fun b ps e => ?_⟩, I.loc, I.cell, ?_, fun x c e => ?_, fun p hp => ?_, fun b u e => ?_, I.len⟩
  · rw [upd_ne (ne0 b u e)]
    exact I.base.free b u e n hx
  · have q := I.base.tups b xs e
    rw [upd_ne (neH b _ q)]
    exact q
  · have q := I.base.frzs b u xs e
    rw [upd_ne (neH b _ q)]
    exact q
  · obtain ⟨m, q⟩ := I.base.tbls b ps e
    refine ⟨m, ?_⟩
    rw [upd_ne (neH b _ q)]
    exact q
  · rw [upd_ne (Ne.symm nL)]
    exact I.free
  · rw [upd_ne (nC x c e)]
    exact I.freeC x c e
  · obtain ⟨q1, q2, q3, q4, q5⟩ := I.pin p hp
    refine ⟨q1, ?_, q3, q4, q5⟩
    rw [upd_ne (nP p hp)]
    exact q2
  · by_cases hb : b = a
    · subst hb
      rw [upd_same] at e
      cases e
      exact new
    · rw [upd_ne hb] at e
      refine (I.hok b u e).stay (fun c v _ q => q) (fun c q => ?_) fun c xs q => ?_
      · rw [upd_ne (neH c _ q)]
        exact q
      · rw [upd_ne (neH c _ q)]
        exact q
end
/-- as wAs, but behind the suite the exception is tracked -/
def wAsT (K : PySem.W.Frag) (c : Value) (i : Nat) (ts : Addr → Value → Option Addr → TS) (Wout : WX) (D : Ends) : WX := fun cls d σ H =>
  ∃ b, PySem.W.exmOne K cls c = some b ∧ (b = true → ∀ a, H a = none → ts a cls d { nx := fun σ' H' => D.nx (σ'.set i none) (upd H' a (ExT a cls d)), rt := D.rt, bk := fun σ' H' => D.bk (σ'.set i none) H', ct := fun σ' H' => D.ct (σ'.set i none) H' } (σ.set i (some (.ref a))) H) ∧
    (b = false → Wout cls d σ H)
section
variable {X : Cx} {body : List Stmt} {pos pos' np : Pos} {tb : WX → TS} {Wout : WX} {i : Nat} {n x : Str} {c : Value} {b₀ : Stmt} {suite : List Stmt} {ts : Addr → Value → Option Addr → TS}
theorem ps_try_asT (hs : X.stack = X.env :: X.outer) (hf : X.env.frame = some X.env.locals) (hex : X.ex = []) (hN : X.N.Nodup) (hi : X.N[i]? = some n) (hln : X.env.kindOf n = some .local) (hc : Names X x c) (tk : L2N.Takes X Wout)
    (hb : ∀ (W : WX) (pn : List (Addr × Obj)) (xe : Value → Shared → Prop), L2N.Takes (X.tr pn xe) W → PassesOwn (model X.prog X.w) X.A X.env xe → PSs (X.tr pn xe) body (tb W))
    (hsu : ∀ (a : Addr) (oe : Obj) (cls : Value) (d : Option Addr) (pn : List (Addr × Obj)), Zn cls d oe → (∃ vs, oe.data = .fields vs) → PSs (X.suite a ((a, oe) :: pn)) (b₀ :: suite) (ts a cls d)) :
    PS X (.Try body [.ExceptHandler (some (.Name x np)) (some n) (b₀ :: suite) pos'] [] [] pos) (fun D σ H => tb (wAsT X.K c i ts Wout D) D σ H) := by
  refine ⟨fun pins s σ H D I h => ?_⟩
  have okX := I.ok
  have frEq : X.A.frames = some (X.env :: X.outer) := by rw [okX.frames, hs]
  have locN : Loc X.env.scope n := .inl hln
  refine wpAny_Try_except ?_
  refine wpAny_mono ((hb (wAsT X.K c i ts Wout D) (X.pn ++ pins) (fun e s₁ => wpAny (model X.prog X.w) X.A (noteFrame e X.env) (fun _ s₂ => wpAny (model X.prog X.w) X.A (setFlight e none) (fun _ s₃ =>
    wpAny (model X.prog X.w) X.A (handleBy e X.env [.ExceptHandler (some (.Name x np)) (some n) (b₀ :: suite) pos']) (SP X pins D) X.xe s₃) X.xe s₂) X.xe s₁) (fun u s' wish => ?_) PassesOwn.looking).run [] s σ H D (I.toTry _) h) (fun f s1 spq => ?_) (fun e s1 he => he)
  · -- the catch
    obtain ⟨a, B, sI, pins', σ', H', cls, d, rfl, J0, botB, up, airA, frA, osE, agE, b, exB, yesB, noB⟩ := wish
    have J : Inv X pins σ' H' sI := J0.ofTry okX
    have airB : Sky B (X.env :: X.outer) a (Zn cls d) X.env.locals s'.heap := by rw [← hs]; exact airA
    show wpAny (model X.prog X.w) X.A (noteFrame (.ref a) X.env) _ _ _
    refine Sky.land Zn.steady frEq hf airB fun hpA flyA growA => ?_
    have JA : Inv X pins σ' H' { s' with heap := hpA } := J.landed botB flyA.1 (up.trans growA) osE agE
    obtain ⟨oA, fvA, atA, znA, flA⟩ := flyA.there
    have noFrame : ∀ {h : Heap} {o : Obj} {vs : Array Value}, h.FunFrames B (X.env :: X.outer) → h.get? a = some o → o.data = .fields vs → a ∉ frs (X.env :: X.outer) := fun {h o vs} ff e dd hmm => by
      obtain ⟨_, o', e', hnf⟩ := ff.mem hmm
      rw [e] at e'; cases e'
      exact hnf _ dd
    have offFr := noFrame flyA.2.2.1 atA flA
    have nL : a ≠ X.env.locals := fun z => offFr (List.mem_filterMap.mpr ⟨X.env, List.mem_cons_self, by rw [hf, z]⟩)
    have nF : a ∉ X.fs := fun hmm => by
      obtain ⟨e, he, q⟩ := List.mem_filterMap.mp hmm
      exact offFr (List.mem_filterMap.mpr ⟨e, List.mem_cons_of_mem _ he, q⟩)
    have nI : ∀ o, sI.heap.get? a = some o → False := fun o e => by
      have q := botB a o e (by rw [hs]; exact offFr)
      rw [flyA.2.1] at q
      cases q
    have n0 : X.s_0.heap.get? a = none := by
      cases e : X.s_0.heap.get? a with
      | none => rfl
      | some o =>
        obtain ⟨o', e'⟩ := J.base.there a o e (by rw [hex]; exact fun z => nomatch z)
        exact (nI o' e').elim
    have nC : ∀ x c, X.env.cells.lookup x = some c → c ≠ a := fun x c e z => by
      obtain ⟨v, o, ho, _⟩ := J.cell x c e
      rw [z] at ho
      exact nI o ho
    have nP : ∀ p ∈ X.pn ++ pins, p.1 ≠ a := fun p hp z => by
      have q := (J.pin p hp).1
      rw [z] at q
      exact nI _ q
    have SA := JA.suite atA flA frA nL nF
    refine wpAny_handleBy_cons (codeAny_handlers_test ?_) (by intro q; cases q)
    have lookT : PySem.W.Looks (model X.prog X.w) hpA (typeOf (.ref a)) cls := fun A Q E s k q => wpAny_typeOf_ref (k _ _ atA) (by rw [znA.1]; exact q)
    have lookM := PySem.W.exm_one (M := model X.prog X.w) (JA.kIn) lookT exB
    have asks : ∀ {Q : Value → Shared → Prop} {E : Value → Shared → Prop}, Q c { s' with heap := hpA } → wpAny (model X.prog X.w) (X.A.mark (some (.ref a))) (eval (.Name x np) X.env) Q E { s' with heap := hpA } := fun {Q E} q => by
      obtain ⟨hg, hdbg, hmm | ⟨hmm, hv, hnn⟩⟩ := hc
      · exact ld_glob (X := X.suite a ((a, oA) :: (X.pn ++ pins))) SA hg hmm q hdbg
      · exact ld_blt (X := X.suite a ((a, oA) :: (X.pn ++ pins))) SA hg hmm hv q hnn hdbg
    refine asks (lookM.here ?_)
    cases b with
    | true =>
      refine codeAny_handlers_suite_as ?_
      refine HandSPX.lands_againZ flyA fun hpB flyB growB => ?_
      have JB : Inv X pins σ' H' { s' with heap := hpB } := J.landed botB flyB.1 ((up.trans growA).trans growB) osE agE
      obtain ⟨oB, fvB, atB, znB, flB⟩ := flyB.there
      have SB4 := JB.suite atB flB frA nL nF
      refine store_ok (X := X.suite a ((a, oB) :: (X.pn ++ pins))) (v := .ref a) SB4 hN hi locN rfl (fun sS SS => ?_) (.inr hln)
      refine wpAny_mono ((hsu a oB cls d (X.pn ++ pins) znB ⟨_, flB⟩).run [] sS _ H' _ SS (yesB rfl a frA)) (fun f sT spq => ?_) (fun _ _ z => False.elim z)
      have endO : ∀ {σT : L2.St} {HT : Hp} {Q : Shared → Prop}, Inv (X.suite a ((a, oB) :: (X.pn ++ pins))) [] σT HT sT → (∀ sU, Inv X pins (σT.set i none) HT sU → Q sU) →
          wpAny (model X.prog X.w) X.A (do bindName X.env n .none; unbindBehindTheSuite X.env n pos') (fun _ sU => Q sU) X.xe sT := fun {σT HT Q} ST hq => gone_ok (ST.unsuite okX) hN hi hln hq
      have endT : ∀ {σT : L2.St} {HT : Hp} {Q : Shared → Prop}, Inv (X.suite a ((a, oB) :: (X.pn ++ pins))) [] σT HT sT → (∀ sU, Inv X pins (σT.set i none) (upd HT a (ExT a cls d)) sU → Q sU) →
          wpAny (model X.prog X.w) X.A (do bindName X.env n .none; unbindBehindTheSuite X.env n pos') (fun _ sU => Q sU) X.xe sT := fun {σT HT Q} ST hq => by
        obtain ⟨p1, p2, _⟩ := ST.pin (a, oB) (List.mem_append_left _ List.mem_cons_self)
        refine gone_ok (Inv.trackX (ST.unsuite okX) p1 p2 n0 nL nC nP (exT_ok p1 znB.1 znB.2.1 flB)) hN hi hln hq
      cases f with
      | next =>
        obtain ⟨σT, HT, ST, qT⟩ := spq
        exact endT ST fun sU JU => ⟨_, _, JU, qT⟩
      | brk =>
        obtain ⟨σT, HT, ST, qT⟩ := spq
        exact endO ST fun sU JU => ⟨_, _, JU, qT⟩
      | cont =>
        obtain ⟨σT, HT, ST, qT⟩ := spq
        exact endO ST fun sU JU => ⟨_, _, JU, qT⟩
      | ret u =>
        obtain ⟨vT, σT, HT, ST, rT, qT⟩ := spq
        exact endO ST fun sU JU => ⟨_, _, _, JU, rT, qT⟩
    | false =>
      show wpAny _ X.A (handleBy (.ref a) X.env []) _ _ _
      refine wpAny_handleBy_nil ?_
      obtain ⟨k1, k2, k3, oe, vs, T, oT, ts', he, hz, hd, h1, hr⟩ := id flyA
      unfold PySem.passOn
      refine wpAny_bind (wpAny_field he hd h1 ?_)
      rw [if_neg (show ¬ ((Value.ref T == Value.none) = true) from by simp)]
      have outW : wpAny (model X.prog X.w) X.A (setFlight (.ref a) X.env.frame) (fun _ s4 => wpAny (model X.prog X.w) X.A (throw (.ref a) : Sem Flow) (SP X pins D) X.xe s4) X.xe { s' with heap := hpA } := by
        rw [hf]
        refine HandSPX.setFlight_upZ flyA fun hpB heldB growB => wpAny_throw (tk _ _ ?_)
        exact ⟨a, B, sI, pins, σ', H', cls, d, rfl, J, botB, (up.trans growA).trans growB, .inr (.inr (by rw [hs]; exact heldB)), frA, osE, agE, noB rfl⟩
      first
        | exact wpAny_bind (wpAny_pure (wpAny_bind outW))
        | exact wpAny_bind outW
  · cases f with
    | next =>
      obtain ⟨σ', H', J0, q⟩ := spq
      exact wpAny_execs_nil ⟨σ', H', J0.ofTry okX, q⟩
    | brk =>
      obtain ⟨σ', H', J0, q⟩ := spq
      exact ⟨σ', H', J0.ofTry okX, q⟩
    | cont =>
      obtain ⟨σ', H', J0, q⟩ := spq
      exact ⟨σ', H', J0.ofTry okX, q⟩
    | ret u =>
      obtain ⟨v, σ', H', J0, r, q⟩ := spq
      exact ⟨v, σ', H', J0.ofTry okX, r, q⟩
end
end RT

set_option Elab.async false
set_option linter.all false
set_option maxRecDepth 100000
set_option maxHeartbeats 4000000
/-! isinstance, fields of an exception that was caught and kept -/
namespace PySem.W
open PyProof.Rows
section
variable {prog : Program} {w : World} {A : Around} {E : Value → Shared → Prop} {s : Shared} {K : Frag} {x D : Addr} {ox : Obj} {od : Option Obj}
theorem kin_classX {Q : Option Value → Shared → Prop} (dGet : findIn K (.ref D) "__getattribute__" = some (some (.builtin "BaseException.__getattribute__"))) (dAlt : findIn K (.ref D) "__getattr__" = some none) (dSub : subIn K (.ref D) (.type "BaseException") = some true)
    (dDic : hasDictIn K D = true) (dCls : findIn K (.ref D) "__class__" = some (some (.builtin "object.__class__")))
    (dDes : specialIn K (.builtin "object.__class__") "__get__" = some (some (.builtin "getset_descriptor.__get__"))) (dTak : takesIn K (.builtin "object.__class__") = some true) (dMro : mroIn K D (.type "object") = some true)
    (X : K.In s.heap) (I : InstAt s.heap x ox D od) (h : Q (some (.ref D)) { s with toks := s.toks + 1 }) : wpAny (model prog w) A (getAttr? (.ref x) "__class__") Q E s := by
  have isC : (clsIn K D).isSome = true := by obtain ⟨cd, hc, _⟩ := any_some dDic; rw [hc]; rfl
  have found : findObj K D od "__class__" = some (.bind (.builtin "getset_descriptor.__get__") (.builtin "object.__class__")) := by
    cases od with
    | none => exact findObj_dataN isC dCls dDes dTak
    | some o => exact findObj_data isC dCls dDes dTak
  obtain ⟨hq0, g, d, t, os⟩ := s
  have k0 := I.type (M := model prog w)
  have k1 := looks_findIn (M := model prog w) X dGet
  have k2 := looks_findIn (M := model prog w) X dAlt
  have k3 := looks_find (M := model prog w) X I found
  have below : Looks (model prog w) hq0 (isInstance (.ref x) (.type "BaseException")) true := k0.andThen (looks_subIn X dSub)
  have z0 : (false && onTheHeap (Value.builtin "BaseException.__getattribute__")) = false := rfl
  have z2 : (Value.builtin "BaseException.__getattribute__" == Value.builtin "object.__getattribute__") = false := by decide +kernel
  have z1 : (onTheHeap (Value.ref D) && Value.builtin "BaseException.__getattribute__" == Value.builtin "object.__getattribute__") = false := by rw [z2]; rfl
  unfold getAttr? getAttrBy? getAttrBy
  refine wpAny_bind (wpAny_mkText (wpAny_bind (wpAny_attempt (wpAny_holding (wpAny_bind (k0.at (wpAny_bind (k1.at ?_))))))))
  show wpAny _ _ (if (onTheHeap (Value.ref D) && Value.builtin "BaseException.__getattribute__" == Value.builtin "object.__getattribute__") = true then _ else _) _ _ _
  rw [z1, if_neg Bool.false_ne_true]
  unfold getAttrByItsOwn hookBefore
  refine wpAny_bind ?_
  rw [if_pos (show onTheHeap (Value.ref D) = true from rfl)]
  refine k2.at ?_
  refine wpAny_bind (wpAny_attempt (wpAny_holding ?_))
  unfold callGetattribute
  rw [z0, if_neg Bool.false_ne_true]
  unfold boundAndCalled
  rw [PySem.F.excAttr_ValueError.ga.bind (.ref x)]
  refine wpAny_bind (wpAny_pure ?_)
  show wpAny _ _ (call (.builtin "BaseException.__getattribute__") [.ref x, .str "__class__" t]) _ _ _
  refine wpAny_call (codeAny_call_builtin PySem.F.excAttr_ValueError.ga.plain PySem.F.entry_bexc_ga ?_)
  refine @check_slot (model prog w) _ _ ⟨hq0, g, d, t + 1, os⟩ "BaseException.__getattribute__" "BaseException" "__getattribute__" (.ref x) [.str "__class__" t] [] _ (by decide +kernel) (by decide +kernel) below (PySem.F.args_bexc_ga (.ref x) (.str "__class__" t)) ?_
  unfold Builtin.«object.__getattribute__»
  refine wpAny_bind (wpAny_of_eq (a := ((Value.ref x : Value), [Value.str "__class__" t])) (by first | rfl | (simp only [slotArgs]; rfl)) ?_)
  refine wpAny_bind (wpAny_pure (wpAny_bind (k0.at (wpAny_bind (k3.at ?_)))))
  show wpAny _ _ (holding [Value.builtin "object.__class__"] (call (.builtin "getset_descriptor.__get__") [.builtin "object.__class__", .ref x, .ref D]) >>= ret) _ _ _
  refine wpAny_bind (wpAny_holding (wpAny_call (class_get (s := ⟨hq0, g, d, t + 1, os⟩) (ox := ox) (od := od) X I dMro ?_)))
  refine wpAny_pure ?_
  show wpAny _ _ (handedOut (.ref D)) _ _ _
  rw [handedOut_of (v := .ref D) rfl]
  first
    | exact wpAny_pure (wpAny_pure h)
    | exact wpAny_pure h
    | exact wpAny_pure (wpAny_bind (wpAny_pure (wpAny_pure h)))
theorem kitx_excX (dGet : findIn K (.ref D) "__getattribute__" = some (some (.builtin "BaseException.__getattribute__"))) (dAlt : findIn K (.ref D) "__getattr__" = some none) (dSub : subIn K (.ref D) (.type "BaseException") = some true) (dDic : hasDictIn K D = true) (dCls : findIn K (.ref D) "__class__" = some (some (.builtin "object.__class__")))
    (dDes : specialIn K (.builtin "object.__class__") "__get__" = some (some (.builtin "getset_descriptor.__get__"))) (dTak : takesIn K (.builtin "object.__class__") = some true) (dMro : mroIn K D (.type "object") = some true) :
    KitX K (.ref x) (.ref D) (fun h => InstAt h x ox D od) where
  ty := fun _ _ _ I => I.type
  it := fun _ _ X _ => by
    obtain ⟨cdx, hcx, _⟩ := any_some dDic
    unfold clsIn at hcx
    split at hcx
    · rename_i c1 d1 cd1 sl1 hob
      intro A1 Q1 E1 s1 k q
      unfold isType loadHead
      exact wpAny_bind (wpAny_loadPart (k _ _ (X _ _ hob)) (wpAny_pure q))
    · cases hcx
  ne := fun h tp dd its n sl X htup => by
    obtain ⟨cdx, hcx, _⟩ := any_some dDic
    refine Bool.eq_false_iff.mpr fun q => ?_
    have e : D = tp := Value.ref.inj (beq_iff_eq.mp q)
    subst e
    unfold clsIn at hcx
    split at hcx
    · rename_i c1 d1 cd1 sl1 hob
      have z := (X _ _ hob).symm.trans htup
      cases z
    · cases hcx
  ca := fun X I k => kin_classX dGet dAlt dSub dDic dCls dDes dTak dMro X I k
end
end PySem.W
namespace RT
open PySem PySem.Spec PyProof.Rows L2
/-- a value's type, exceptions that were kept too -/
inductive TyY (K : PySem.W.Frag) (H : Hp) : V → Value → Prop where
  | base {x : V} {t : Value} (h : TyX K H x t) : TyY K H x t
  | exc0 {a D : Addr} (e : H a = some (ExT a (.ref D) none)) (c : ExcC K D) : TyY K H (.ref a) (.ref D)
  | exc1 {a D dd : Addr} {fs : List (Str × V)} (e : H a = some (ExT a (.ref D) (some dd))) (e2 : H dd = some (.xd fs)) (c : ExcC K D) : TyY K H (.ref a) (.ref D)
theorem exT_get {P : Program} {w : World} {H : Hp} {h : Heap} {a : Addr} {cls : Value} {d : Option Addr} (I : HOk P w H h) (e : H a = some (ExT a cls d)) : ∃ (oe : Obj) (vs : Array Value), h.get? a = some oe ∧ oe.cls = cls ∧ oe.dict = d ∧ oe.data = .fields vs := (I a _ e).1
section
variable {X : Cx} {pins : List (Addr × Obj)} {σ : L2.St} {H : Hp} {s : Shared}
theorem inst_of {a D : Addr} {d : Option Addr} {od : Option Obj} (I : Inv X pins σ H s) (e : H a = some (ExT a (.ref D) d)) (h : match d, od with | none, none => True | some dd, some o => s.heap.get? dd = some o | _, _ => False) : ∃ oe vs, PySem.W.InstAt s.heap a oe D od ∧ oe.data = .fields vs := by
  obtain ⟨oe, vs, he, h1, h2, h3⟩ := exT_get I.hok e
  refine ⟨oe, vs, ⟨he, h1, by unfold PySem.W.notCls; rw [h3] <;> rfl, ?_⟩, h3⟩
  rw [h2]
  cases d with
  | none =>
    cases od with
    | none => trivial
    | some o => exact h
  | some dd =>
    cases od with
    | none => exact h
    | some o => exact h
theorem kit_ofY {x : V} {u t : Value} (I : Inv X pins σ H s) (rx : RelV x u) (ty : TyY X.K H x t) : ∃ P : Heap → Prop, PySem.W.KitX X.K u t P ∧ P s.heap ∧ u ≠ .builtin "__main__.__loader__#opaque" := by
  cases ty with
  | base h => exact kit_of I rx h
  | @exc0 a D e c =>
    cases (show u = Value.ref a from rx)
    obtain ⟨oe, vs, J, _⟩ := inst_of (od := none) I e trivial
    exact ⟨_, PySem.W.kitx_excX c.hg c.hk c.hs c.hd c.ha c.hn c.ht c.hm, J, fun z => nomatch z⟩
  | @exc1 a D dd fs e e2 c =>
    cases (show u = Value.ref a from rx)
    obtain ⟨mA, hns, hr⟩ := (show ObjOk X.prog X.w H s.heap dd (.xd fs) from I.hok dd _ e2)
    obtain ⟨od, ho, _⟩ := lookIn_ns hns
    obtain ⟨oe, vs, J, _⟩ := inst_of (od := some od) I e ho
    exact ⟨_, PySem.W.kitx_excX c.hg c.hk c.hs c.hd c.ha c.hn c.ht c.hm, J, fun z => nomatch z⟩
/-- isinstance(x, c); isinstance(x, (c1, c2, ..)) -/
def rIsiY (K : PySem.W.Frag) : List V → Hp → VK → Prop := fun xs H Q => ∃ (x c : V) (t u : Value) (b : Bool), xs = [x, c] ∧ ClsV c u ∧ TyY K H x t ∧ PySem.W.kitOne K t u = some b ∧ Q (.bl b) H
def rIsiTY (K : PySem.W.Frag) : List V → Hp → VK → Prop := fun xs H Q => ∃ (x : V) (tp : Addr) (cs : List V) (t : Value) (us : List Value) (b : Bool), xs = [x, .ref tp] ∧ H tp = some (.tup cs) ∧ Paired ClsV cs us ∧ TyY K H x t ∧ PySem.W.kitAny K t us = some b ∧ Q (.bl b) H
theorem vals2' {x y : V} {us : List Value} (r : Vals [x, y] us) : ∃ u v, us = [u, v] ∧ RelV x u ∧ RelV y v := Vals.two r
theorem call_isiY : CallR X (.builtin "isinstance") (rIsiY X.K) := by
  intro pins s σ H xs us Q I r h
  obtain ⟨x, c, t, u, b, rfl, k, ty, e, q⟩ := h
  obtain ⟨u1, u2, rfl, r1, r2⟩ := vals2' r
  have e2 := k.eq r2
  subst e2
  obtain ⟨P, Z, p, hx⟩ := kit_ofY I r1 ty
  exact PySem.W.kia_one Z I.kIn p e hx fun tk => ⟨.bl b, H, I.tok tk, rfl, q⟩
theorem call_isiTY : CallR X (.builtin "isinstance") (rIsiTY X.K) := by
  intro pins s σ H xs us Q I r h
  obtain ⟨x, tp, cs, t, ws, b, rfl, hT, k, ty, e, q⟩ := h
  obtain ⟨u1, u2, rfl, r1, r2⟩ := vals2' r
  cases (show u2 = Value.ref tp from r2)
  obtain ⟨P, Z, p, hx⟩ := kit_ofY I r1 ty
  obtain ⟨_, its, rv, o, h1, h2, n, h3⟩ := (show ObjOk X.prog X.w H s.heap tp (.tup cs) from I.hok tp _ hT)
  have e3 := ClsV.all k rv
  subst e3
  obtain ⟨oc, od, dt, sl⟩ := o
  simp only at h2 h3
  subst h2 h3
  exact PySem.W.kia_tup Z I.kIn p h1 e hx fun tk => ⟨.bl b, H, I.tok tk, rfl, q⟩
/-- e.f of a kept exception -/
def tXfT (K : PySem.W.Frag) (f : Str) (te : TE) : TE := fun σ H Q => te σ H fun x H1 => ∃ (a C dd : Addr) (fs : List (Str × V)) (v : V), x = .ref a ∧ XfC K C ∧ PySem.W.findIn K (.ref C) f = some none ∧ H1 a = some (ExT a (.ref C) (some dd)) ∧ H1 dd = some (.xd fs) ∧ fs.lookup f = some v ∧ Q v H1
theorem pe_xfT {e : Expr} {te : TE} {pos : Pos} {n : Str} (he : PE X e te) (hb : attributeBase e n X.env (eval e X.env) = eval e X.env := by rfl) : PE X (.Attribute e n pos) (tXfT X.K n te) := by
  refine ⟨fun pins s σ H Q I h => ?_⟩
  refine attr_of hb (thn (he.run pins s σ H _ I h) fun u s1 hh => ?_)
  obtain ⟨x, H1, I1, rx, a, C, dd, fs, v, ex, T, hno, ea, ed, l, q⟩ := hh
  subst ex
  obtain rfl : u = Value.ref a := rx
  obtain ⟨mA, hns, hr⟩ := (show ObjOk X.prog X.w H1 s1.heap dd (.xd fs) from I1.hok dd _ ed)
  obtain ⟨od, ho, hl⟩ := lookIn_ns hns
  obtain ⟨u, hu, ru⟩ := RelO.some_of (v := v) (o := mA n) (by rw [← l]; exact hr n)
  obtain ⟨oe, vs, J, _⟩ := inst_of (od := some od) I1 ea ho
  exact HandSPX.exc_get I1.kIn J T.ga T.gg T.exC (PySem.W.findObj_own T.hdC hno rfl (by rw [hl, hu])) (handed_of ru) ⟨v, H1, I1.tok _, ru, q⟩
end
end RT

set_option Elab.async false
set_option linter.all false
set_option maxRecDepth 100000
set_option maxHeartbeats 4000000
namespace RT
open PySem PySem.Spec PyProof.Rows L2
section
variable {X : Cx} {e : Expr} {es : List Expr} {ta : TA} {p1 p2 pos : Pos}
/-- Base.__init__(self, ..), Base an own class over ValueError without an __init__ -/
theorem pe_ceinit {pl : Sem Bool} {x : Str} {C0 : Addr} {mc : Value} (hg : Gl X x) (hm : X.mg x = some (.ref C0)) (ga : PySem.W.specialIn X.K (.ref C0) "__getattribute__" = some (some (.builtin "type.__getattribute__")))
    (ty : PySem.W.typeIn X.K (.ref C0) = some mc) (hr : PySem.W.readsIn X.K C0 mc = true) (vV : PySem.W.findCls X.K (.ref C0) mc "__init__" = some (.val (.builtin "ValueError.__init__"))) (ha : PA X (e :: es) ta)
    (hc : eval (.Call (.Attribute (.Name x p1) "__init__" p2) (e :: es) [] pos) X.env = (do
      let ov ← eval (.Name x p1) X.env
      standAt p2.atName
      let (f, first) ← holding [ov] (getMethod ov "__init__" pl)
      callWith pos f first (backTo pos (starEach (e :: es) X.env)) (backToKw pos (keywordEach [] X.env))) := by rfl)
    (he : starEach (e :: es) X.env = (false, eval e X.env) :: starEach es X.env := by rfl) (hpl : (backTo pos (starEach es X.env)).any (·.1) = false := by rfl) (hdb : (x == ("__debug__" : Str)) = false := by decide) :
    PE X (.Call (.Attribute (.Name x p1) "__init__" p2) (e :: es) [] pos) (tVeI X.K ta) := by
  refine ⟨fun pins s σ H Q I h => ?_⟩
  refine PySem.W.methodCall_KW (ld_glob I hg hm ?_ hdb) hc
  obtain ⟨m, fr⟩ := I.fr
  refine PySem.W.method_of_cls fr I.ok.mod.kin ga (PySem.W.cls_val fr I.ok.mod.kin ty hr vV (by decide +kernel) ?_)
  show wpAny _ _ (callWith pos (Value.builtin "ValueError.__init__") [] (backTo pos (starEach (e :: es) X.env)) []) _ _ _
  refine PyProof.Rows.callWith_method1 (thn (ha.run pos pins _ σ H _ (I.tok _) h) fun us s1 ⟨vs, H1, I1, r1, a, C, ws, ev, hl, T, ea, q⟩ => ?_) he hpl
  subst ev
  cases r1 with
  | @cons _ u0 _ ur ra rw' =>
    obtain rfl : u0 = Value.ref a := ra
    have hlen : ur.length ≤ sizeLine := by
      rw [← Paired.length rw', sizeLine_eq]
      omega
    exact oinit_ok T I1 ea hlen fun s' J => ⟨.non, H1, J, rfl, q⟩
end
end RT

set_option Elab.async false
set_option linter.all false
set_option maxRecDepth 100000
set_option maxHeartbeats 4000000
/-! further rules: repr of an int or None, {x} of None, max(.., default=), powers of greater ints, s * n -/
namespace RT
open PySem PySem.Spec PyProof.Rows L2
section
variable {X : Cx}
theorem vals1' {x : V} {us : List Value} (r : Vals [x] us) : ∃ u, us = [u] ∧ RelV x u := Vals.one r
/-- repr(n), repr(None) -/
def rRepr0 : List V → Hp → VK → Prop := fun xs H Q => (∃ i, xs = [.int i] ∧ i.natAbs.log2 < 1920 ∧ Q (.str (toString i)) H) ∨ (xs = [.non] ∧ Q (.str "None") H)
theorem call_repr0 : CallR X (.builtin "repr") rRepr0 := by
  intro pins s σ H xs us Q I r h
  rcases h with ⟨i, rfl, hz, q⟩ | ⟨rfl, q⟩
  · obtain ⟨u, rfl, t, rfl⟩ := vals1' r
    exact PySem.P.repr_of_int hz ⟨.str _, H, I.tok _, ⟨_, rfl⟩, q⟩
  · obtain ⟨u, rfl, e⟩ := vals1' r
    obtain rfl : u = Value.none := e
    exact PySem.P.repr_of_none ⟨.str _, H, I.tok _, ⟨_, rfl⟩, q⟩
/-- {x}: a text, an int, None -/
def tFmt0 (te : TE) : TE := fun σ H Q => te σ H fun x H1 => (∃ y : Str, x = .str y ∧ y.length ≤ sizeLine ∧ Q (.str y) H1) ∨ (∃ i : Int, x = .int i ∧ i.natAbs.log2 < 1920 ∧ Q (.str (toString i)) H1) ∨ (x = .non ∧ Q (.str "None") H1)
theorem pe_fmt0 {e : Expr} {te : TE} {pos : Pos} (he : PE X e te) : PE X (.FormattedValue e (-1) none pos) (tFmt0 te) := by
  refine ⟨fun pins s σ H Q I h => ?_⟩
  refine wpAny_FormattedValue_plain (thn (he.run pins s σ H _ I h) fun v s1 hv => ?_)
  obtain ⟨x, H1, I1, r1, q⟩ := hv
  rcases q with ⟨y, rfl, hz, q⟩ | ⟨i, rfl, hz, q⟩ | ⟨rfl, q⟩
  · obtain ⟨t, rfl⟩ := r1
    exact wpAny_formatField_str ⟨.str y, H1, I1, ⟨t, rfl⟩, q⟩ ⟨.str y, H1, I1.tok _, ⟨_, rfl⟩, q⟩ hz
  · obtain ⟨t, rfl⟩ := r1
    exact wpAny_formatField_int hz ⟨.str (toString i), H1, I1.tok _, ⟨_, rfl⟩, q⟩
  · obtain rfl : v = Value.none := r1
    exact wpAny_formatField_none ⟨.str _, H1, I1.tok _, ⟨_, rfl⟩, q⟩
/-- max(xs, default=d) of ints -/
def maxI (d : Int) : List Int → Int
  | [] => d
  | n :: ns => ns.foldl max n
def rMaxD (K : PySem.W.Frag) : List V → List V → Hp → VK → Prop := fun xs zs H Q => ∃ (a : Addr) (ns : List Int) (d : Int), xs = [.ref a] ∧ zs = [.int d] ∧ SqL K H a (ns.map V.int) ∧ Q (.int (maxI d ns)) H
theorem alike_ints (ns : List Int) : PySem.W.AlikeAll (ns.map PyData.int) := by
  refine ⟨fun x hx y hy => ?_, fun x hx => ?_⟩
  · obtain ⟨i, _, rfl⟩ := List.mem_map.mp hx
    obtain ⟨j, _, rfl⟩ := List.mem_map.mp hy
    rfl
  · obtain ⟨i, _, rfl⟩ := List.mem_map.mp hx
    exact fun z => nomatch z
theorem depth_ints : ∀ ns : List Int, PyData.depthAll (ns.map PyData.int) ≤ 1
  | [] => by simp [PyData.depthAll]
  | n :: ns => by
    have h := depth_ints ns
    simp only [List.map_cons, PyData.depthAll, PyData.depth]
    omega
theorem crk_maxD (hc : X.calm = true) (hu : X.A.units + 64 < cLine) : CallRK X (.builtin "max") ["default"] (rMaxD X.K) := by
  intro pins s σ H xs zs us ws Q I rx rz h
  obtain ⟨a, ns, d, rfl, rfl, hs, q⟩ := h
  obtain ⟨u, rfl, e⟩ := vals1' rx
  obtain rfl : u = Value.ref a := e
  obtain ⟨z, rfl, t, rfl⟩ := vals1' rz
  obtain ⟨its, rv, hl0, _⟩ := I.list hs
  have hl := hl0.isList
  have hr := PySem.W.readsAll_of_ints (h := s.heap) rv.ints
  have hd := depth_ints ns
  refine PySem.W.max_list_default (I.ok.hd hc) hl (by simpa using hr) (alike_ints ns) (by omega) (fun e0 h' tk k => ?_) fun y ys i v h' tk bs e hv hR k => ?_
  · have en : ns = [] := List.map_eq_nil_iff.mp e0
    subst en
    exact ⟨.int d, H, I.kept k, ⟨_, rfl⟩, q⟩
  · cases ns with
    | nil => cases e
    | cons n ns =>
      obtain ⟨rfl, rfl⟩ := List.cons.inj e
      rw [PySem.W.maxD_ints] at hR
      cases hR
      exact ⟨.int _, H, I.kept k, ⟨_, rfl⟩, q⟩
/-- a ** b of greater ints -/
def CPowW (i j : Int) : Prop := 0 ≤ j ∧ (Builtin.Int.intBits i : Int) * j ≤ 2 ^ 27
theorem op_powW : OpR X (binaryOp .Pow) (rI CPowW fun i j => .int (i ^ j.toNat)) := opI fun _ _ _ _ _ _ _ hc q => PyProof.Rows.pow_int hc.1 hc.2 q
/-- s * n -/
def rMulS : R2 := fun x y H Q => ∃ z n, x = .str z ∧ y = .int n ∧ PySem.MulOk z n ∧ Q (.str (PySem.Txt.mul z n)) H
theorem op_mulS : OpR X (binaryOp .Mult) rMulS := by
  intro pins s σ H x y v u Q I rx ry h
  obtain ⟨z, n, rfl, rfl, ok, q⟩ := h
  obtain ⟨t, rfl⟩ := rx
  obtain ⟨t', rfl⟩ := ry
  exact SB.mul ok fun t2 k => ⟨.str _, H, I.tok k, ⟨_, rfl⟩, q⟩
end
end RT

set_option Elab.async false
set_option linter.all false
set_option maxRecDepth 100000
set_option maxHeartbeats 4000000
/-! operators, len, in, == by an own class's methods -/
namespace PySem.W
open Lean Elab Tactic Meta PySem PySem.Calls PyProof.Rows
section
variable {prog : Program} {w : World} {A : Around} {E : Value → Shared → Prop} {s : Shared} {K : Frag} {x C L f : Addr} {h₀ : Heap} {m : Str → Option Value} {ox : Obj} {od : Option Obj} {T : String}
theorem rt_binT {op : Operator} {b : Value} {fo ro rc : Option Value} {Q : Value → Shared → Prop} (F : Fr h₀ L s.heap m) (X₀ : K.In h₀) (I : InstAt s.heap x ox C od) (bT : Looks (model prog w) s.heap (typeOf b) (.type T)) (cF : selfFirst K C = true)
    (sF : findIn K (.ref C) (PySem.dunder op.info.2) = some (some (.ref f))) (fF : isFn K (.ref f) = true) (rF : findIn K (.ref C) (dunderR op.info.2) = some rc) (pF : rc = none ∨ ∃ g : Addr, rc = some (.ref g))
    (h1 : findIn K (.type T) (PySem.dunder op.info.2) = some fo) (h2 : findIn K (.type T) (dunderR op.info.2) = some ro) (uF : subIn K (.type T) (.ref C) = some false)
    (h : wpAny (model prog w) A (call (.ref f) [.ref x, b]) (CmpBack Q) E s) : wpAny (model prog w) A (binaryOp op (.ref x) b) Q E s := by
  have X := X₀.keeps F.keep
  obtain ⟨cdx, more, cdE, mroE⟩ := ksp_first cF
  rcases inf : op.info with ⟨sym, nm1⟩
  rw [inf] at sF rF h1 h2
  dsimp only at sF rF h1 h2
  have tried := ksp_try X I sF fF h
  obtain ⟨hp0, g, d, tk0, os⟩ := s
  have k1 : Looks (model prog w) hp0 (typeOf (.ref x)) (.ref C) := I.type
  have k2 : Looks (model prog w) hp0 (typeOf b) (.type T) := bT
  have k3 : Looks (model prog w) hp0 (fillsNumberSlot (.ref C) nm1) true := fills_K X cdE mroE sF
  have k4 : Looks (model prog w) hp0 (fillsNumberSlot (.type T) nm1) ((fo.isSome && !isSeqSlot fo) || (ro.isSome && !isSeqSlot ro)) := ksp_fillsT X h1 h2
  have k5 : Looks (model prog w) hp0 (isSubtype (.type T) (.ref C)) false := looks_subIn X uF
  have k6 : Looks (model prog w) hp0 (numberSlotInPython (.ref C) nm1) true := ksp_inPy X sF rF pF
  have k7 : Looks (model prog w) hp0 (numberSlotInPython (.type T) nm1) false := Looks.of_pure rfl
  have k8 : Looks (model prog w) hp0 (typeLookup (.type T) (dunderR nm1)) ro := looks_findIn X h2
  generalize ((fo.isSome && !isSeqSlot fo) || (ro.isSome && !isSeqSlot ro)) = side at k4
  have apart : (Value.ref C == Value.type T) = false := Bool.eq_false_iff.mpr fun q => by cases beq_iff_eq.mp q
  simp only [binaryOp, inf]
  refine wpAny_holding (wpAny_bind ?_)
  unfold binaryOp1
  refine wpAny_bind (k1.at (wpAny_bind (k2.at (wpAny_bind (k3.at ?_)))))
  simp only [apart, Bool.false_eq_true, if_false]
  cases side with
  | false =>
    ksp_lk
    refine wpAny_mono tried (fun r s' hrr => ?_) fun _ _ e => e
    obtain ⟨v, rfl, hqq⟩ := hrr
    ksp_lk
    exact hqq
  | true =>
    ksp_lk
    refine wpAny_mono tried (fun r s' hrr => ?_) fun _ _ e => e
    obtain ⟨v, rfl, hqq⟩ := hrr
    ksp_lk
    exact hqq
end
end PySem.W
namespace RT
open PySem PySem.Spec PyProof.Rows L2
section
variable {X : Cx} {CX : CXT} {k : Nat} {C f : Addr} {fd : FuncData} {ps : List Str} {sp : Sp} {E : XK}
/-- what is asked of an own operator's class beside its method, for a right operand of a built-in type -/
structure RightT (K : PySem.W.Frag) (C : Addr) (op : Operator) (T : String) : Prop where
  r0 : PySem.W.findIn K (.ref C) (dunderR op.info.2) = some none
  t1 : ∃ fo, PySem.W.findIn K (.type T) (PySem.dunder op.info.2) = some fo
  t2 : ∃ ro, PySem.W.findIn K (.type T) (dunderR op.info.2) = some ro
  sb : PySem.W.subIn K (.type T) (.ref C) = some false
/-- x op y, x an instance of the class at C, y one too, or of a built-in type -/
def rBinO (K : PySem.W.Frag) (C : Addr) (op : Operator) (sp : Sp) (E : XK) : R2 := fun x y H Q => ∃ a dx fs, x = .ref a ∧ H a = some (.ins C dx fs) ∧ ((∃ b dy gs, y = .ref b ∧ H b = some (.ins C dy gs)) ∨ ∃ T, TyY K H y (.type T) ∧ RightT K C op T) ∧ sp [x, y] H Q E
theorem op_binO {op : Operator} (hc : PySem.W.selfFirst X.K C = true) (hm : Meth X.K C (PySem.dunder op.info.2) f) (F : FnOk X.prog X.w X.K X.mg X.base CX k f fd ps sp) (hr : Room k X.A) (hb : Binds X.K fd ps []) (hx : Passes CX X E) : OpR X (binaryOp op) (rBinO X.K C op sp E) := by
  intro pins s σ H x y v u Q I rx ry h
  obtain ⟨a, dx, fs, rfl, ea, ty, q⟩ := h
  cases (show v = Value.ref a from rx)
  obtain ⟨mA, O, _⟩ := ins_get I.hok ea
  obtain ⟨od, J, _⟩ := O.look
  obtain ⟨m, hF⟩ := I.fr
  have go : wpAny (model X.prog X.w) X.A (call (.ref f) [.ref a, u]) (PySem.W.CmpBack (EP X pins σ Q)) X.xe s := by
    refine wpAny_mono (run_fn (ds := []) (dvs := []) F hr hb .nil hx I (vs := [.ref a, y]) (.cons rfl (.cons ry .nil)) q) (fun w s' z => ?_) fun _ _ x => x
    obtain ⟨z', H', I', rz, qz⟩ := z
    exact SlX.cmpback rz ⟨z', H', I', rz, qz⟩
  rcases ty with ⟨b, dy, gs, rfl, eb⟩ | ⟨T, ty, R⟩
  · cases (show u = Value.ref b from ry)
    obtain ⟨mB, O', _⟩ := ins_get I.hok eb
    obtain ⟨od', J', _⟩ := O'.look
    exact PySem.W.binop_K hF I.ok.mod.kin J J'.type hc hm.at_ hm.fn go
  · obtain ⟨P, Z, p, _⟩ := kit_ofY I ry ty
    obtain ⟨fo, t1⟩ := R.t1
    obtain ⟨ro, t2⟩ := R.t2
    exact PySem.W.rt_binT hF I.ok.mod.kin J (Z.ty _ _ I.kIn p) hc hm.at_ hm.fn R.r0 (.inl rfl) t1 t2 R.sb go
/-- -x, ~x -/
def rUnO (C : Addr) (sp : Sp) (E : XK) : V → Hp → VK → Prop := fun x H Q => ∃ a dx fs, x = .ref a ∧ H a = some (.ins C dx fs) ∧ sp [x] H Q E
theorem un_negO (hm : Meth X.K C "__neg__" f) (F : FnOk X.prog X.w X.K X.mg X.base CX k f fd ps sp) (hr : Room k X.A) (hb : Binds X.K fd ps []) (hx : Passes CX X E) : UnR X (unaryOp .USub) (rUnO C sp E) := by
  intro pins s σ H x v Q I rx h
  obtain ⟨a, dx, fs, rfl, ea, q⟩ := h
  cases (show v = Value.ref a from rx)
  obtain ⟨mA, O, _⟩ := ins_get I.hok ea
  obtain ⟨od, J, _⟩ := O.look
  obtain ⟨m, hF⟩ := I.fr
  exact PySem.W.ksp_neg hF I.ok.mod.kin J hm.at_ hm.fn (run_fn (ds := []) (dvs := []) F hr hb .nil hx I (vs := [.ref a]) (.cons rfl .nil) q)
theorem un_invO (hm : Meth X.K C "__invert__" f) (F : FnOk X.prog X.w X.K X.mg X.base CX k f fd ps sp) (hr : Room k X.A) (hb : Binds X.K fd ps []) (hx : Passes CX X E) : UnR X (unaryOp .Invert) (rUnO C sp E) := by
  intro pins s σ H x v Q I rx h
  obtain ⟨a, dx, fs, rfl, ea, q⟩ := h
  cases (show v = Value.ref a from rx)
  obtain ⟨mA, O, _⟩ := ins_get I.hok ea
  obtain ⟨od, J, _⟩ := O.look
  obtain ⟨m, hF⟩ := I.fr
  exact PySem.W.ksp_inv hF I.ok.mod.kin J hm.at_ hm.fn (run_fn (ds := []) (dvs := []) F hr hb .nil hx I (vs := [.ref a]) (.cons rfl .nil) q)
/-- x == y by x's own __eq__, y of any kind that does not go first -/
def rEqO (K : PySem.W.Frag) (C : Addr) (sp : Sp) (E : XK) : R2 := fun x y H Q => ∃ a dx fs t, x = .ref a ∧ H a = some (.ins C dx fs) ∧ ((∃ b dy gs, y = .ref b ∧ H b = some (.ins C dy gs) ∧ t = .ref C) ∨ TyY K H y t) ∧ PySem.W.notFirst K C t = true ∧ sp [x, y] H Q E
theorem op_eqO {op : CmpOp} (hop : ∀ a b, compareOp op a b = richCompare op a b) (hm : Meth X.K C (cmpInfo op).2.1 f) (F : FnOk X.prog X.w X.K X.mg X.base CX k f fd ps sp) (hr : Room k X.A) (hb : Binds X.K fd ps []) (hx : Passes CX X E) :
    OpR X (compareOp op) (rEqO X.K C sp E) := by
  intro pins s σ H x y v u Q I rx ry h
  obtain ⟨a, dx, fs, t, rfl, ea, ty, hn, q⟩ := h
  cases (show v = Value.ref a from rx)
  obtain ⟨mA, O, _⟩ := ins_get I.hok ea
  obtain ⟨od, J, _⟩ := O.look
  obtain ⟨m, hF⟩ := I.fr
  have L : PySem.W.Looks (model X.prog X.w) s.heap (typeOf u) t := by
    rcases ty with ⟨b, dy, gs, rfl, eb, rfl⟩ | ty
    · cases (show u = Value.ref b from ry)
      obtain ⟨mB, O', _⟩ := ins_get I.hok eb
      obtain ⟨od', J', _⟩ := O'.look
      exact J'.type
    · obtain ⟨P, Z, p, _⟩ := kit_ofY I ry ty
      exact Z.ty _ _ I.kIn p
  rw [hop]
  refine PySem.W.cmp_K (op := op) (tb := t) hr.units0 hF I.ok.mod.kin J L hn hm.at_ hm.fn ?_
  refine wpAny_mono (run_fn (ds := []) (dvs := []) F hr hb .nil hx I (vs := [.ref a, y]) (.cons rfl (.cons ry .nil)) q) (fun w s' z => ?_) fun _ _ x => x
  obtain ⟨z', H', I', rz, qz⟩ := z
  exact SlX.cmpback rz ⟨z', H', I', rz, qz⟩
/-- y in x by x's own __contains__, which hands back a bool -/
def rInO (C : Addr) (sp : Sp) (E : XK) (neg : Bool) : R2 := fun y x H Q => ∃ a dx fs, x = .ref a ∧ H a = some (.ins C dx fs) ∧ sp [x, y] H (fun v H' => ∃ b, v = .bl b ∧ Q (.bl (if neg then !b else b)) H') E
theorem op_inO (hm : Meth X.K C "__contains__" f) (F : FnOk X.prog X.w X.K X.mg X.base CX k f fd ps sp) (hr : Room k X.A) (hb : Binds X.K fd ps []) (hx : Passes CX X E) : OpR X (compareOp .In) (rInO C sp E false) := by
  intro pins s σ H y x u v Q I ry rx h
  obtain ⟨a, dx, fs, rfl, ea, q⟩ := h
  cases (show v = Value.ref a from rx)
  obtain ⟨mA, O, _⟩ := ins_get I.hok ea
  obtain ⟨od, J, _⟩ := O.look
  obtain ⟨m, hF⟩ := I.fr
  refine PySem.W.in_K hF I.ok.mod.kin J hm.at_ hm.fn (wpAny_mono (run_fn (ds := []) (dvs := []) F hr hb .nil hx I (vs := [.ref a, y]) (.cons rfl (.cons ry .nil)) q) (fun w s' z => ?_) fun _ _ x => x)
  obtain ⟨z', H', I', rz, b, rfl, qz⟩ := z
  cases (show w = Value.bool b from rz)
  exact wpAny_truthy_bool ⟨.bl b, H', I', rfl, qz⟩
theorem op_notInO (hm : Meth X.K C "__contains__" f) (F : FnOk X.prog X.w X.K X.mg X.base CX k f fd ps sp) (hr : Room k X.A) (hb : Binds X.K fd ps []) (hx : Passes CX X E) : OpR X (compareOp .NotIn) (rInO C sp E true) := by
  intro pins s σ H y x u v Q I ry rx h
  obtain ⟨a, dx, fs, rfl, ea, q⟩ := h
  cases (show v = Value.ref a from rx)
  obtain ⟨mA, O, _⟩ := ins_get I.hok ea
  obtain ⟨od, J, _⟩ := O.look
  obtain ⟨m, hF⟩ := I.fr
  refine PySem.W.notIn_K hF I.ok.mod.kin J hm.at_ hm.fn (wpAny_mono (run_fn (ds := []) (dvs := []) F hr hb .nil hx I (vs := [.ref a, y]) (.cons rfl (.cons ry .nil)) q) (fun w s' z => ?_) fun _ _ x => x)
  obtain ⟨z', H', I', rz, b, rfl, qz⟩ := z
  cases (show w = Value.bool b from rz)
  exact wpAny_truthy_bool ⟨.bl (!b), H', I', rfl, qz⟩
/-- len(x) by x's own __len__ -/
def rLenO (C : Addr) (sp : Sp) (E : XK) : List V → Hp → VK → Prop := fun xs H Q => ∃ a dx fs, xs = [.ref a] ∧ H a = some (.ins C dx fs) ∧ sp [.ref a] H (fun v H' => ∃ n, v = .int n ∧ 0 ≤ n ∧ n < 2 ^ 63 ∧ Q (.int n) H') E
theorem call_lenO (hm : Meth X.K C "__len__" f) (F : FnOk X.prog X.w X.K X.mg X.base CX k f fd ps sp) (hr : Room (k + 1) X.A) (hb : Binds X.K fd ps []) (hx : Passes CX X E) : CallR X (.builtin "len") (rLenO C sp E) := by
  intro pins s σ H xs us Q I r h
  obtain ⟨a, dx, fs, rfl, ea, q⟩ := h
  obtain ⟨u, rfl, ru⟩ := vals1' r
  cases (show u = Value.ref a from ru)
  obtain ⟨mA, O, _⟩ := ins_get I.hok ea
  obtain ⟨od, J, _⟩ := O.look
  obtain ⟨m, hF⟩ := I.fr
  have r2 : Vals [V.ref a] [Value.ref a] := .cons rfl .nil
  have hl : ([Value.ref a] : List Value).length = ps.length := by
    rw [← r2.length]
    exact F.len _ _ _ _ q
  refine PySem.W.len_K hF I.ok.mod.kin J hm.at_ hm.fn (wpAny_call (codeAny_mono (F.run X.A.in1 X.stack s H ⟨[.ref a], []⟩ [.ref a] [.ref a] _ E hr.in1 I.env0.in1 (by simpa using hb s [.ref a] I.kIn (by simpa using hl)) r2 q) fun r s' hq => ?_))
  cases r with
  | error er => exact hx pins σ H s er s' I hq
  | ok fl =>
    cases fl with
    | ret u =>
      obtain ⟨v, H', I', rv, n, rfl, n0, n1, qz⟩ := I.after hq
      obtain ⟨t, rfl⟩ := (show ∃ t, u = Value.int n t from rv)
      exact ⟨⟨n0, n1⟩, .int n, H', I'.tok _, ⟨_, rfl⟩, qz⟩
    | next => exact False.elim hq
    | brk => exact False.elim hq
    | cont => exact False.elim hq
end
end RT

set_option Elab.async false
set_option linter.all false
set_option maxRecDepth 100000
set_option maxHeartbeats 4000000
/-! defs that are called where nothing is being shown: repr of lists and tuples -/
namespace RT
open PySem PySem.Spec PyProof.Rows L2
/-- as FnOk, where no repr runs around -/
structure FnG (P : Program) (w : World) (K : PySem.W.Frag) (mg : Str → Option Value) (base : Heap) (CX : CXT) (k : Nat) (f : Addr) (fd : FuncData) (ps : List Str) (sp : Sp) : Prop where
  len : ∀ vs H Q E, sp vs H Q E → vs.length = ps.length
  go : ∀ (A : Around) (outer : List Env) (s : Shared) (H : Hp) (args : Args) (us : List Value) (vs : List V) (Q : VK) (E : XK), A.guards = some [] → Room k A → Env0 P w K mg base A outer s H → BindsTo s fd args (ps.zip us) → Vals vs us → sp vs H Q E →
    codeAny (model P w) A (.call (.ref f) args) (CR CX outer P w H s Q E) s
theorem FnG.of {P : Program} {w : World} {K : PySem.W.Frag} {mg : Str → Option Value} {base : Heap} {CX : CXT} {k : Nat} {f : Addr} {fd : FuncData} {ps : List Str} {sp : Sp} (F : FnOk P w K mg base CX k f fd ps sp) : FnG P w K mg base CX k f fd ps sp :=
  ⟨F.len, fun A outer s H args us vs Q E _ => F.run A outer s H args us vs Q E⟩
theorem fnG_of {CX : CXT} {P : Program} {w : World} {K : PySem.W.Frag} {mg : Str → Option Value} {base : Heap} {k : Nat} {f : Addr} {name qual : Str} {params : Arguments} {body : List Stmt} {scope : Scope} {dV kV doc pm cdv ct oc : Value} {an od : Option Addr}
    {osl : Array (Option Value)} {N ps : List Str} {sp : Sp} (at_ : K.lookup f = some ⟨oc, od, .func (PySem.W.fnOf name qual params body scope dV kV doc pm an cdv ct), osl⟩) (code : PySem.W.codeIn K cdv qual = true) (S : FnScope N ps scope)
    (len : ∀ vs H Q E, sp vs H Q E → vs.length = ps.length)
    (walk : ∀ (A : Around) (outer : List Env) (s : Shared) (H : Hp) (vs : List V) (Q : VK) (E : XK), A.guards = some [] → Room k (A.deeper (envOfC qual scope s.heap.objs.size f cdv)) → sp vs H Q E →
      ∃ t, PSs (cxOf CX P w K mg base N qual scope f cdv A outer s H E) body t ∧ t { nx := fun _ H' => Q .non H', rt := Q } (start N vs) H) :
    FnG P w K mg base CX (k + 1) f (PySem.W.fnOf name qual params body scope dV kV doc pm an cdv ct) ps sp where
  len := len
  go := fun A outer s H args us vs Q E hg room env binds vals said => by
    have size := len _ _ _ _ said
    have here : K.In s.heap := env.mod.kin.keeps fun b o e => (env.bs b o e).1
    have free : s.heap.NoLimit := env.mod.nolimit.keeps fun b o e => (env.bs b o e).1
    have kinds : ∀ y ∈ ps.zip us, scope.names.lookup y.1 = some .local ∨ (scope.names.lookup y.1 = some .cell ∧ ((cellsFrom (s.heap.objs.size + 1) scope.names []).lookup y.1).isSome = true) := by
      rintro ⟨n, v⟩ hy
      exact (S.par n (List.of_mem_zip hy).1).imp id fun q => ⟨q, PySem.W.cellsFrom_some _ _ _ (.inl q)⟩
    refine codeAny_call_function room.depth (here _ _ at_) rfl S.co S.gen rfl (PySem.W.codeRec_of here code) (binds _ _ _ _ ?_)
    refine wpAny_newFunctionEnv_cells S.kind kinds fun e1 he s1 x => ?_
    subst he
    obtain ⟨t, ht, hq⟩ := walk A outer s H vs Q E hg (room.deeper _) said
    refine ⟨free.keeps x.toInCall.keep, codeAny_func ?_⟩
    refine wpAny_mono (ht.run [] s1 (start N vs) H _ (inv_start S room.hd env size vals x) hq) (fun fl s' done => ?_) fun _ _ z => z
    match fl, done with
    | .ret u, ⟨v, _, H', J, rv, q⟩ => exact ⟨v, H', J.os, J.bare, J.base, J.hok, rv, q⟩
    | .next, ⟨_, H', J, q⟩ => exact ⟨V.non, H', J.os, J.bare, J.base, J.hok, rfl, q⟩
    | .brk, ⟨_, _, _, q⟩ => exact q.elim
    | .cont, ⟨_, _, _, q⟩ => exact q.elim
section
variable {P : Program} {w : World} {K : PySem.W.Frag} {mg : Str → Option Value} {base : Heap} {CX : CXT}
/-- a def of the text keeps its promise where nothing is being shown -/
theorem okG {x qual : Str} {pa : Arguments} {bd : List Stmt} {sc : Scope} {dvs : List V} {kws : List (Str × V)} {f : Addr} {fd : FuncData} {N ps : List Str} {k : Nat} {sp : Sp} (F : FunD K x qual pa bd sc dvs kws f fd) (S : FnScope N ps sc) (len : ∀ vs H Q E, sp vs H Q E → vs.length = ps.length)
    (walk : ∀ (cdv : Value) (A : Around) (outer : List Env) (s : Shared) (H : Hp) (vs : List V) (Q : VK) (E : XK), A.guards = some [] → Room k (A.deeper (envOfC qual sc s.heap.objs.size f cdv)) → sp vs H Q E →
      ∃ t, PSs (cxOf CX P w K mg base N qual sc f cdv A outer s H E) bd t ∧ t { nx := fun _ H' => Q .non H', rt := Q } (start N vs) H) : FnG P w K mg base CX (k + 1) f fd ps sp := by
  obtain ⟨oc, od, dV, kV, doc, pm, an, cdv, ct, osl, rfl, lk, hcd, _, _⟩ := F.ex
  exact fnG_of lk hcd S len fun A outer s H vs Q E hg hr h => walk cdv A outer s H vs Q E hg hr h
end
section
variable {X : Cx} {CX : CXT} {k : Nat} {f : Addr} {fd : FuncData} {ps : List Str} {sp : Sp} {dvs : List V} {ds : List Value} {E : XK} {e : Expr} {es : List Expr} {t : TA} {x : Str} {p pos : Pos}
theorem pe_callG (F : FnG X.prog X.w X.K X.mg X.base CX k f fd ps sp) (hG : X.A.guards = some []) (hr : Room k X.A) (hg : Gl X x) (hm : X.mg x = some (.ref f)) (hk : PySem.W.keepIn X.K (.ref f) = true) (hb : Binds X.K fd ps ds) (hd : Vals dvs ds) (hx : Passes CX X E)
    (ha : PA X (e :: es) t) (hdb : (x == ("__debug__" : Str)) = false := by decide) (he : starEach (e :: es) X.env = (false, eval e X.env) :: starEach es X.env := by rfl) (hpl : (backTo pos (starEach es X.env)).any (·.1) = false := by rfl) :
    PE X (.Call (.Name x p) (e :: es) [] pos) (tCall sp dvs E t) := by
  refine ⟨fun pins s σ H Q I h => wpAny_Call_Name_kw (ld_glob I hg hm ?_ hdb)⟩
  refine PySem.W.callWith_K (h₀ := X.base) I.ok.mod.kin hk (thn (ha.run pos pins s σ H _ I h) fun us s1 ⟨vs, H1, I1, r, q⟩ => ⟨I1.kIn, ?_⟩) he hpl
  have r2 := r.append hd
  have hl : (us ++ ds).length = ps.length := r2.length.symm.trans (F.len _ _ _ _ q)
  refine wpAny_call (codeAny_mono (F.go X.A X.stack s1 H1 ⟨us, []⟩ (us ++ ds) (vs ++ dvs) Q E hG hr I1.env0 (hb s1 us I1.kIn hl) r2 q) fun r s' hq => ?_)
  match r, hq with
  | .error e, hq => exact hx pins σ H1 s1 e s' I1 hq
  | .ok (.ret u), hq => exact I1.after hq
/-- repr of data at any depth -/
def rReprD (K : PySem.W.Frag) : List V → Hp → VK → Prop := fun xs H Q => ∃ (a : Addr) (d : PyData), xs = [.ref a] ∧ Dp K H (.ref a) d ∧ d.showable = true ∧ d.hasDict = false ∧ d.depth ≤ 40 ∧ d.shown.length ≤ sizeLine ∧ Q (.str d.shown) H
theorem call_reprD (hG : X.A.guards = some []) (hu : X.A.units + 64 < cLine) : CallR X (.builtin "repr") (rReprD X.K) := by
  intro pins s σ H xs us Q I r h
  obtain ⟨a, d, rfl, D, hs, hd, hz, hl, q⟩ := h
  obtain ⟨u, rfl, ru⟩ := vals1' r
  obtain ⟨as, rd⟩ := Dp.reads I d _ _ D ru
  cases (show u = Value.ref a from ru)
  exact repr_of_reads' rd hs (PyData.noDict_hsm hd) hG (by omega) (fun _ _ e => e) (fun h' u tk k => ⟨.str d.shown, H, I.kept k, ⟨u, rfl⟩, q⟩) hl
end
/-! ### the law's own call -/
/-- the abstract heap at the law's entry: the script's list, locked -/
def scriptH (a : Addr) (vs : List Value) (ns : List Int) : Hp := fun b => if b = a then some (.frz { cls := .type "list", data := .seq vs.toArray } (.lst (ns.map V.int))) else none
section
variable {P : Program} {w : World} {K : PySem.W.Frag} {mg mb : Str → Option Value} {CX : CXT} {k : Nat} {fa a : Addr} {fd : FuncData} {x : Str} {sp : Sp} {s : Shared} {vs : List Value} {ns : List Int}
theorem enterG (H : Hp) (alone : ∀ b u, H b = some u → b = a ∧ ∃ o xs, u = .frz o (.lst xs)) (free : ∀ b, H b ≠ none → K.lookup b = none) (hok : HOk P w H s.heap)
    (KX : K.In s.heap) (gl : s.heap.Ns mainGlobals mg) (bl : s.heap.Ns builtinsNs mb) (bb : ∀ x : Str, x ≠ "__name__" → mb x = bootBuiltins x) (lim : s.heap.NoLimit) (gn : s.gens = #[]) (room : Room k callerA)
    (F : ∀ base : Heap, K.In base → base.Ns mainGlobals mg → FnG P w K mg base CX k fa fd [x] sp) (binds : ∀ (s : Shared) (u : Value), BindsTo s fd ⟨[u], []⟩ [(x, u)]) (said : sp [.ref a] H (fun v _ => v = .bl true) fun _ _ _ => False)
    (noX : ∀ e s', CX [] H s (fun _ _ _ => False) e s' → False) :
    codeAny (model P w) callerA (.call (.ref fa) ⟨[.ref a], []⟩) (fun r s' => r = .ok (.ret (.bool true)) ∧ OldK s.heap s'.heap ∧ s'.os = s.os ∧ AllBare s'.gens) s := by
  have noDict : ∀ {b : Addr} {o : Obj} {es : Array DictEntry} {n : Nat}, s.heap.get? b = some o → o.data = .dict es n → H b = none := fun {b o es n} e d => by
    cases q : H b with
    | none => rfl
    | some u =>
      obtain ⟨_, ob, xs, rfl⟩ := alone b u q
      obtain ⟨e1, _, its, m, _, e2⟩ := (show ObjOk P w H s.heap b (.frz ob (.lst xs)) from hok b _ q)
      rw [e] at e2
      cases e2
      cases d
  have ns_ : ∀ {b : Addr} {m : Str → Option Value}, s.heap.Ns b m → (hidT s.heap H).Ns b m := fun {b m} ⟨o, es, n, e, d, r⟩ => ⟨o, es, n, hidT_get e (noDict e d), d, r⟩
  have kb : K.In (hidT s.heap H) := fun b o e => hidT_get (KX b o e) (by
    cases q : H b with
    | none => rfl
    | some u =>
      have z := free b (by rw [q]; exact fun z => nomatch z)
      rw [e] at z
      cases z)
  have md : Mod K mg (hidT s.heap H) := ⟨kb, ns_ gl, ⟨mb, ns_ bl, bb⟩, by
    obtain ⟨mc, h1, h2⟩ := lim
    exact ⟨mc, ns_ h1, h2⟩⟩
  have env : Env0 P w K mg (hidT s.heap H) callerA [] s H := ⟨rfl, md, fun b o e => of_hidT e, Nat.le_of_eq (hidT_size _ _), trivial, (fun b hb => absurd (show b ∈ ([] : List Addr) from hb) (by simp)), hok, .of_eq gn⟩
  refine codeAny_mono ((F _ kb (ns_ gl)).go callerA [] s H ⟨[.ref a], []⟩ [.ref a] [.ref a] _ _ rfl room env (binds s (.ref a)) (.cons rfl .nil) said) fun r s' h => ?_
  match r, h with
  | .error e, h => exact (noX e s' h).elim
  | .ok (.ret u), ⟨v, H', os, bare, un, hok', rv, q⟩ =>
    have ev : v = .bl true := q
    subst ev
    obtain rfl : u = Value.bool true := rv
    refine ⟨rfl, OldK.of_keep fun b o e => ?_, os, bare⟩
    cases q : H b with
    | none => exact un.keep b o e q (fun z => nomatch z) (fun z => nomatch z)
    | some u =>
      obtain ⟨_, ob, xs, rfl⟩ := alone b u q
      obtain ⟨e1, _⟩ := hok b _ q
      obtain ⟨e2, _⟩ := hok' b _ (un.frzs b ob _ q)
      rw [e] at e1
      cases e1
      exact e2
theorem law_callG (KX : K.In s.heap) (gl : s.heap.Ns mainGlobals mg) (bl : s.heap.Ns builtinsNs mb) (bb : ∀ x : Str, x ≠ "__name__" → mb x = bootBuiltins x) (lim : s.heap.NoLimit) (gn : s.gens = #[])
    (obj : s.heap.get? a = some { cls := .type "list", data := .seq vs.toArray }) (hi : IntsAre vs ns) (hl : ns.length ≤ sizeLine) (room : Room k callerA)
    (F : ∀ base : Heap, K.In base → base.Ns mainGlobals mg → FnG P w K mg base CX k fa fd [x] sp) (binds : ∀ (s : Shared) (u : Value), BindsTo s fd ⟨[u], []⟩ [(x, u)])
    (said : ∀ H : Hp, SqL K H a (ns.map V.int) → sp [.ref a] H (fun v _ => v = .bl true) fun _ _ _ => False) (noX : ∀ H e s', CX [] H s (fun _ _ _ => False) e s' → False) :
    codeAny (model P w) callerA (.call (.ref fa) ⟨[.ref a], []⟩) (fun r s' => r = .ok (.ret (.bool true)) ∧ OldK s.heap s'.heap ∧ s'.os = s.os ∧ AllBare s'.gens) s := by
  have rv := vals_ints hi
  cases hk : K.lookup a with
  | some o =>
    have e := KX a o hk
    rw [obj] at e
    cases e
    exact enterG (fun _ => none) (fun b u z => nomatch z) (fun b z => (z rfl).elim) (fun b u z => nomatch z) KX gl bl bb lim gn room F binds
      (said _ (.inr ⟨_, vs.toArray, _, hk, rfl, rfl, rfl, by rw [List.size_toArray, hi.length]; exact hl, by simpa using rv⟩)) (noX _)
  | none =>
    have at_ : ∀ b u, scriptH a vs ns b = some u → b = a ∧ u = .frz { cls := .type "list", data := .seq vs.toArray } (.lst (ns.map V.int)) := fun b u z => by
      unfold scriptH at z
      by_cases hb : b = a
      · rw [if_pos hb] at z
        exact ⟨hb, (Option.some.inj z).symm⟩
      · rw [if_neg hb] at z
        cases z
    refine enterG (scriptH a vs ns) (fun b u z => ?_) (fun b z => ?_) (fun b u z => ?_) KX gl bl bb lim gn room F binds (said _ (.inl (.inr ⟨{ cls := .type "list", data := .seq vs.toArray }, by unfold scriptH; rw [if_pos rfl]⟩))) (noX _)
    · obtain ⟨e, rfl⟩ := at_ b u z
      exact ⟨e, _, _, rfl⟩
    · cases q : scriptH a vs ns b with
      | none => exact (z q).elim
      | some u =>
        rw [(at_ b u q).1]
        exact hk
    · obtain ⟨rfl, rfl⟩ := at_ b u z
      exact ⟨obj, by rw [List.length_map]; exact hl, vs, _, rv, obj⟩
end
/-- the end of a law's proof: the head's facts give the law's def, the def keeps its promise -/
theorem walk_ofG {l : PySem.W.OpenLaw} {n k : Nat} {q : Program} {loose : List Str} {XP : (Str → Option Value) → Heap → Prop} {YP : World → Heap → Prop} {d : DefRec} {CX : World → CXT} {x : Str}
    (hn : l.most = some n) (hn2 : n ≤ sizeLine) (hdf : d.params.defaults = []) (room : Room k callerA)
    (F : ∀ (w : World) (mg : Str → Option Value) (fa : Addr) (h : Heap), YP w h → h.Ns mainGlobals mg → mg d.name = some (.ref fa) →
      ∃ (K : PySem.W.Frag) (fd : FuncData) (sp : Sp), K.In h ∧ (∀ (s : Shared) (u : Value), BindsTo s fd ⟨[u], []⟩ [(x, u)]) ∧
        (∀ (H : Hp) (a : Addr) (ns : List Int), ns.length ≤ n → (∀ z ∈ ns, Builtin.Int.intBits z ≤ 1048576) → SqL K H a (ns.map V.int) → sp [.ref a] H (fun v _ => v = .bl true) fun _ _ _ => False) ∧
        ∀ base : Heap, K.In base → base.Ns mainGlobals mg → FnG l.prog w K mg base (CX w) k fa fd [x] sp)
    (noX : ∀ (w : World) (H : Hp) (s : Shared) (e : Value) (s' : Shared), CX w [] H s (fun _ _ _ => False) e s' → False) :
    PySem.W.WalkO q loose XP YP l.row.toRowW d [] (fun f vs => PySem.call f vs) := by
  refine Att.attach_callB hn hdf fun w s₀ s₁ mg mb fa o pm cd doc a vs ns G Y ho hd hcd hmg hobj hints hlen hbits hg => ?_
  obtain ⟨K, fd, sp, KX, hb, said, hF⟩ := F w mg fa _ Y G.T.g hmg
  exact law_callG KX G.T.g G.T.b G.T.builtins G.T.nolimit hg hobj hints (Nat.le_trans hlen hn2) room hF hb (fun H hS => said H a ns hlen hbits hS) fun H e s' => noX w H s₁ e s'
end RT

set_option Elab.async false
set_option linter.all false
set_option maxRecDepth 100000
set_option maxHeartbeats 4000000
/-! a head whose facts are any Bools of the written part, and defs by any address (a property's getter too) -/
namespace HP
open PySem PySem.Spec PyProof.Rows L2 He
/-- a def of the text, where it stands -/
structure DefA where
  adr : PySem.W.Frag → Addr
  name : Str
  qual : Str
  params : Arguments
  body : List Stmt
  scope : Scope
  dfl : List Dv := []
  kwd : List (Str × Dv) := []
def DefA.told (K : PySem.W.Frag) (d : DefA) : FnW := match K.lookup (d.adr K) with
  | some ⟨_, _, .func fd, _⟩ => some (fd.name, fd.qualname, fd.params, fd.body, fd.scope, fd.globals, fd.closure, fd.builtins)
  | _ => none
def DefA.want (d : DefA) : FnW := some (d.name, d.qual, d.params, .stmts d.body, d.scope, mainGlobals, [], builtinsNs)
def DefA.dvs (K : PySem.W.Frag) (d : DefA) : List V := d.dfl.map (Dv.v K)
def DefA.kws (K : PySem.W.Frag) (d : DefA) : List (Str × V) := d.kwd.map fun q => (q.1, q.2.v K)
def DefA.fine (K : PySem.W.Frag) (d : DefA) : Bool := PySem.W.keepIn K (.ref (d.adr K)) && (match K.lookup (d.adr K) with
  | some ⟨_, _, .func fd, _⟩ => PySem.W.codeIn K fd.code d.qual && (dflB K fd.defaults (d.dvs K) && kwdB K fd.kwdefaults (d.kws K))
  | _ => false)
theorem DefA.funD {K : PySem.W.Frag} {d : DefA} (e : d.told K = d.want) (c : d.fine K = true) : ∃ fd, FunD K d.name d.qual d.params d.body d.scope (d.dvs K) (d.kws K) (d.adr K) fd := by
  obtain ⟨kp, more⟩ := ba c
  unfold DefA.told at e
  split at e
  · rename_i oc od fd osl at_
    rw [at_] at more
    obtain ⟨k1, k2⟩ := ba more
    obtain ⟨k3, k4⟩ := ba k2
    cases fd
    unfold DefA.want at e
    injection e with e
    simp only [Prod.mk.injEq] at e
    obtain ⟨rfl, rfl, rfl, rfl, rfl, rfl, rfl, rfl⟩ := e
    exact ⟨_, ⟨oc, od, _, _, _, _, _, _, _, osl, rfl, at_, k1, dflB_ok k3, kwdB_ok k4⟩, kp⟩
  · cases e
abbrev Fact := PySem.W.Frag → Bool
abbrev Al := Bool × List FnW
def obsA (fa : List Fact) (fn : List DefA) (K : PySem.W.Frag) : Al := ((fa.all fun f => f K) && fn.all fun d => d.fine K, fn.map fun d => d.told K)
def wantA (fn : List DefA) : Al := (true, fn.map DefA.want)
def obsAG (n : Nat) (fa : List Fact) (fn : List DefA) (g : Addr → Option Obj) : Al := obsA fa fn (frG g (asD g n))
structure SaysA (fa : List Fact) (fn : List DefA) (K : PySem.W.Frag) : Prop where
  eq : obsA fa fn K = wantA fn
def hookA (n : Nat) (fa : List Fact) (fn : List DefA) : PySem.W.Hook where
  α := Al
  obs := fun s => obsAG n fa fn s.heap.get?
  val := fun _ => wantA fn
  says := fun _ h => ∃ K : PySem.W.Frag, K.In h ∧ SaysA fa fn K
  of := fun _ _ e => ⟨_, frG_in, ⟨e⟩⟩
  keeps := fun _ _ _ ⟨K, hK, c⟩ k => ⟨K, PySem.W.Frag.In.keeps hK k, c⟩
theorem obsAG_eq {n : Nat} {fa : List Fact} {fn : List DefA} {g : Addr → Option Obj} {s : Shared} (h : ∀ a, g a = s.heap.get? a) : obsAG n fa fn g = (hookA n fa fn).obs s := by
  rw [show g = s.heap.get? from funext h] <;> rfl
section
variable {fa : List Fact} {fn : List DefA} {K : PySem.W.Frag}
theorem SaysA.fact (c : SaysA fa fn K) (i : Nat) {f : Fact} (h : fa[i]? = some f := by rfl) : f K = true :=
  List.all_eq_true.mp (ba (congrArg Prod.fst c.eq)).1 f (List.mem_of_getElem? h)
theorem SaysA.def_ (c : SaysA fa fn K) (i : Nat) {d : DefA} (h : fn[i]? = some d := by rfl) : ∃ fd, FunD K d.name d.qual d.params d.body d.scope (d.dvs K) (d.kws K) (d.adr K) fd := by
  have hd : d ∈ fn := List.mem_of_getElem? h
  refine DefA.funD ?_ (List.all_eq_true.mp (ba (congrArg Prod.fst c.eq)).2 d hd)
  have e : fn.map (fun d => d.told K) = fn.map DefA.want := congrArg Prod.snd c.eq
  have e1 := congrArg (fun l => l[i]?) e
  simp only [List.getElem?_map, h, Option.map_some, Option.some.injEq] at e1
  exact e1
end
/-! ### facts beside He.Fa's -/
/-- a property of the class x -/
def getA (x f : Str) (K : PySem.W.Frag) : Addr := match PySem.W.recIn K (ma K (ga K x) f) "property" with
  | some (.ref g :: _) => g
  | _ => 0
def propB (x f : Str) : Fact := fun K => eqO (PySem.W.findIn K (.ref (ga K x)) f) (some (some (.ref (ma K (ga K x) f)))) && (eqO (PySem.W.specialIn K (.ref (ma K (ga K x) f)) "__get__") (some (some (.builtin "property.__get__"))) && (decide (PySem.W.takesIn K (.ref (ma K (ga K x) f)) = some true) &&
  (match PySem.W.recIn K (ma K (ga K x) f) "property" with
    | some (.ref _ :: _) => true
    | _ => false)))
theorem propB_ok {x f : Str} {K : PySem.W.Frag} (h : propB x f K = true) : PropOf K (ga K x) f (ma K (ga K x) f) (getA x f K) := by
  obtain ⟨h1, h⟩ := ba h
  obtain ⟨h2, h⟩ := ba h
  obtain ⟨h3, h4⟩ := ba h
  refine ⟨eqO_ok h1, eqO_ok h2, of_decide_eq_true h3, ?_⟩
  unfold getA
  split at h4
  · rename_i g rest e
    rw [e]
    exact ⟨rest, rfl⟩
  · cases h4
/-- own operators: the class goes first in its own order; no reflected method -/
def firstB (x : Str) : Fact := fun K => PySem.W.selfFirst K (ga K x)
def notFirstB (x : Str) (t : PySem.W.Frag → Value) : Fact := fun K => PySem.W.notFirst K (ga K x) (t K)
def rightB (x : Str) (op : Operator) (T : String) : Fact := fun K => eqO (PySem.W.findIn K (.ref (ga K x)) (dunderR op.info.2)) (some none) && ((PySem.W.findIn K (.type T) (PySem.dunder op.info.2)).isSome && ((PySem.W.findIn K (.type T) (dunderR op.info.2)).isSome && decide (PySem.W.subIn K (.type T) (.ref (ga K x)) = some false)))
theorem rightB_ok {x : Str} {op : Operator} {T : String} {K : PySem.W.Frag} (h : rightB x op T K = true) : RT.RightT K (ga K x) op T := by
  obtain ⟨h1, h⟩ := ba h
  obtain ⟨h2, h⟩ := ba h
  obtain ⟨h3, h4⟩ := ba h
  exact ⟨eqO_ok h1, Option.isSome_iff_exists.mp h2, Option.isSome_iff_exists.mp h3, of_decide_eq_true h4⟩
/-- isinstance of an instance of the class x asks its class rightly -/
def isiB (x : Str) : Fact := fun K => eqO (PySem.W.findIn K (.ref (ga K x)) "__class__") (some (some (.builtin "object.__class__"))) && (eqO (PySem.W.specialIn K (.builtin "object.__class__") "__get__") (some (some (.builtin "getset_descriptor.__get__"))) && (decide (PySem.W.takesIn K (.builtin "object.__class__") = some true) && decide (PySem.W.mroIn K (ga K x) (.type "object") = some true)))
structure IsiC (K : PySem.W.Frag) (C : Addr) : Prop where
  ha : PySem.W.findIn K (.ref C) "__class__" = some (some (.builtin "object.__class__"))
  hn : PySem.W.specialIn K (.builtin "object.__class__") "__get__" = some (some (.builtin "getset_descriptor.__get__"))
  ht : PySem.W.takesIn K (.builtin "object.__class__") = some true
  hm : PySem.W.mroIn K C (.type "object") = some true
theorem isiB_ok {x : Str} {K : PySem.W.Frag} (h : isiB x K = true) : IsiC K (ga K x) := by
  obtain ⟨h1, h⟩ := ba h
  obtain ⟨h2, h⟩ := ba h
  obtain ⟨h3, h4⟩ := ba h
  exact ⟨eqO_ok h1, eqO_ok h2, of_decide_eq_true h3, of_decide_eq_true h4⟩
/-- a global that is a tuple of flat values -/
def flatOf : Value → Option V
  | .none => some .non
  | .bool b => some (.bl b)
  | .int i _ => some (.int i)
  | .str x _ => some (.str x)
  | _ => none
theorem flatOf_ok {v : Value} {x : V} (h : flatOf v = some x) : RelV x v := by
  cases v <;> simp only [flatOf, Option.some.injEq, reduceCtorEq] at h <;> subst h <;> first | rfl | exact ⟨_, rfl⟩
theorem flats_ok : ∀ {vs : List Value} {xs : List V}, vs.map flatOf = xs.map some → Vals xs vs
  | [], [], _ => .nil
  | [], _ :: _, h => by cases h
  | _ :: _, [], h => by cases h
  | v :: vs, x :: xs, h => by
    simp only [List.map_cons, List.cons.injEq] at h
    exact .cons (flatOf_ok h.1) (flats_ok h.2)
def tupB (x : Str) (xs : List V) : Fact := fun K => match K.lookup (ga K x) with
  | some o => eqO (some (some o.cls)) (some (some (.type "tuple"))) && (match o.data with
    | .seq its _ => decide (its.toList.map flatOf = xs.map some) && decide (its.size ≤ sizeLine)
    | _ => false)
  | none => false
theorem tupB_ok {x : Str} {xs : List V} {K : PySem.W.Frag} (h : tupB x xs K = true) : ∀ H : Hp, SqT K H (ga K x) xs := by
  intro H
  unfold tupB at h
  split at h
  · rename_i o e
    obtain ⟨h1, h2⟩ := ba h
    split at h2
    · rename_i its n ed
      obtain ⟨h3, h4⟩ := ba h2
      exact .inr ⟨o, its, n, e, Option.some.inj (Option.some.inj (eqO_ok h1)), ed, of_decide_eq_true h4, flats_ok (of_decide_eq_true h3)⟩
    · cases h2
  · cases h
def neB (x : Str) : Fact := fun K => eqO (PySem.W.findIn K (.ref (ga K x)) "__ne__") (some (some (.builtin "object.__ne__")))
theorem neB_ok {x : Str} {K : PySem.W.Frag} (h : neB x K = true) : PySem.W.findIn K (.ref (ga K x)) "__ne__" = some (some (.builtin "object.__ne__")) := eqO_ok h
def fnB (x m : Str) : Fact := fun K => PySem.W.fnIn K (ma K (ga K x) m)
def kitB1 (t c : PySem.W.Frag → Value) (b : Bool) : Fact := fun K => decide (PySem.W.kitOne K (t K) (c K) = some b)
def kitA1 (t : PySem.W.Frag → Value) (cs : List Str) (b : Bool) : Fact := fun K => decide (PySem.W.kitAny K (t K) (cs.map fun x => .ref (ga K x)) = some b)
def fa_ (f : Fa) : Fact := fun K => f.ok K
end HP

set_option Elab.async false
set_option linter.all false
set_option maxRecDepth 100000
set_option maxHeartbeats 4000000
/-! the top's run in parts: the looks by themselves, the facts group by group -/
namespace HP
open PySem PySem.Spec PyProof.Rows L2 He HandSHeadRun PySem.W
/-- the facts over a written list of addresses -/
def obsL (as : List Addr) (fa : List Fact) (fn : List DefA) (g : Addr → Option Obj) : Al := obsA fa fn (frG g as)
def hookL (as : List Addr) (fa : List Fact) (fn : List DefA) : PySem.W.Hook where
  α := Al
  obs := fun s => obsL as fa fn s.heap.get?
  val := fun _ => wantA fn
  says := fun _ h => ∃ K : PySem.W.Frag, K.In h ∧ SaysA fa fn K
  of := fun _ _ e => ⟨_, frG_in, ⟨e⟩⟩
  keeps := fun _ _ _ ⟨K, hK, c⟩ k => ⟨K, PySem.W.Frag.In.keeps hK k, c⟩
theorem obsL_eq {as : List Addr} {fa : List Fact} {fn : List DefA} {g : Addr → Option Obj} {s : Shared} (h : ∀ a, g a = s.heap.get? a) : obsL as fa fn g = (hookL as fa fn).obs s := by
  rw [show g = s.heap.get? from funext h] <;> rfl
/-- the looks -/
def BaseEq (r : OpenRow) (q : Program) (M : Nat) (loose : List PySem.Str) (w : World) : Prop :=
  ∀ os : OsState, (endF (stepQ (denQ tabQ) r.prog w) M r.prog w os).map (fun s => (looksF r.prog (boot_heap w.params) s.abs, seenQ q loose (importedModules r.prog.main.body) (fun s => xlAt q [] s && recOk r.toRowW.records s) s.abs)) = some (true, openGood q loose)
/-- a group of facts -/
def PartEq (r : OpenRow) (M : Nat) (as : List Addr) (fa : List Fact) (fn : List DefA) (w : World) : Prop :=
  ∀ os : OsState, (endF (stepQ (denQ tabQ) r.prog w) M r.prog w os).map (fun s => obsL as fa fn (getT s)) = some (wantA fn)
theorem obsA_app {fa fa' : List Fact} {fn fn' : List DefA} {K : Frag} (h : obsA fa fn K = wantA fn) (h' : obsA fa' fn' K = wantA fn') : obsA (fa ++ fa') (fn ++ fn') K = wantA (fn ++ fn') := by
  unfold obsA wantA at *
  simp only [Prod.mk.injEq] at h h'
  obtain ⟨h1, h2⟩ := h
  obtain ⟨h3, h4⟩ := h'
  obtain ⟨a1, a2⟩ := ba h1
  obtain ⟨b1, b2⟩ := ba h3
  rw [List.all_append, List.all_append, List.map_append, List.map_append, h2, h4, a1, a2, b1, b2]
  rfl
theorem PartEq.app {r : OpenRow} {M : Nat} {as : List Addr} {fa fa' : List Fact} {fn fn' : List DefA} {w : World} (h : PartEq r M as fa fn w) (h' : PartEq r M as fa' fn' w) : PartEq r M as (fa ++ fa') (fn ++ fn') w := by
  intro os
  have e := h os
  have e' := h' os
  cases q : endF (stepQ (denQ tabQ) r.prog w) M r.prog w os with
  | none => rw [q] at e; cases e
  | some s =>
    rw [q] at e e'
    have e1 : obsL as fa fn (getT s) = wantA fn := Option.some.inj e
    have e2 : obsL as fa' fn' (getT s) = wantA fn' := Option.some.inj e'
    show some (obsL as (fa ++ fa') (fn ++ fn') (getT s)) = _
    exact congrArg some (obsA_app e1 e2)
theorem run_join {r : OpenRow} {q : Program} {M : Nat} {as : List Addr} {loose : List PySem.Str} {fa : List Fact} {fn : List DefA} {w : World} (h0 : BaseEq r q M loose w) (h : PartEq r M as fa fn w) :
    RunEq r q (hookL as fa fn) (fun s => obsL as fa fn (getT s)) M loose w := by
  intro os
  have e0 := h0 os
  have e := h os
  cases z : endF (stepQ (denQ tabQ) r.prog w) M r.prog w os with
  | none => rw [z] at e; cases e
  | some s =>
    rw [z] at e0 e
    have e1 := Option.some.inj e0
    have e2 : obsL as fa fn (getT s) = wantA fn := Option.some.inj e
    simp only [Prod.mk.injEq] at e1
    exact congrArg some (Prod.ext e1.1 (Prod.ext e1.2 e2))
end HP
namespace HP
open PySem PySem.Spec PyProof.Rows L2 He HandSHeadRun PySem.W
/-- what isinstance asks of a caught exception's class -/
def excCB (x : Str) : Fact := fun K => eqO (findIn K (.ref (ga K x)) "__getattribute__") (some (some (.builtin "BaseException.__getattribute__"))) && (eqO (findIn K (.ref (ga K x)) "__getattr__") (some none) && (decide (subIn K (.ref (ga K x)) (.type "BaseException") = some true) && (hasDictIn K (ga K x) &&
  (eqO (findIn K (.ref (ga K x)) "__class__") (some (some (.builtin "object.__class__"))) && (eqO (specialIn K (.builtin "object.__class__") "__get__") (some (some (.builtin "getset_descriptor.__get__"))) && (decide (takesIn K (.builtin "object.__class__") = some true) && decide (mroIn K (ga K x) (.type "object") = some true)))))))
theorem excCB_ok {x : Str} {K : Frag} (h : excCB x K = true) : ExcC K (ga K x) := by
  obtain ⟨h1, h⟩ := ba h
  obtain ⟨h2, h⟩ := ba h
  obtain ⟨h3, h⟩ := ba h
  obtain ⟨h4, h⟩ := ba h
  obtain ⟨h5, h⟩ := ba h
  obtain ⟨h6, h⟩ := ba h
  obtain ⟨h7, h8⟩ := ba h
  exact ⟨eqO_ok h1, eqO_ok h2, of_decide_eq_true h3, h4, eqO_ok h5, eqO_ok h6, of_decide_eq_true h7, of_decide_eq_true h8⟩
end HP

set_option Elab.async false
set_option linter.all false
set_option maxRecDepth 100000
set_option maxHeartbeats 4000000
/-! an instance called, by its own __call__; x != y by an own __eq__ -/
namespace PySem.W
open PySem PySem.Spec PySem.Calls PyProof.Rows
theorem rt_callInst {M : Model} {A : Around} {E : Value → Shared → Prop} {s : Shared} {pos : Pos} {x C : Addr} {Q : Value → Shared → Prop} {args : List (Bool × Sem Value)} (plain : (args.any (·.1) || ([] : List (Option Str × Sem Value)).any (·.1.isNone)) = false)
    (h : wpAny M A (evalArgs (.ref x) true args []) (fun a s1 => (∃ ox od, InstAt s1.heap x ox C od ∧ ox.data = .plain) ∧ wpAny M A (call (.ref x) ([] ++ a.pos) a.kw) Q E s1) E s) : wpAny M A (callWith pos (.ref x) [] args []) Q E s := by
  unfold callWith
  refine wpAny_bind (wpAny_holding (wpAny_mono h (fun a s1 h1 => wpAny_bind (wpAny_standAt ?_)) fun _ _ y => y))
  obtain ⟨⟨ox, od, I, hd⟩, go⟩ := h1
  have L := kco_keeper (M := M) I hd
  simp only [plain]
  refine wpAny_bind (L.here (wpAny_bind (wpAny_mono (wpAny_operateT go) (fun r s2 hr => wpAny_bind (wpAny_holding (wpAny_point (wpAny_pure hr)))) fun _ _ y => y)))
/-- x != b where the class has its own __eq__ and object's __ne__: what __eq__ says, turned -/
theorem rt_ne {prog : Program} {w : World} {A : Around} {E : Value → Shared → Prop} {s : Shared} {K : Frag} {x C f : Addr} {ox : Obj} {od : Option Obj} {b tb : Value} {Q : Value → Shared → Prop} (hu : A.units + 1 < cLine) (X : K.In s.heap) (I : InstAt s.heap x ox C od)
    (hb : Looks (model prog w) s.heap (typeOf b) tb) (hn : notFirst K C tb = true) (ne : findIn K (.ref C) "__ne__" = some (some (.builtin "object.__ne__"))) (hm : mroIn K C (.type "object") = some true)
    (eq : findIn K (.ref C) "__eq__" = some (some (.ref f))) (fn : isFn K (.ref f) = true) (h : wpAny (model prog w) A.in1 (call (.ref f) [.ref x, b]) (fun r s' => ∃ k, r = .bool k ∧ Q (.bool (!k)) s') E s) :
    wpAny (model prog w) A (richCompare .NotEq (.ref x) b) Q E s := by
  have inst : Looks (model prog w) s.heap (isInstance (.ref x) (.type "object")) true := I.type.andThen (looks_mroIn X hm)
  have body : wpAny (model prog w) A (call (.builtin "object.__ne__") [.ref x, b]) (fun r s' => ∃ k, r = .bool k ∧ Q (.bool k) s') E s := by
    refine wpAny_call (codeAny_call_builtin F.cmp_object.ne.plain F.cmpEntry_ne (check_slot (owner := "object") (n := "__ne__") F.cmpKind_ne F.cmpSplit_ne inst (F.cmpArgs_ne _ _) ?_))
    unfold Builtin.«object.__ne__»
    refine wpAny_bind (wpAny_of_eq (a := ((Value.ref x : Value), [b])) (by first | rfl | (simp only [slotArgs]; rfl)) ?_)
    refine wpAny_bind (wpAny_cRoomFor hu ?_)
    refine wpAny_bind (ifBound_K X I eq fn (wpAny_mono h (fun r s' z => ?_) fun _ _ z => z))
    obtain ⟨k, rfl, q⟩ := z
    exact wpAny_bind (wpAny_truthy_bool (wpAny_pure ⟨!k, rfl, q⟩))
  have one : wpAny (model prog w) A (tryCompare (.ref x) "__ne__" b) (fun r s' => ∃ v, r = some v ∧ Q v s') E s := by
    unfold tryCompare
    refine wpAny_bind ?_
    simp only [callSpecialIfBound?, bindSpecialIfBound?]
    refine wpAny_holding (wpAny_bind (wpAny_bind (wpAny_bind (I.type.here ((looks_findIn X ne).here ?_)))))
    simp only [F.cmp_object.ne.bind]
    refine wpAny_bind (wpAny_askSetting (wpAny_ite ?_))
    have last : wpAny (model prog w) A (call (.builtin "object.__ne__") ([.ref x] ++ [b]) >>= fun v => pure (some v)) (fun r s' => wpAny (model prog w) A (match r with
        | some .notImplemented | none => pure none
        | some v => pure (some v)) (fun r s' => ∃ v, r = some v ∧ Q v s') E s') E s := by
      refine wpAny_bind (wpAny_mono body (fun r s' z => ?_) fun _ _ z => z)
      obtain ⟨k, rfl, q⟩ := z
      exact wpAny_pure (wpAny_pure ⟨_, rfl, q⟩)
    split
    · exact wpAny_bind (wpAny_pure (wpAny_pure last))
    · exact wpAny_tryCatch (wpAny_bind (wpAny_pure (wpAny_pure last)))
  unfold richCompare
  simp only [oneThing_ref]
  refine wpAny_holding (wpAny_bind (wpAny_cRoomFor (by omega) ?_))
  refine wpAny_bind (I.type.here (wpAny_bind (hb.here ?_)))
  have out : ∀ {g : Option Value → Sem Value}, (∀ v, g (some v) = pure v) → wpAny (model prog w) A (tryCompare (.ref x) "__ne__" b >>= g) Q E s := fun {g} hg => wpAny_bind (wpAny_mono one (fun r s' z => by
    obtain ⟨v, rfl, q⟩ := z
    rw [hg]
    exact wpAny_pure q) fun _ _ z => z)
  split
  · rename_i q
    have e : subIn K tb (.ref C) = some false := by
      rcases Bool.or_eq_true_iff.mp hn with e | e
      · rw [beq_iff_eq.mp e] at q
        simp at q
      · exact beq_iff_eq.mp e
    refine wpAny_bind ((looks_subIn X e).here ?_)
    simp only [Bool.false_eq_true, if_false]
    exact out fun v => rfl
  · refine wpAny_bind (wpAny_pure ?_)
    simp only [Bool.false_eq_true, if_false]
    exact out fun v => rfl
end PySem.W
namespace RT
open PySem PySem.Spec PyProof.Rows L2
section
variable {X : Cx} {CX : CXT} {k i : Nat} {C f : Addr} {fd : FuncData} {ps : List Str} {sp : Sp} {E : XK} {x : Str} {p pos : Pos} {e : Expr} {es : List Expr} {t : TA}
/-- x(e, ..), x a local name that holds an instance of the class at C -/
def tCallO (i : Nat) (C : Addr) (sp : Sp) (E : XK) (t : TA) : TE := fun σ H Q => ∃ a, σ[i]? = some (some (.ref a)) ∧ t σ H fun vs H1 => (∃ dx fs, H1 a = some (.ins C dx fs)) ∧ sp (.ref a :: vs) H1 Q E
theorem pe_callO (hm : Meth X.K C "__call__" f) (hfn : PySem.W.fnIn X.K f = true) (F : FnOk X.prog X.w X.K X.mg X.base CX k f fd ps sp) (hr : Room k X.A) (hN : X.N[i]? = some x) (hv : Vis X.env.scope x) (hb : Binds X.K fd ps []) (hx : Passes CX X E) (ha : PA X (e :: es) t)
    (hdb : (x == ("__debug__" : Str)) = false := by decide) (hcd : (x == ("__classdict__" : Str)) = false := by decide)
    (he : starEach (e :: es) X.env = (false, eval e X.env) :: starEach es X.env := by rfl) (hpl : (backTo pos (starEach es X.env)).any (·.1) = false := by rfl) : PE X (.Call (.Name x p) (e :: es) [] pos) (tCallO i C sp E t) := by
  refine ⟨fun pins s σ H Q I h => ?_⟩
  obtain ⟨a, at_, ht⟩ := h
  refine wpAny_Call_Name_kw (thn ((pe_var (pos := p) hN hv hdb hcd).run pins s σ H (fun v H1 => v = .ref a ∧ H1 = H) I ⟨.ref a, at_, rfl, rfl⟩) fun u s1 ⟨v, H1, I1, r1, q1⟩ => ?_)
  obtain ⟨rfl, rfl⟩ := q1
  cases (show u = Value.ref a from r1)
  rw [he]
  refine PySem.W.rt_callInst (C := C) (by show ((false || (backTo pos (starEach es X.env)).any (·.1)) || false) = false; rw [hpl]; rfl) (Calls.evalArgs_plain ?_)
  have ha' : wpAny (model X.prog X.w) X.A (spliced (backTo pos (starEach (e :: es) X.env))) (AP X pins σ _) X.xe s1 := ha.run pos pins s1 σ _ _ I1 ht
  rw [he] at ha'
  refine thn ha' fun us s2 ⟨vs, H2, I2, r, ⟨dx, fs, ea⟩, q⟩ => ?_
  obtain ⟨mA, O, _⟩ := ins_get I2.hok ea
  obtain ⟨od, J, _⟩ := O.look
  refine ⟨⟨_, some od, J, rfl⟩, ?_⟩
  have r2 : Vals (.ref a :: vs) (.ref a :: us) := .cons rfl r
  have hl : (Value.ref a :: us).length = ps.length := r2.length.symm.trans (F.len _ _ _ _ q)
  have bd := hb s2 (.ref a :: us) I2.kIn (by simpa using hl)
  rw [List.append_nil] at bd
  refine wpAny_call (PySem.W.kco_code I2.kIn J rfl hm.at_ hm.fn hfn (codeAny_mono (F.run X.A X.stack s2 H2 ⟨.ref a :: us, []⟩ (.ref a :: us) (.ref a :: vs) Q E hr I2.env0 bd r2 q) fun r s' hq => ?_))
  match r, hq with
  | .error e, hq => exact hx pins σ H2 s2 e s' I2 hq
  | .ok (.ret u), hq => exact I2.after hq
/-- x != y by x's own __eq__ -/
def rNeO (K : PySem.W.Frag) (C : Addr) (sp : Sp) (E : XK) : R2 := fun x y H Q => ∃ a dx fs t, x = .ref a ∧ H a = some (.ins C dx fs) ∧ ((∃ b dy gs, y = .ref b ∧ H b = some (.ins C dy gs) ∧ t = .ref C) ∨ TyY K H y t) ∧ PySem.W.notFirst K C t = true ∧
  sp [x, y] H (fun v H' => ∃ k, v = .bl k ∧ Q (.bl (!k)) H') E
theorem op_neO (hne : PySem.W.findIn X.K (.ref C) "__ne__" = some (some (.builtin "object.__ne__"))) (hmr : PySem.W.mroIn X.K C (.type "object") = some true) (hm : Meth X.K C "__eq__" f) (F : FnOk X.prog X.w X.K X.mg X.base CX k f fd ps sp) (hr : Room (k + 1) X.A) (hb : Binds X.K fd ps []) (hx : Passes CX X E) :
    OpR X (compareOp .NotEq) (rNeO X.K C sp E) := by
  intro pins s σ H x y v u Q I rx ry h
  obtain ⟨a, dx, fs, t, rfl, ea, ty, hn, q⟩ := h
  cases (show v = Value.ref a from rx)
  obtain ⟨mA, O, _⟩ := ins_get I.hok ea
  obtain ⟨od, J, _⟩ := O.look
  have L : PySem.W.Looks (model X.prog X.w) s.heap (typeOf u) t := by
    rcases ty with ⟨b, dy, gs, rfl, eb, rfl⟩ | ty
    · cases (show u = Value.ref b from ry)
      obtain ⟨mB, O', _⟩ := ins_get I.hok eb
      obtain ⟨od', J', _⟩ := O'.look
      exact J'.type
    · obtain ⟨P, Z, p, _⟩ := kit_ofY I ry ty
      exact Z.ty _ _ I.kIn p
  show wpAny _ _ (richCompare .NotEq (.ref a) u) _ _ _
  have r2 : Vals [V.ref a, y] [Value.ref a, u] := .cons rfl (.cons ry .nil)
  have hl : ([Value.ref a, u] : List Value).length = ps.length := r2.length.symm.trans (F.len _ _ _ _ q)
  have bd := hb s [.ref a, u] I.kIn (by simpa using hl)
  rw [List.append_nil] at bd
  refine PySem.W.rt_ne (tb := t) (by have := hr.units; omega) I.kIn J L hn hne hmr hm.at_ hm.fn (wpAny_call (codeAny_mono (F.run X.A.in1 X.stack s H ⟨[.ref a, u], []⟩ [.ref a, u] [.ref a, y] _ E hr.in1 I.env0.in1 bd r2 q) fun r s' hq => ?_))
  match r, hq with
  | .error e, hq => exact hx pins σ H s e s' I hq
  | .ok (.ret z), hq =>
    obtain ⟨v, H', I', rv, b, rfl, qz⟩ := I.after hq
    cases (show z = Value.bool b from rv)
    exact ⟨b, rfl, .bl (!b), H', I', rfl, qz⟩
end
end RT

set_option Elab.async false
set_option linter.all false
set_option maxRecDepth 100000
set_option maxHeartbeats 4000000
/-! d.get(k, x) of a written dict with text keys; a head with such tables, and keyword defaults that are objects -/
namespace RT
open PySem PySem.Spec PyProof.Rows L2
def tKGet2 (K : PySem.W.Frag) (w : World) (td ty tx : TE) : TE := fun σ H Q => td σ H fun x H1 => ∃ (d : Addr) (es : Array DictEntry) (n : Nat), x = .ref d ∧ KDict K w d es n ∧ ty σ H1 fun y H2 => tx σ H2 fun z H3 =>
  ∃ k : Str, y = .str k ∧ ((PySem.W.nsIn K d k = some none ∧ Q z H3) ∨ ∃ (u : Value) (v : V), PySem.W.nsIn K d k = some (some u) ∧ RelV v u ∧ Q v H3)
section
variable {X : Cx} {o e f : Expr} {apos cpos : Pos} {td ty tx : TE}
theorem pe_kget2 (ho : PE X o td) (he : PE X e ty) (hf : PE X f tx) (m : M2 X o "get" apos e f cpos) : PE X (.Call (.Attribute o "get" apos) [e, f] [] cpos) (tKGet2 X.K X.w td ty tx) := by
  refine ⟨fun pins s σ H Q I h => ?_⟩
  refine wpAny_Call_method m.base m.few m.line PySem.F.plainAttrs_dict PySem.F.slot_dict_get PySem.F.type_dict_get (thn (ho.run pins s σ H _ I h) fun u s1 ⟨x, H1, I1, rx, d, es, n, ex, D, q1⟩ => ?_)
  subst ex
  obtain rfl : u = Value.ref d := rx
  refine ⟨kd_type D I1, fun b q => ?_, ?_⟩
  · cases q
    exact ⟨_, I1.kIn _ _ D.at_, rfl⟩
  rw [m.trees]
  refine Calls.callWith_builtin rfl (Calls.evalArgs_plain (Calls.spliced_cons (thn (he.run pins s1 σ H1 _ I1 q1) fun iv s2 ⟨y, H2, I2, ry, q2⟩ =>
    Calls.spliced_cons (thn (hf.run pins s2 σ H2 _ I2 q2) fun fv s3 ⟨z, H3, I3, rz, k, ey, q3⟩ => Calls.spliced_nil ?_))))
  subst ey
  obtain ⟨t, rfl⟩ := ry
  have hm := PySem.W.mapOf_K (prog := X.prog) (w := X.w) I3.kIn D.at_ D.lit
  refine call_meetsIn PySem.F.slot_dict_get hm.typeIs PySem.F.entry_dict_get (PySem.F.args_dict_get_3 _ _ _) (meets_dict_get_default (strKind X.prog X.w) d (PySem.strKind_is X.prog X.w k t) D.low fv) ⟨_, hm, ?_⟩
  rcases q3 with ⟨e1, q⟩ | ⟨u0, v0, e1, r1, q⟩
  · rw [PySem.W.find_K D.at_ e1]
    exact ⟨z, H3, I3.tok _, rz, q⟩
  · rw [PySem.W.find_K D.at_ e1]
    exact ⟨v0, H3, I3.tok _, r1, q⟩
end
end RT
namespace HQ
open PySem PySem.Spec PyProof.Rows L2 He HP
/-- a keyword default that is an object -/
def kwAt (f : Str) (x : Str) (K : PySem.W.Frag) : Addr := match K.lookup (fAd K (f, none)) with
  | some ⟨_, _, .func fd, _⟩ => (match fd.kwdefaults with
    | .ref D => (match PySem.W.nsIn K D x with
      | some (some (.ref a)) => a
      | _ => 0)
    | _ => 0)
  | _ => 0
def tupAt (p : PySem.W.Frag → Addr) (xs : List V) : Fact := fun K => match K.lookup (p K) with
  | some o => eqO (some (some o.cls)) (some (some (.type "tuple"))) && (match o.data with
    | .seq its _ => decide (its.toList.map flatOf = xs.map some) && decide (its.size ≤ sizeLine)
    | _ => false)
  | none => false
theorem tupAt_ok {p : PySem.W.Frag → Addr} {xs : List V} {K : PySem.W.Frag} (h : tupAt p xs K = true) : ∀ H : Hp, SqT K H (p K) xs := by
  intro H
  unfold tupAt at h
  split at h
  · rename_i o e
    obtain ⟨h1, h2⟩ := ba h
    split at h2
    · rename_i its n ed
      obtain ⟨h3, h4⟩ := ba h2
      exact .inr ⟨o, its, n, e, Option.some.inj (Option.some.inj (eqO_ok h1)), ed, of_decide_eq_true h4, flats_ok (of_decide_eq_true h3)⟩
    · cases h2
  · cases h
/-- what stands at a key of a table of the top -/
def nsAt (x : Str) (k : Str) (K : PySem.W.Frag) : Option (Option Value) := PySem.W.nsIn K (ga K x) k
def missB (x k : Str) : Fact := fun K => decide (nsAt x k K = some none)
def hasB (x k : Str) (v : Dv) : Fact := fun K => match nsAt x k K with
  | some (some u) => relB (v.v K) u
  | _ => false
theorem hasB_ok {x k : Str} {v : Dv} {K : PySem.W.Frag} (h : hasB x k v K = true) : ∃ u, PySem.W.nsIn K (ga K x) k = some (some u) ∧ RelV (v.v K) u := by
  unfold hasB nsAt at h
  split at h
  · rename_i u e
    exact ⟨u, e, relB_ok h⟩
  · cases h
/-- the value of a table at a key, if it is an object -/
def valAt (x k : Str) (K : PySem.W.Frag) : Addr := match nsAt x k K with
  | some (some (.ref a)) => a
  | _ => 0
abbrev AlQ := HP.Al × List (Option (List (Option (Str × Int))))
def obsQ (fa : List Fact) (fn : List DefA) (ts : List Tab) (K : PySem.W.Frag) : AlQ := (obsA fa fn K, ts.map fun t => dicW K (t.1 K))
def valQ (fn : List DefA) (ts : List Tab) (w : World) : AlQ := (wantA fn, ts.map fun t => some (keysIn w.params t.2))
def obsQG (n : Nat) (fa : List Fact) (fn : List DefA) (ts : List Tab) (g : Addr → Option Obj) : AlQ := obsQ fa fn ts (frG g (asD g n))
structure SaysQ (fa : List Fact) (fn : List DefA) (ts : List Tab) (w : World) (K : PySem.W.Frag) : Prop where
  eq : obsQ fa fn ts K = valQ fn ts w
def hookQ (n : Nat) (fa : List Fact) (fn : List DefA) (ts : List Tab) : PySem.W.Hook where
  α := AlQ
  obs := fun s => obsQG n fa fn ts s.heap.get?
  val := fun w => valQ fn ts w
  says := fun w h => ∃ K : PySem.W.Frag, K.In h ∧ SaysQ fa fn ts w K
  of := fun _ _ e => ⟨_, frG_in, ⟨e⟩⟩
  keeps := fun _ _ _ ⟨K, hK, c⟩ k => ⟨K, PySem.W.Frag.In.keeps hK k, c⟩
theorem obsQG_eq {n : Nat} {fa : List Fact} {fn : List DefA} {ts : List Tab} {g : Addr → Option Obj} {s : Shared} (h : ∀ a, g a = s.heap.get? a) : obsQG n fa fn ts g = (hookQ n fa fn ts).obs s := by
  rw [show g = s.heap.get? from funext h] <;> rfl
section
variable {fa : List Fact} {fn : List DefA} {ts : List Tab} {w : World} {K : PySem.W.Frag}
theorem SaysQ.a (c : SaysQ fa fn ts w K) : SaysA fa fn K := ⟨congrArg (fun z : AlQ => z.1) c.eq⟩
theorem SaysQ.tab (c : SaysQ fa fn ts w K) (i : Nat) {t : Tab} (h : ts[i]? = some t := by rfl) : ∃ es n, KDict K w (t.1 K) es n := by
  have e : ts.map (fun t => dicW K (t.1 K)) = ts.map fun t => some (keysIn w.params t.2) := congrArg (fun z : AlQ => z.2) c.eq
  have e2 : (ts.map fun t => dicW K (t.1 K))[i]? = (ts.map fun t => some (keysIn w.params t.2))[i]? := by rw [e]
  rw [List.getElem?_map, List.getElem?_map, h] at e2
  exact dicW_ok (Option.some.inj e2)
end
end HQ

set_option Elab.async false
set_option linter.all false
set_option maxRecDepth 100000
set_option maxHeartbeats 4000000
/-! the run in parts, with tables -/
namespace HQ
open PySem PySem.Spec PyProof.Rows L2 He HP HandSHeadRun PySem.W
def obsLQ (as : List Addr) (fa : List Fact) (fn : List DefA) (ts : List Tab) (g : Addr → Option Obj) : AlQ := obsQ fa fn ts (frG g as)
def hookLQ (as : List Addr) (fa : List Fact) (fn : List DefA) (ts : List Tab) : PySem.W.Hook where
  α := AlQ
  obs := fun s => obsLQ as fa fn ts s.heap.get?
  val := fun w => valQ fn ts w
  says := fun w h => ∃ K : PySem.W.Frag, K.In h ∧ SaysQ fa fn ts w K
  of := fun _ _ e => ⟨_, frG_in, ⟨e⟩⟩
  keeps := fun _ _ _ ⟨K, hK, c⟩ k => ⟨K, PySem.W.Frag.In.keeps hK k, c⟩
theorem obsLQ_eq {as : List Addr} {fa : List Fact} {fn : List DefA} {ts : List Tab} {g : Addr → Option Obj} {s : Shared} (h : ∀ a, g a = s.heap.get? a) : obsLQ as fa fn ts g = (hookLQ as fa fn ts).obs s := by
  rw [show g = s.heap.get? from funext h] <;> rfl
def TabEq (r : OpenRow) (M : Nat) (as : List Addr) (ts : List Tab) (w : World) : Prop :=
  ∀ os : OsState, (endF (stepQ (denQ tabQ) r.prog w) M r.prog w os).map (fun s => ts.map fun t => dicW (frG (getT s) as) (t.1 (frG (getT s) as))) = some (ts.map fun t => some (keysIn w.params t.2))
theorem run_joinQ {r : OpenRow} {q : Program} {M : Nat} {as : List Addr} {loose : List PySem.Str} {fa : List Fact} {fn : List DefA} {ts : List Tab} {w : World} (h0 : BaseEq r q M loose w) (h : PartEq r M as fa fn w) (ht : TabEq r M as ts w) :
    RunEq r q (hookLQ as fa fn ts) (fun s => obsLQ as fa fn ts (getT s)) M loose w := by
  intro os
  have e0 := h0 os
  have e := h os
  have et := ht os
  cases z : endF (stepQ (denQ tabQ) r.prog w) M r.prog w os with
  | none => rw [z] at e; cases e
  | some s =>
    rw [z] at e0 e et
    have e1 := Option.some.inj e0
    have e2 : obsL as fa fn (getT s) = wantA fn := Option.some.inj e
    have e3 := Option.some.inj et
    simp only [Prod.mk.injEq] at e1
    exact congrArg some (Prod.ext e1.1 (Prod.ext e1.2 (Prod.ext e2 e3)))
end HQ

set_option Elab.async false
set_option linter.all false
set_option maxRecDepth 100000
set_option maxHeartbeats 4000000
namespace K15
open PySem PySem.Spec PyProof.Rows L2 RT
def top (i : Nat) : Stmt := PySem.Challenge.pw_plotpens_k15_motions_of_endless_programs.main.body.getD i (.Pass ⟨0, 0, 0, 0⟩)
abbrev sInvalidText_init : Stmt := inClass (top 2) 0
abbrev sTooDeep_init : Stmt := inClass (top 3) 0
abbrev sTooLarge_init : Stmt := inClass (top 4) 0
abbrev sis_integer : Stmt := top 14
abbrev sis_integer_within : Stmt := top 15
abbrev sis_tuple_of : Stmt := top 16
abbrev sis_point : Stmt := top 17
abbrev sis_pose : Stmt := top 18
abbrev sis_decimal : Stmt := top 19
abbrev scheck_times : Stmt := top 20
abbrev scheck_pose : Stmt := top 21
abbrev swords_of : Stmt := top 28
abbrev sis_letter : Stmt := top 29
abbrev snumber_of : Stmt := top 30
abbrev swrong_word : Stmt := top 31
abbrev smirrored : Stmt := top 32
abbrev sbackward : Stmt := top 33
abbrev s_is_counted : Stmt := top 34
abbrev s_is_number : Stmt := top 35
abbrev sPart_init : Stmt := inClass (top 37) 0
abbrev ssize_of : Stmt := top 38
abbrev slevels_of : Stmt := top 39
abbrev sparts_of_words : Stmt := top 40
abbrev s_parts_from : Stmt := top 41
abbrev scount_in : Stmt := top 42
abbrev sProgram_init : Stmt := inClass (top 44) 0
abbrev sProgram_text : Stmt := inClass (top 44) 1
abbrev sProgram_length : Stmt := inClass (top 44) 2
abbrev sProgram_depth : Stmt := inClass (top 44) 3
abbrev sProgram_len : Stmt := inClass (top 44) 4
abbrev sProgram_eq : Stmt := inClass (top 44) 5
abbrev sProgram_contains : Stmt := inClass (top 44) 6
abbrev sProgram_add : Stmt := inClass (top 44) 7
abbrev sProgram_mul : Stmt := inClass (top 44) 8
abbrev sProgram_neg : Stmt := inClass (top 44) 9
abbrev sProgram_invert : Stmt := inClass (top 44) 10
abbrev scheck_text : Stmt := top 45
abbrev scheck_program : Stmt := top 46
abbrev scheck_index : Stmt := top 47
abbrev sMotion_init : Stmt := inClass (top 51) 0
abbrev sMotion_turn : Stmt := inClass (top 51) 1
abbrev sMotion_shift : Stmt := inClass (top 51) 2
abbrev sMotion_call : Stmt := inClass (top 51) 3
abbrev sMotion_eq : Stmt := inClass (top 51) 4
abbrev sMotion_add : Stmt := inClass (top 51) 5
abbrev sMotion_mul : Stmt := inClass (top 51) 6
abbrev sMotion_neg : Stmt := inClass (top 51) 7
abbrev sMotion_order : Stmt := inClass (top 51) 8
abbrev smotion_of : Stmt := top 52
abbrev spose_after : Stmt := top 53
abbrev smotion_of_letter : Stmt := top 54
abbrev sturned_point : Stmt := top 55
abbrev scheck_motion : Stmt := top 56
abbrev s_motion_until : Stmt := top 57
abbrev s_motion_in_part : Stmt := top 58
abbrev s_law_tank : Stmt := top 60
abbrev s_law_dip : Stmt := top 61
abbrev s_law_made : Stmt := top 62
abbrev s_law_poses : Stmt := top 63
abbrev s_law_start : Stmt := top 64
abbrev s_law_motion : Stmt := top 65
abbrev s_law_led : Stmt := top 66
abbrev s_law_right : Stmt := top 67
abbrev slaw : Stmt := top 68
abbrev NInvalidText_init : List Str := ["self", "index"]
theorem scInvalidText_init : FnScope NInvalidText_init ["self", "index"] (defScope sInvalidText_init) := ⟨rfl, rfl, rfl, by decide +kernel, rfl, by decide +kernel, by decide +kernel⟩
abbrev NTooDeep_init : List Str := ["self", "limit"]
theorem scTooDeep_init : FnScope NTooDeep_init ["self", "limit"] (defScope sTooDeep_init) := ⟨rfl, rfl, rfl, by decide +kernel, rfl, by decide +kernel, by decide +kernel⟩
abbrev NTooLarge_init : List Str := ["self", "limit"]
theorem scTooLarge_init : FnScope NTooLarge_init ["self", "limit"] (defScope sTooLarge_init) := ⟨rfl, rfl, rfl, by decide +kernel, rfl, by decide +kernel, by decide +kernel⟩
abbrev Nis_integer : List Str := ["value"]
theorem scis_integer : FnScope Nis_integer ["value"] (defScope sis_integer) := ⟨rfl, rfl, rfl, by decide +kernel, rfl, by decide +kernel, by decide +kernel⟩
abbrev Nis_integer_within : List Str := ["value", "least", "most"]
theorem scis_integer_within : FnScope Nis_integer_within ["value", "least", "most"] (defScope sis_integer_within) := ⟨rfl, rfl, rfl, by decide +kernel, rfl, by decide +kernel, by decide +kernel⟩
abbrev Nis_tuple_of : List Str := ["value", "many"]
theorem scis_tuple_of : FnScope Nis_tuple_of ["value", "many"] (defScope sis_tuple_of) := ⟨rfl, rfl, rfl, by decide +kernel, rfl, by decide +kernel, by decide +kernel⟩
abbrev Nis_point : List Str := ["value"]
theorem scis_point : FnScope Nis_point ["value"] (defScope sis_point) := ⟨rfl, rfl, rfl, by decide +kernel, rfl, by decide +kernel, by decide +kernel⟩
abbrev Nis_pose : List Str := ["value"]
theorem scis_pose : FnScope Nis_pose ["value"] (defScope sis_pose) := ⟨rfl, rfl, rfl, by decide +kernel, rfl, by decide +kernel, by decide +kernel⟩
abbrev Nis_decimal : List Str := ["word"]
theorem scis_decimal : FnScope Nis_decimal ["word"] (defScope sis_decimal) := ⟨rfl, rfl, rfl, by decide +kernel, rfl, by decide +kernel, by decide +kernel⟩
abbrev Ncheck_times : List Str := ["times"]
theorem sccheck_times : FnScope Ncheck_times ["times"] (defScope scheck_times) := ⟨rfl, rfl, rfl, by decide +kernel, rfl, by decide +kernel, by decide +kernel⟩
abbrev Ncheck_pose : List Str := ["pose"]
theorem sccheck_pose : FnScope Ncheck_pose ["pose"] (defScope scheck_pose) := ⟨rfl, rfl, rfl, by decide +kernel, rfl, by decide +kernel, by decide +kernel⟩
abbrev Nwords_of : List Str := ["text"]
theorem scwords_of : FnScope Nwords_of ["text"] (defScope swords_of) := ⟨rfl, rfl, rfl, by decide +kernel, rfl, by decide +kernel, by decide +kernel⟩
abbrev Nis_letter : List Str := ["value"]
theorem scis_letter : FnScope Nis_letter ["value"] (defScope sis_letter) := ⟨rfl, rfl, rfl, by decide +kernel, rfl, by decide +kernel, by decide +kernel⟩
abbrev Nnumber_of : List Str := ["word"]
theorem scnumber_of : FnScope Nnumber_of ["word"] (defScope snumber_of) := ⟨rfl, rfl, rfl, by decide +kernel, rfl, by decide +kernel, by decide +kernel⟩
abbrev Nwrong_word : List Str := ["words", "names", "depth", "at", "word", "opens", "closes", "needed"]
theorem scwrong_word : FnScope Nwrong_word ["words", "names"] (defScope swrong_word) := ⟨rfl, rfl, rfl, by decide +kernel, rfl, by decide +kernel, by decide +kernel⟩
abbrev Nmirrored : List Str := ["words"]
theorem scmirrored : FnScope Nmirrored ["words"] (defScope smirrored) := ⟨rfl, rfl, rfl, by decide +kernel, rfl, by decide +kernel, by decide +kernel⟩
abbrev Nbackward : List Str := ["words", "found", "numbers", "word"]
theorem scbackward : FnScope Nbackward ["words"] (defScope sbackward) := ⟨rfl, rfl, rfl, by decide +kernel, rfl, by decide +kernel, by decide +kernel⟩
abbrev N_is_counted : List Str := ["word"]
theorem sc_is_counted : FnScope N_is_counted ["word"] (defScope s_is_counted) := ⟨rfl, rfl, rfl, by decide +kernel, rfl, by decide +kernel, by decide +kernel⟩
abbrev N_is_number : List Str := ["digits"]
theorem sc_is_number : FnScope N_is_number ["digits"] (defScope s_is_number) := ⟨rfl, rfl, rfl, by decide +kernel, rfl, by decide +kernel, by decide +kernel⟩
abbrev NPart_init : List Str := ["self", "letter", "times", "inner"]
theorem scPart_init : FnScope NPart_init ["self", "letter", "times", "inner"] (defScope sPart_init) := ⟨rfl, rfl, rfl, by decide +kernel, rfl, by decide +kernel, by decide +kernel⟩
abbrev Nsize_of : List Str := ["parts"]
theorem scsize_of : FnScope Nsize_of ["parts"] (defScope ssize_of) := ⟨rfl, rfl, rfl, by decide +kernel, rfl, by decide +kernel, by decide +kernel⟩
abbrev Nlevels_of : List Str := ["parts"]
theorem sclevels_of : FnScope Nlevels_of ["parts"] (defScope slevels_of) := ⟨rfl, rfl, rfl, by decide +kernel, rfl, by decide +kernel, by decide +kernel⟩
abbrev Nparts_of_words : List Str := ["words", "parts", "_"]
theorem scparts_of_words : FnScope Nparts_of_words ["words"] (defScope sparts_of_words) := ⟨rfl, rfl, rfl, by decide +kernel, rfl, by decide +kernel, by decide +kernel⟩
abbrev N_parts_from : List Str := ["words", "start", "parts", "at", "inner"]
theorem sc_parts_from : FnScope N_parts_from ["words", "start"] (defScope s_parts_from) := ⟨rfl, rfl, rfl, by decide +kernel, rfl, by decide +kernel, by decide +kernel⟩
abbrev Ncount_in : List Str := ["parts", "letter", "total", "part", "once"]
theorem sccount_in : FnScope Ncount_in ["parts", "letter"] (defScope scount_in) := ⟨rfl, rfl, rfl, by decide +kernel, rfl, by decide +kernel, by decide +kernel⟩
abbrev NProgram_init : List Str := ["self", "text"]
theorem scProgram_init : FnScope NProgram_init ["self", "text"] (defScope sProgram_init) := ⟨rfl, rfl, rfl, by decide +kernel, rfl, by decide +kernel, by decide +kernel⟩
abbrev NProgram_text : List Str := ["self"]
theorem scProgram_text : FnScope NProgram_text ["self"] (defScope sProgram_text) := ⟨rfl, rfl, rfl, by decide +kernel, rfl, by decide +kernel, by decide +kernel⟩
abbrev NProgram_length : List Str := ["self"]
theorem scProgram_length : FnScope NProgram_length ["self"] (defScope sProgram_length) := ⟨rfl, rfl, rfl, by decide +kernel, rfl, by decide +kernel, by decide +kernel⟩
abbrev NProgram_depth : List Str := ["self"]
theorem scProgram_depth : FnScope NProgram_depth ["self"] (defScope sProgram_depth) := ⟨rfl, rfl, rfl, by decide +kernel, rfl, by decide +kernel, by decide +kernel⟩
abbrev NProgram_len : List Str := ["self"]
theorem scProgram_len : FnScope NProgram_len ["self"] (defScope sProgram_len) := ⟨rfl, rfl, rfl, by decide +kernel, rfl, by decide +kernel, by decide +kernel⟩
abbrev NProgram_eq : List Str := ["self", "other"]
theorem scProgram_eq : FnScope NProgram_eq ["self", "other"] (defScope sProgram_eq) := ⟨rfl, rfl, rfl, by decide +kernel, rfl, by decide +kernel, by decide +kernel⟩
abbrev NProgram_contains : List Str := ["self", "x"]
theorem scProgram_contains : FnScope NProgram_contains ["self", "x"] (defScope sProgram_contains) := ⟨rfl, rfl, rfl, by decide +kernel, rfl, by decide +kernel, by decide +kernel⟩
abbrev NProgram_add : List Str := ["self", "other"]
theorem scProgram_add : FnScope NProgram_add ["self", "other"] (defScope sProgram_add) := ⟨rfl, rfl, rfl, by decide +kernel, rfl, by decide +kernel, by decide +kernel⟩
abbrev NProgram_mul : List Str := ["self", "other"]
theorem scProgram_mul : FnScope NProgram_mul ["self", "other"] (defScope sProgram_mul) := ⟨rfl, rfl, rfl, by decide +kernel, rfl, by decide +kernel, by decide +kernel⟩
abbrev NProgram_neg : List Str := ["self"]
theorem scProgram_neg : FnScope NProgram_neg ["self"] (defScope sProgram_neg) := ⟨rfl, rfl, rfl, by decide +kernel, rfl, by decide +kernel, by decide +kernel⟩
abbrev NProgram_invert : List Str := ["self"]
theorem scProgram_invert : FnScope NProgram_invert ["self"] (defScope sProgram_invert) := ⟨rfl, rfl, rfl, by decide +kernel, rfl, by decide +kernel, by decide +kernel⟩
abbrev Ncheck_text : List Str := ["text", "wrong"]
theorem sccheck_text : FnScope Ncheck_text ["text"] (defScope scheck_text) := ⟨rfl, rfl, rfl, by decide +kernel, rfl, by decide +kernel, by decide +kernel⟩
abbrev Ncheck_program : List Str := ["program"]
theorem sccheck_program : FnScope Ncheck_program ["program"] (defScope scheck_program) := ⟨rfl, rfl, rfl, by decide +kernel, rfl, by decide +kernel, by decide +kernel⟩
abbrev Ncheck_index : List Str := ["index", "most"]
theorem sccheck_index : FnScope Ncheck_index ["index", "most"] (defScope scheck_index) := ⟨rfl, rfl, rfl, by decide +kernel, rfl, by decide +kernel, by decide +kernel⟩
abbrev NMotion_init : List Str := ["self", "turn", "dx", "dy"]
theorem scMotion_init : FnScope NMotion_init ["self", "turn", "dx", "dy"] (defScope sMotion_init) := ⟨rfl, rfl, rfl, by decide +kernel, rfl, by decide +kernel, by decide +kernel⟩
abbrev NMotion_turn : List Str := ["self"]
theorem scMotion_turn : FnScope NMotion_turn ["self"] (defScope sMotion_turn) := ⟨rfl, rfl, rfl, by decide +kernel, rfl, by decide +kernel, by decide +kernel⟩
abbrev NMotion_shift : List Str := ["self"]
theorem scMotion_shift : FnScope NMotion_shift ["self"] (defScope sMotion_shift) := ⟨rfl, rfl, rfl, by decide +kernel, rfl, by decide +kernel, by decide +kernel⟩
abbrev NMotion_call : List Str := ["self", "pose", "x", "y", "heading", "dx", "dy"]
theorem scMotion_call : FnScope NMotion_call ["self", "pose"] (defScope sMotion_call) := ⟨rfl, rfl, rfl, by decide +kernel, rfl, by decide +kernel, by decide +kernel⟩
abbrev NMotion_eq : List Str := ["self", "other"]
theorem scMotion_eq : FnScope NMotion_eq ["self", "other"] (defScope sMotion_eq) := ⟨rfl, rfl, rfl, by decide +kernel, rfl, by decide +kernel, by decide +kernel⟩
abbrev NMotion_add : List Str := ["self", "other", "x", "y", "dx", "dy"]
theorem scMotion_add : FnScope NMotion_add ["self", "other"] (defScope sMotion_add) := ⟨rfl, rfl, rfl, by decide +kernel, rfl, by decide +kernel, by decide +kernel⟩
abbrev NMotion_mul : List Str := ["self", "other", "dx", "dy", "found", "_"]
theorem scMotion_mul : FnScope NMotion_mul ["self", "other"] (defScope sMotion_mul) := ⟨rfl, rfl, rfl, by decide +kernel, rfl, by decide +kernel, by decide +kernel⟩
abbrev NMotion_neg : List Str := ["self", "turn", "dx", "dy"]
theorem scMotion_neg : FnScope NMotion_neg ["self"] (defScope sMotion_neg) := ⟨rfl, rfl, rfl, by decide +kernel, rfl, by decide +kernel, by decide +kernel⟩
abbrev NMotion_order : List Str := ["self"]
theorem scMotion_order : FnScope NMotion_order ["self"] (defScope sMotion_order) := ⟨rfl, rfl, rfl, by decide +kernel, rfl, by decide +kernel, by decide +kernel⟩
abbrev Nmotion_of : List Str := ["program"]
theorem scmotion_of : FnScope Nmotion_of ["program"] (defScope smotion_of) := ⟨rfl, rfl, rfl, by decide +kernel, rfl, by decide +kernel, by decide +kernel⟩
abbrev Npose_after : List Str := ["program", "index", "start", "motion"]
theorem scpose_after : FnScope Npose_after ["program", "index", "start"] (defScope spose_after) := ⟨rfl, rfl, rfl, by decide +kernel, rfl, by decide +kernel, by decide +kernel⟩
abbrev Nmotion_of_letter : List Str := ["letter", "dx", "dy"]
theorem scmotion_of_letter : FnScope Nmotion_of_letter ["letter"] (defScope smotion_of_letter) := ⟨rfl, rfl, rfl, by decide +kernel, rfl, by decide +kernel, by decide +kernel⟩
abbrev Nturned_point : List Str := ["point", "quarters", "x", "y", "_"]
theorem scturned_point : FnScope Nturned_point ["point", "quarters"] (defScope sturned_point) := ⟨rfl, rfl, rfl, by decide +kernel, rfl, by decide +kernel, by decide +kernel⟩
abbrev Ncheck_motion : List Str := ["motion"]
theorem sccheck_motion : FnScope Ncheck_motion ["motion"] (defScope scheck_motion) := ⟨rfl, rfl, rfl, by decide +kernel, rfl, by decide +kernel, by decide +kernel⟩
abbrev N_motion_until : List Str := ["parts", "index", "motion", "at", "part", "taken"]
theorem sc_motion_until : FnScope N_motion_until ["parts", "index"] (defScope s_motion_until) := ⟨rfl, rfl, rfl, by decide +kernel, rfl, by decide +kernel, by decide +kernel⟩
abbrev N_motion_in_part : List Str := ["part", "index", "whole"]
theorem sc_motion_in_part : FnScope N_motion_in_part ["part", "index"] (defScope s_motion_in_part) := ⟨rfl, rfl, rfl, by decide +kernel, rfl, by decide +kernel, by decide +kernel⟩
abbrev N_law_tank : List Str := ["script", "k", "cell"]
theorem sc_law_tank : FnScope N_law_tank ["script", "k"] (defScope s_law_tank) := ⟨rfl, rfl, rfl, by decide +kernel, rfl, by decide +kernel, by decide +kernel⟩
abbrev N_law_dip : List Str := ["tank", "bound", "found", "mixed"]
theorem sc_law_dip : FnScope N_law_dip ["tank", "bound"] (defScope s_law_dip) := ⟨rfl, rfl, rfl, by decide +kernel, rfl, by decide +kernel, by decide +kernel⟩
abbrev N_law_made : List Str := ["tank", "most", "words", "steps", "goal", "style", "pool", "turn", "letter", "way", "number", "inner", "part"]
theorem sc_law_made : FnScope N_law_made ["tank", "most"] (defScope s_law_made) := ⟨rfl, rfl, rfl, by decide +kernel, rfl, by decide +kernel, by decide +kernel⟩
abbrev N_law_poses : List Str := ["steps", "first", "x", "y", "heading", "found", "step", "sign"]
theorem sc_law_poses : FnScope N_law_poses ["steps", "first"] (defScope s_law_poses) := ⟨rfl, rfl, rfl, by decide +kernel, rfl, by decide +kernel, by decide +kernel⟩
abbrev N_law_start : List Str := ["tank", "far_off", "x", "y", "wide"]
theorem sc_law_start : FnScope N_law_start ["tank"] (defScope s_law_start) := ⟨rfl, rfl, rfl, by decide +kernel, rfl, by decide +kernel, by decide +kernel⟩
abbrev N_law_motion : List Str := ["steps", "x", "y", "heading"]
theorem sc_law_motion : FnScope N_law_motion ["steps"] (defScope s_law_motion) := ⟨rfl, rfl, rfl, by decide +kernel, rfl, by decide +kernel, by decide +kernel⟩
abbrev N_law_led : List Str := ["motion_here", "pose_here"]
theorem sc_law_led : FnScope N_law_led ["motion_here", "pose_here"] (defScope s_law_led) := ⟨rfl, rfl, rfl, by decide +kernel, rfl, by decide +kernel, by decide +kernel⟩
abbrev N_law_right : List Str := ["tank", "words", "steps", "front", "before", "behind", "later", "program", "motion", "length", "turn", "some", "many", "first", "whole", "rest", "inner", "wide", "due", "place"]
theorem sc_law_right : FnScope N_law_right ["tank"] (defScope s_law_right) := ⟨rfl, rfl, rfl, by decide +kernel, rfl, by decide +kernel, by decide +kernel⟩
abbrev Nlaw : List Str := ["script", "k", "stair"]
theorem sclaw : FnScope Nlaw ["script"] (defScope slaw) := ⟨rfl, rfl, rfl, by decide +kernel, rfl, by decide +kernel, by decide +kernel⟩
/-! ### the head -/
def dInvalidText_init : HP.DefA := ⟨fun K => He.fAd K ("InvalidText", some "__init__"), "__init__", "InvalidText.__init__", defArgs sInvalidText_init, defBody sInvalidText_init, defScope sInvalidText_init, [], []⟩
def dTooDeep_init : HP.DefA := ⟨fun K => He.fAd K ("TooDeep", some "__init__"), "__init__", "TooDeep.__init__", defArgs sTooDeep_init, defBody sTooDeep_init, defScope sTooDeep_init, [], []⟩
def dTooLarge_init : HP.DefA := ⟨fun K => He.fAd K ("TooLarge", some "__init__"), "__init__", "TooLarge.__init__", defArgs sTooLarge_init, defBody sTooLarge_init, defScope sTooLarge_init, [], []⟩
def dis_integer : HP.DefA := ⟨fun K => He.fAd K ("is_integer", none), "is_integer", "is_integer", defArgs sis_integer, defBody sis_integer, defScope sis_integer, [], []⟩
def dis_integer_within : HP.DefA := ⟨fun K => He.fAd K ("is_integer_within", none), "is_integer_within", "is_integer_within", defArgs sis_integer_within, defBody sis_integer_within, defScope sis_integer_within, [], []⟩
def dis_tuple_of : HP.DefA := ⟨fun K => He.fAd K ("is_tuple_of", none), "is_tuple_of", "is_tuple_of", defArgs sis_tuple_of, defBody sis_tuple_of, defScope sis_tuple_of, [], []⟩
def dis_point : HP.DefA := ⟨fun K => He.fAd K ("is_point", none), "is_point", "is_point", defArgs sis_point, defBody sis_point, defScope sis_point, [], []⟩
def dis_pose : HP.DefA := ⟨fun K => He.fAd K ("is_pose", none), "is_pose", "is_pose", defArgs sis_pose, defBody sis_pose, defScope sis_pose, [], []⟩
def dis_decimal : HP.DefA := ⟨fun K => He.fAd K ("is_decimal", none), "is_decimal", "is_decimal", defArgs sis_decimal, defBody sis_decimal, defScope sis_decimal, [], []⟩
def dcheck_times : HP.DefA := ⟨fun K => He.fAd K ("check_times", none), "check_times", "check_times", defArgs scheck_times, defBody scheck_times, defScope scheck_times, [], []⟩
def dcheck_pose : HP.DefA := ⟨fun K => He.fAd K ("check_pose", none), "check_pose", "check_pose", defArgs scheck_pose, defBody scheck_pose, defScope scheck_pose, [], []⟩
def dwords_of : HP.DefA := ⟨fun K => He.fAd K ("words_of", none), "words_of", "words_of", defArgs swords_of, defBody swords_of, defScope swords_of, [], []⟩
def dis_letter : HP.DefA := ⟨fun K => He.fAd K ("is_letter", none), "is_letter", "is_letter", defArgs sis_letter, defBody sis_letter, defScope sis_letter, [], []⟩
def dnumber_of : HP.DefA := ⟨fun K => He.fAd K ("number_of", none), "number_of", "number_of", defArgs snumber_of, defBody snumber_of, defScope snumber_of, [], []⟩
def dwrong_word : HP.DefA := ⟨fun K => He.fAd K ("wrong_word", none), "wrong_word", "wrong_word", defArgs swrong_word, defBody swrong_word, defScope swrong_word, [], []⟩
def dmirrored : HP.DefA := ⟨fun K => He.fAd K ("mirrored", none), "mirrored", "mirrored", defArgs smirrored, defBody smirrored, defScope smirrored, [], []⟩
def dbackward : HP.DefA := ⟨fun K => He.fAd K ("backward", none), "backward", "backward", defArgs sbackward, defBody sbackward, defScope sbackward, [], []⟩
def d_is_counted : HP.DefA := ⟨fun K => He.fAd K ("_is_counted", none), "_is_counted", "_is_counted", defArgs s_is_counted, defBody s_is_counted, defScope s_is_counted, [], []⟩
def d_is_number : HP.DefA := ⟨fun K => He.fAd K ("_is_number", none), "_is_number", "_is_number", defArgs s_is_number, defBody s_is_number, defScope s_is_number, [], []⟩
def dPart_init : HP.DefA := ⟨fun K => He.fAd K ("Part", some "__init__"), "__init__", "Part.__init__", defArgs sPart_init, defBody sPart_init, defScope sPart_init, [], []⟩
def dsize_of : HP.DefA := ⟨fun K => He.fAd K ("size_of", none), "size_of", "size_of", defArgs ssize_of, defBody ssize_of, defScope ssize_of, [], []⟩
def dlevels_of : HP.DefA := ⟨fun K => He.fAd K ("levels_of", none), "levels_of", "levels_of", defArgs slevels_of, defBody slevels_of, defScope slevels_of, [], []⟩
def dparts_of_words : HP.DefA := ⟨fun K => He.fAd K ("parts_of_words", none), "parts_of_words", "parts_of_words", defArgs sparts_of_words, defBody sparts_of_words, defScope sparts_of_words, [], []⟩
def d_parts_from : HP.DefA := ⟨fun K => He.fAd K ("_parts_from", none), "_parts_from", "_parts_from", defArgs s_parts_from, defBody s_parts_from, defScope s_parts_from, [], []⟩
def dcount_in : HP.DefA := ⟨fun K => He.fAd K ("count_in", none), "count_in", "count_in", defArgs scount_in, defBody scount_in, defScope scount_in, [], []⟩
def dProgram_init : HP.DefA := ⟨fun K => He.fAd K ("Program", some "__init__"), "__init__", "Program.__init__", defArgs sProgram_init, defBody sProgram_init, defScope sProgram_init, [], []⟩
def dProgram_text : HP.DefA := ⟨HP.getA "Program" "text", "text", "Program.text", defArgs sProgram_text, defBody sProgram_text, defScope sProgram_text, [], []⟩
def dProgram_length : HP.DefA := ⟨HP.getA "Program" "length", "length", "Program.length", defArgs sProgram_length, defBody sProgram_length, defScope sProgram_length, [], []⟩
def dProgram_depth : HP.DefA := ⟨HP.getA "Program" "depth", "depth", "Program.depth", defArgs sProgram_depth, defBody sProgram_depth, defScope sProgram_depth, [], []⟩
def dProgram_len : HP.DefA := ⟨fun K => He.fAd K ("Program", some "__len__"), "__len__", "Program.__len__", defArgs sProgram_len, defBody sProgram_len, defScope sProgram_len, [], []⟩
def dProgram_eq : HP.DefA := ⟨fun K => He.fAd K ("Program", some "__eq__"), "__eq__", "Program.__eq__", defArgs sProgram_eq, defBody sProgram_eq, defScope sProgram_eq, [], []⟩
def dProgram_contains : HP.DefA := ⟨fun K => He.fAd K ("Program", some "__contains__"), "__contains__", "Program.__contains__", defArgs sProgram_contains, defBody sProgram_contains, defScope sProgram_contains, [], []⟩
def dProgram_add : HP.DefA := ⟨fun K => He.fAd K ("Program", some "__add__"), "__add__", "Program.__add__", defArgs sProgram_add, defBody sProgram_add, defScope sProgram_add, [], []⟩
def dProgram_mul : HP.DefA := ⟨fun K => He.fAd K ("Program", some "__mul__"), "__mul__", "Program.__mul__", defArgs sProgram_mul, defBody sProgram_mul, defScope sProgram_mul, [], []⟩
def dProgram_neg : HP.DefA := ⟨fun K => He.fAd K ("Program", some "__neg__"), "__neg__", "Program.__neg__", defArgs sProgram_neg, defBody sProgram_neg, defScope sProgram_neg, [], []⟩
def dProgram_invert : HP.DefA := ⟨fun K => He.fAd K ("Program", some "__invert__"), "__invert__", "Program.__invert__", defArgs sProgram_invert, defBody sProgram_invert, defScope sProgram_invert, [], []⟩
def dcheck_text : HP.DefA := ⟨fun K => He.fAd K ("check_text", none), "check_text", "check_text", defArgs scheck_text, defBody scheck_text, defScope scheck_text, [], []⟩
def dcheck_program : HP.DefA := ⟨fun K => He.fAd K ("check_program", none), "check_program", "check_program", defArgs scheck_program, defBody scheck_program, defScope scheck_program, [], []⟩
def dcheck_index : HP.DefA := ⟨fun K => He.fAd K ("check_index", none), "check_index", "check_index", defArgs scheck_index, defBody scheck_index, defScope scheck_index, [], []⟩
def dMotion_init : HP.DefA := ⟨fun K => He.fAd K ("Motion", some "__init__"), "__init__", "Motion.__init__", defArgs sMotion_init, defBody sMotion_init, defScope sMotion_init, [], []⟩
def dMotion_turn : HP.DefA := ⟨HP.getA "Motion" "turn", "turn", "Motion.turn", defArgs sMotion_turn, defBody sMotion_turn, defScope sMotion_turn, [], []⟩
def dMotion_shift : HP.DefA := ⟨HP.getA "Motion" "shift", "shift", "Motion.shift", defArgs sMotion_shift, defBody sMotion_shift, defScope sMotion_shift, [], []⟩
def dMotion_call : HP.DefA := ⟨fun K => He.fAd K ("Motion", some "__call__"), "__call__", "Motion.__call__", defArgs sMotion_call, defBody sMotion_call, defScope sMotion_call, [], []⟩
def dMotion_eq : HP.DefA := ⟨fun K => He.fAd K ("Motion", some "__eq__"), "__eq__", "Motion.__eq__", defArgs sMotion_eq, defBody sMotion_eq, defScope sMotion_eq, [], []⟩
def dMotion_add : HP.DefA := ⟨fun K => He.fAd K ("Motion", some "__add__"), "__add__", "Motion.__add__", defArgs sMotion_add, defBody sMotion_add, defScope sMotion_add, [], []⟩
def dMotion_mul : HP.DefA := ⟨fun K => He.fAd K ("Motion", some "__mul__"), "__mul__", "Motion.__mul__", defArgs sMotion_mul, defBody sMotion_mul, defScope sMotion_mul, [], []⟩
def dMotion_neg : HP.DefA := ⟨fun K => He.fAd K ("Motion", some "__neg__"), "__neg__", "Motion.__neg__", defArgs sMotion_neg, defBody sMotion_neg, defScope sMotion_neg, [], []⟩
def dMotion_order : HP.DefA := ⟨fun K => He.fAd K ("Motion", some "order"), "order", "Motion.order", defArgs sMotion_order, defBody sMotion_order, defScope sMotion_order, [], []⟩
def dmotion_of : HP.DefA := ⟨fun K => He.fAd K ("motion_of", none), "motion_of", "motion_of", defArgs smotion_of, defBody smotion_of, defScope smotion_of, [], []⟩
def dpose_after : HP.DefA := ⟨fun K => He.fAd K ("pose_after", none), "pose_after", "pose_after", defArgs spose_after, defBody spose_after, defScope spose_after, [], [("start", .adr (HQ.kwAt "pose_after" "start"))]⟩
def dmotion_of_letter : HP.DefA := ⟨fun K => He.fAd K ("motion_of_letter", none), "motion_of_letter", "motion_of_letter", defArgs smotion_of_letter, defBody smotion_of_letter, defScope smotion_of_letter, [], []⟩
def dturned_point : HP.DefA := ⟨fun K => He.fAd K ("turned_point", none), "turned_point", "turned_point", defArgs sturned_point, defBody sturned_point, defScope sturned_point, [], []⟩
def dcheck_motion : HP.DefA := ⟨fun K => He.fAd K ("check_motion", none), "check_motion", "check_motion", defArgs scheck_motion, defBody scheck_motion, defScope scheck_motion, [], []⟩
def d_motion_until : HP.DefA := ⟨fun K => He.fAd K ("_motion_until", none), "_motion_until", "_motion_until", defArgs s_motion_until, defBody s_motion_until, defScope s_motion_until, [], []⟩
def d_motion_in_part : HP.DefA := ⟨fun K => He.fAd K ("_motion_in_part", none), "_motion_in_part", "_motion_in_part", defArgs s_motion_in_part, defBody s_motion_in_part, defScope s_motion_in_part, [], []⟩
def d_law_tank : HP.DefA := ⟨fun K => He.fAd K ("_law_tank", none), "_law_tank", "_law_tank", defArgs s_law_tank, defBody s_law_tank, defScope s_law_tank, [], []⟩
def d_law_dip : HP.DefA := ⟨fun K => He.fAd K ("_law_dip", none), "_law_dip", "_law_dip", defArgs s_law_dip, defBody s_law_dip, defScope s_law_dip, [], []⟩
def d_law_made : HP.DefA := ⟨fun K => He.fAd K ("_law_made", none), "_law_made", "_law_made", defArgs s_law_made, defBody s_law_made, defScope s_law_made, [], []⟩
def d_law_poses : HP.DefA := ⟨fun K => He.fAd K ("_law_poses", none), "_law_poses", "_law_poses", defArgs s_law_poses, defBody s_law_poses, defScope s_law_poses, [], []⟩
def d_law_start : HP.DefA := ⟨fun K => He.fAd K ("_law_start", none), "_law_start", "_law_start", defArgs s_law_start, defBody s_law_start, defScope s_law_start, [], []⟩
def d_law_motion : HP.DefA := ⟨fun K => He.fAd K ("_law_motion", none), "_law_motion", "_law_motion", defArgs s_law_motion, defBody s_law_motion, defScope s_law_motion, [], []⟩
def d_law_led : HP.DefA := ⟨fun K => He.fAd K ("_law_led", none), "_law_led", "_law_led", defArgs s_law_led, defBody s_law_led, defScope s_law_led, [], []⟩
def d_law_right : HP.DefA := ⟨fun K => He.fAd K ("_law_right", none), "_law_right", "_law_right", defArgs s_law_right, defBody s_law_right, defScope s_law_right, [], []⟩
def dlaw : HP.DefA := ⟨fun K => He.fAd K ("law", none), "law", "law", defArgs slaw, defBody slaw, defScope slaw, [], []⟩
def fns : List HP.DefA := [dInvalidText_init, dTooDeep_init, dTooLarge_init, dis_integer, dis_integer_within, dis_tuple_of, dis_point, dis_pose, dis_decimal, dcheck_times, dcheck_pose, dwords_of, dis_letter, dnumber_of, dwrong_word, dmirrored, dbackward, d_is_counted, d_is_number, dPart_init, dsize_of, dlevels_of, dparts_of_words, d_parts_from, dcount_in, dProgram_init, dProgram_text, dProgram_length, dProgram_depth, dProgram_len, dProgram_eq, dProgram_contains, dProgram_add, dProgram_mul, dProgram_neg, dProgram_invert, dcheck_text, dcheck_program, dcheck_index, dMotion_init, dMotion_turn, dMotion_shift, dMotion_call, dMotion_eq, dMotion_add, dMotion_mul, dMotion_neg, dMotion_order, dmotion_of, dpose_after, dmotion_of_letter, dturned_point, dcheck_motion, d_motion_until, d_motion_in_part, d_law_tank, d_law_dip, d_law_made, d_law_poses, d_law_start, d_law_motion, d_law_led, d_law_right, dlaw]
def fa0 : List HP.Fact := [HP.fa_ (.glo "is_integer"), HP.fa_ (.glo "is_integer_within"), HP.fa_ (.glo "is_tuple_of"), HP.fa_ (.glo "is_point"), HP.fa_ (.glo "is_pose"), HP.fa_ (.glo "is_decimal"), HP.fa_ (.glo "check_times"), HP.fa_ (.glo "check_pose"), HP.fa_ (.glo "words_of"), HP.fa_ (.glo "is_letter"), HP.fa_ (.glo "number_of"), HP.fa_ (.glo "wrong_word"), HP.fa_ (.glo "mirrored"), HP.fa_ (.glo "backward"), HP.fa_ (.glo "_is_counted"), HP.fa_ (.glo "_is_number"), HP.fa_ (.glo "size_of"), HP.fa_ (.glo "levels_of"), HP.fa_ (.glo "parts_of_words"), HP.fa_ (.glo "_parts_from"), HP.fa_ (.glo "count_in"), HP.propB "Program" "text", HP.propB "Program" "length", HP.propB "Program" "depth", HP.fa_ (.meth "Program" "__len__")]
def fa1 : List HP.Fact := [HP.fa_ (.meth "Program" "__eq__"), HP.fa_ (.meth "Program" "__contains__"), HP.fa_ (.meth "Program" "__add__"), HP.fa_ (.meth "Program" "__mul__"), HP.fa_ (.meth "Program" "__neg__"), HP.fa_ (.meth "Program" "__invert__"), HP.fa_ (.glo "check_text"), HP.fa_ (.glo "check_program"), HP.fa_ (.glo "check_index"), HP.propB "Motion" "turn", HP.propB "Motion" "shift", HP.fa_ (.meth "Motion" "__call__"), HP.fa_ (.meth "Motion" "__eq__"), HP.fa_ (.meth "Motion" "__add__"), HP.fa_ (.meth "Motion" "__mul__"), HP.fa_ (.meth "Motion" "__neg__"), HP.fa_ (.meth "Motion" "order"), HP.fa_ (.glo "motion_of"), HP.fa_ (.glo "pose_after"), HP.fa_ (.glo "motion_of_letter"), HP.fa_ (.glo "turned_point"), HP.fa_ (.glo "check_motion"), HP.fa_ (.glo "_motion_until"), HP.fa_ (.glo "_motion_in_part"), HP.fa_ (.glo "_law_tank")]
def fa2 : List HP.Fact := [HP.fa_ (.glo "_law_dip"), HP.fa_ (.glo "_law_made"), HP.fa_ (.glo "_law_poses"), HP.fa_ (.glo "_law_start"), HP.fa_ (.glo "_law_motion"), HP.fa_ (.glo "_law_led"), HP.fa_ (.glo "_law_right"), HP.fa_ (.glo "law"), HP.fa_ (.glo "PlotError"), HP.fa_ (.glo "InvalidText"), HP.fa_ (.glo "TooDeep"), HP.fa_ (.glo "TooLarge"), HP.fa_ (.glo "InvalidProgram"), HP.fa_ (.glo "InvalidTimes"), HP.fa_ (.glo "InvalidIndex"), HP.fa_ (.glo "HasPen"), HP.fa_ (.glo "InvalidMotion"), HP.fa_ (.glo "InvalidPose"), HP.fa_ (.glo "Part"), HP.fa_ (.cls "Part"), HP.fa_ (.mkr "Part"), HP.isiB "Part", HP.kitB1 (fun K => .ref (He.ga K "Part")) (fun K => .ref (He.ga K "Part")) true, HP.fa_ (.noat "Part" "letter"), HP.fa_ (.noat "Part" "times")]
def fa3 : List HP.Fact := [HP.fa_ (.noat "Part" "inner"), HP.fa_ (.noat "Part" "unit"), HP.fa_ (.noat "Part" "size"), HP.fa_ (.noat "Part" "levels"), HP.fa_ (.glo "Program"), HP.fa_ (.cls "Program"), HP.fa_ (.mkr "Program"), HP.isiB "Program", HP.kitB1 (fun K => .ref (He.ga K "Program")) (fun K => .ref (He.ga K "Program")) true, HP.fa_ (.noat "Program" "_text"), HP.fa_ (.noat "Program" "_words"), HP.fa_ (.noat "Program" "_parts"), HP.fa_ (.noat "Program" "_length"), HP.fa_ (.noat "Program" "_depth"), HP.fa_ (.glo "Motion"), HP.fa_ (.cls "Motion"), HP.fa_ (.mkr "Motion"), HP.isiB "Motion", HP.kitB1 (fun K => .ref (He.ga K "Motion")) (fun K => .ref (He.ga K "Motion")) true, HP.fa_ (.noat "Motion" "_turn"), HP.fa_ (.noat "Motion" "_shift"), HP.fa_ (.free "ValueError"), HP.fa_ (.free "bool"), HP.fa_ (.free "enumerate"), HP.fa_ (.free "int")]
def fa4 : List HP.Fact := [HP.fa_ (.free "isinstance"), HP.fa_ (.free "len"), HP.fa_ (.free "max"), HP.fa_ (.free "min"), HP.fa_ (.free "property"), HP.fa_ (.free "range"), HP.fa_ (.free "reversed"), HP.fa_ (.free "str"), HP.fa_ (.free "sum"), HP.fa_ (.free "tuple"), HP.fa_ (.int "MOST_TIMES" (1000000000000000000000000000000)), HP.fa_ (.int "MOST_DIGITS" (31)), HP.fa_ (.int "MOST_WORDS" (1000)), HP.fa_ (.int "MOST_DEPTH" (12)), HP.fa_ (.glo "LETTERS"), HP.tupB "LETTERS" [.str "f", .str "b", .str "l", .str "r", .str "u", .str "d"], HP.fa_ (.glo "MOVE_SHIFTS"), HQ.hasB "MOVE_SHIFTS" "f" (.adr (HQ.valAt "MOVE_SHIFTS" "f")), HQ.tupAt (HQ.valAt "MOVE_SHIFTS" "f") [.int (1), .int (0)], HQ.hasB "MOVE_SHIFTS" "b" (.adr (HQ.valAt "MOVE_SHIFTS" "b")), HQ.tupAt (HQ.valAt "MOVE_SHIFTS" "b") [.int (-1), .int (0)], HQ.missB "MOVE_SHIFTS" "l", HQ.missB "MOVE_SHIFTS" "r", HQ.missB "MOVE_SHIFTS" "u", HQ.missB "MOVE_SHIFTS" "d"]
def fa5 : List HP.Fact := [HP.fa_ (.glo "TURNS"), HQ.missB "TURNS" "f", HQ.missB "TURNS" "b", HQ.hasB "TURNS" "l" (.int (1)), HQ.hasB "TURNS" "r" (.int (3)), HQ.missB "TURNS" "u", HQ.missB "TURNS" "d", HQ.tupAt (HQ.kwAt "pose_after" "start") [.int (0), .int (0), .int (0)], HP.firstB "Program", HP.firstB "Motion", HP.neB "Motion", HP.notFirstB "Motion" (fun K => (.ref (He.ga K "Motion"))), HP.notFirstB "Motion" (fun _ => .type "NoneType"), HP.kitB1 (fun _ => .type "NoneType") (fun K => (.ref (He.ga K "Motion"))) false, HP.notFirstB "Motion" (fun _ => .type "int"), HP.kitB1 (fun _ => .type "int") (fun K => (.ref (He.ga K "Motion"))) false, HP.notFirstB "Motion" (fun _ => .type "bool"), HP.kitB1 (fun _ => .type "bool") (fun K => (.ref (He.ga K "Motion"))) false, HP.notFirstB "Motion" (fun _ => .type "str"), HP.kitB1 (fun _ => .type "str") (fun K => (.ref (He.ga K "Motion"))) false, HP.notFirstB "Motion" (fun _ => .type "list"), HP.kitB1 (fun _ => .type "list") (fun K => (.ref (He.ga K "Motion"))) false, HP.notFirstB "Motion" (fun _ => .type "tuple"), HP.kitB1 (fun _ => .type "tuple") (fun K => (.ref (He.ga K "Motion"))) false, HP.notFirstB "Motion" (fun _ => .type "dict")]
def fa6 : List HP.Fact := [HP.kitB1 (fun _ => .type "dict") (fun K => (.ref (He.ga K "Motion"))) false, HP.fnB "Motion" "__call__", HP.rightB "Motion" .Mult "int", HP.rightB "Program" .Mult "int"]
def facts : List HP.Fact := fa0 ++ fa1 ++ fa2 ++ fa3 ++ fa4 ++ fa5 ++ fa6
def nm0 : List Str := ["PlotError", "InvalidText", "TooDeep", "TooLarge", "InvalidProgram", "InvalidTimes", "InvalidIndex", "HasPen", "InvalidMotion", "InvalidPose", "MOST_TIMES", "MOST_DIGITS", "is_integer", "is_integer_within", "is_tuple_of", "is_point", "is_pose", "is_decimal", "check_times", "check_pose", "LETTERS", "MOST_WORDS", "MOST_DEPTH", "MIRRORED", "UNDONE", "words_of", "is_letter", "number_of", "wrong_word", "mirrored"]
def nm1 : List Str := ["backward", "_is_counted", "_is_number", "Part", "size_of", "levels_of", "parts_of_words", "_parts_from", "count_in", "Program", "check_text", "check_program", "check_index", "MOVE_SHIFTS", "TURNS", "Motion", "motion_of", "pose_after", "motion_of_letter", "turned_point", "check_motion", "_motion_until", "_motion_in_part", "_law_tank", "_law_dip", "_law_made", "_law_poses", "_law_start", "_law_motion", "_law_led"]
def nm2 : List Str := ["_law_right"]
def names : List Str := nm0 ++ nm1 ++ nm2
structure Tx (K : PySem.W.Frag) (mg : Str → Option Value) : Prop where
  g_is_integer : mg "is_integer" = some (.ref (He.ga K "is_integer"))
  g_is_integer_within : mg "is_integer_within" = some (.ref (He.ga K "is_integer_within"))
  g_is_tuple_of : mg "is_tuple_of" = some (.ref (He.ga K "is_tuple_of"))
  g_is_point : mg "is_point" = some (.ref (He.ga K "is_point"))
  g_is_pose : mg "is_pose" = some (.ref (He.ga K "is_pose"))
  g_is_decimal : mg "is_decimal" = some (.ref (He.ga K "is_decimal"))
  g_check_times : mg "check_times" = some (.ref (He.ga K "check_times"))
  g_check_pose : mg "check_pose" = some (.ref (He.ga K "check_pose"))
  g_words_of : mg "words_of" = some (.ref (He.ga K "words_of"))
  g_is_letter : mg "is_letter" = some (.ref (He.ga K "is_letter"))
  g_number_of : mg "number_of" = some (.ref (He.ga K "number_of"))
  g_wrong_word : mg "wrong_word" = some (.ref (He.ga K "wrong_word"))
  g_mirrored : mg "mirrored" = some (.ref (He.ga K "mirrored"))
  g_backward : mg "backward" = some (.ref (He.ga K "backward"))
  g__is_counted : mg "_is_counted" = some (.ref (He.ga K "_is_counted"))
  g__is_number : mg "_is_number" = some (.ref (He.ga K "_is_number"))
  g_size_of : mg "size_of" = some (.ref (He.ga K "size_of"))
  g_levels_of : mg "levels_of" = some (.ref (He.ga K "levels_of"))
  g_parts_of_words : mg "parts_of_words" = some (.ref (He.ga K "parts_of_words"))
  g__parts_from : mg "_parts_from" = some (.ref (He.ga K "_parts_from"))
  g_count_in : mg "count_in" = some (.ref (He.ga K "count_in"))
  p_Program_text : PropOf K (He.ga K "Program") "text" (He.ma K (He.ga K "Program") "text") (HP.getA "Program" "text" K)
  p_Program_length : PropOf K (He.ga K "Program") "length" (He.ma K (He.ga K "Program") "length") (HP.getA "Program" "length" K)
  p_Program_depth : PropOf K (He.ga K "Program") "depth" (He.ma K (He.ga K "Program") "depth") (HP.getA "Program" "depth" K)
  m_Program_len : Meth K (He.ga K "Program") "__len__" (He.ma K (He.ga K "Program") "__len__")
  m_Program_eq : Meth K (He.ga K "Program") "__eq__" (He.ma K (He.ga K "Program") "__eq__")
  m_Program_contains : Meth K (He.ga K "Program") "__contains__" (He.ma K (He.ga K "Program") "__contains__")
  m_Program_add : Meth K (He.ga K "Program") "__add__" (He.ma K (He.ga K "Program") "__add__")
  m_Program_mul : Meth K (He.ga K "Program") "__mul__" (He.ma K (He.ga K "Program") "__mul__")
  m_Program_neg : Meth K (He.ga K "Program") "__neg__" (He.ma K (He.ga K "Program") "__neg__")
  m_Program_invert : Meth K (He.ga K "Program") "__invert__" (He.ma K (He.ga K "Program") "__invert__")
  g_check_text : mg "check_text" = some (.ref (He.ga K "check_text"))
  g_check_program : mg "check_program" = some (.ref (He.ga K "check_program"))
  g_check_index : mg "check_index" = some (.ref (He.ga K "check_index"))
  p_Motion_turn : PropOf K (He.ga K "Motion") "turn" (He.ma K (He.ga K "Motion") "turn") (HP.getA "Motion" "turn" K)
  p_Motion_shift : PropOf K (He.ga K "Motion") "shift" (He.ma K (He.ga K "Motion") "shift") (HP.getA "Motion" "shift" K)
  m_Motion_call : Meth K (He.ga K "Motion") "__call__" (He.ma K (He.ga K "Motion") "__call__")
  m_Motion_eq : Meth K (He.ga K "Motion") "__eq__" (He.ma K (He.ga K "Motion") "__eq__")
  m_Motion_add : Meth K (He.ga K "Motion") "__add__" (He.ma K (He.ga K "Motion") "__add__")
  m_Motion_mul : Meth K (He.ga K "Motion") "__mul__" (He.ma K (He.ga K "Motion") "__mul__")
  m_Motion_neg : Meth K (He.ga K "Motion") "__neg__" (He.ma K (He.ga K "Motion") "__neg__")
  m_Motion_order : Meth K (He.ga K "Motion") "order" (He.ma K (He.ga K "Motion") "order")
  g_motion_of : mg "motion_of" = some (.ref (He.ga K "motion_of"))
  g_pose_after : mg "pose_after" = some (.ref (He.ga K "pose_after"))
  g_motion_of_letter : mg "motion_of_letter" = some (.ref (He.ga K "motion_of_letter"))
  g_turned_point : mg "turned_point" = some (.ref (He.ga K "turned_point"))
  g_check_motion : mg "check_motion" = some (.ref (He.ga K "check_motion"))
  g__motion_until : mg "_motion_until" = some (.ref (He.ga K "_motion_until"))
  g__motion_in_part : mg "_motion_in_part" = some (.ref (He.ga K "_motion_in_part"))
  g__law_tank : mg "_law_tank" = some (.ref (He.ga K "_law_tank"))
  g__law_dip : mg "_law_dip" = some (.ref (He.ga K "_law_dip"))
  g__law_made : mg "_law_made" = some (.ref (He.ga K "_law_made"))
  g__law_poses : mg "_law_poses" = some (.ref (He.ga K "_law_poses"))
  g__law_start : mg "_law_start" = some (.ref (He.ga K "_law_start"))
  g__law_motion : mg "_law_motion" = some (.ref (He.ga K "_law_motion"))
  g__law_led : mg "_law_led" = some (.ref (He.ga K "_law_led"))
  g__law_right : mg "_law_right" = some (.ref (He.ga K "_law_right"))
  g_law : mg "law" = some (.ref (He.ga K "law"))
  g_PlotError : mg "PlotError" = some (.ref (He.ga K "PlotError"))
  g_InvalidText : mg "InvalidText" = some (.ref (He.ga K "InvalidText"))
  g_TooDeep : mg "TooDeep" = some (.ref (He.ga K "TooDeep"))
  g_TooLarge : mg "TooLarge" = some (.ref (He.ga K "TooLarge"))
  g_InvalidProgram : mg "InvalidProgram" = some (.ref (He.ga K "InvalidProgram"))
  g_InvalidTimes : mg "InvalidTimes" = some (.ref (He.ga K "InvalidTimes"))
  g_InvalidIndex : mg "InvalidIndex" = some (.ref (He.ga K "InvalidIndex"))
  g_HasPen : mg "HasPen" = some (.ref (He.ga K "HasPen"))
  g_InvalidMotion : mg "InvalidMotion" = some (.ref (He.ga K "InvalidMotion"))
  g_InvalidPose : mg "InvalidPose" = some (.ref (He.ga K "InvalidPose"))
  g_Part : mg "Part" = some (.ref (He.ga K "Part"))
  c_Part : Cls K (He.ga K "Part")
  k_Part : Mk K (He.ga K "Part") (He.ma K (He.ga K "Part") "__init__")
  i_Part : HP.IsiC K (He.ga K "Part")
  t_Part : PySem.W.kitOne K (.ref (He.ga K "Part")) (.ref (He.ga K "Part")) = some true
  n_Part_letter : NoAttr K (He.ga K "Part") "letter"
  n_Part_times : NoAttr K (He.ga K "Part") "times"
  n_Part_inner : NoAttr K (He.ga K "Part") "inner"
  n_Part_unit : NoAttr K (He.ga K "Part") "unit"
  n_Part_size : NoAttr K (He.ga K "Part") "size"
  n_Part_levels : NoAttr K (He.ga K "Part") "levels"
  g_Program : mg "Program" = some (.ref (He.ga K "Program"))
  c_Program : Cls K (He.ga K "Program")
  k_Program : Mk K (He.ga K "Program") (He.ma K (He.ga K "Program") "__init__")
  i_Program : HP.IsiC K (He.ga K "Program")
  t_Program : PySem.W.kitOne K (.ref (He.ga K "Program")) (.ref (He.ga K "Program")) = some true
  n_Program__text : NoAttr K (He.ga K "Program") "_text"
  n_Program__words : NoAttr K (He.ga K "Program") "_words"
  n_Program__parts : NoAttr K (He.ga K "Program") "_parts"
  n_Program__length : NoAttr K (He.ga K "Program") "_length"
  n_Program__depth : NoAttr K (He.ga K "Program") "_depth"
  g_Motion : mg "Motion" = some (.ref (He.ga K "Motion"))
  c_Motion : Cls K (He.ga K "Motion")
  k_Motion : Mk K (He.ga K "Motion") (He.ma K (He.ga K "Motion") "__init__")
  i_Motion : HP.IsiC K (He.ga K "Motion")
  t_Motion : PySem.W.kitOne K (.ref (He.ga K "Motion")) (.ref (He.ga K "Motion")) = some true
  n_Motion__turn : NoAttr K (He.ga K "Motion") "_turn"
  n_Motion__shift : NoAttr K (He.ga K "Motion") "_shift"
  z_ValueError : mg "ValueError" = none
  z_bool : mg "bool" = none
  z_enumerate : mg "enumerate" = none
  z_int : mg "int" = none
  z_isinstance : mg "isinstance" = none
  z_len : mg "len" = none
  z_max : mg "max" = none
  z_min : mg "min" = none
  z_property : mg "property" = none
  z_range : mg "range" = none
  z_reversed : mg "reversed" = none
  z_str : mg "str" = none
  z_sum : mg "sum" = none
  z_tuple : mg "tuple" = none
  v_MOST_TIMES : ∃ t, mg "MOST_TIMES" = some (.int (1000000000000000000000000000000) t)
  v_MOST_DIGITS : ∃ t, mg "MOST_DIGITS" = some (.int (31) t)
  v_MOST_WORDS : ∃ t, mg "MOST_WORDS" = some (.int (1000) t)
  v_MOST_DEPTH : ∃ t, mg "MOST_DEPTH" = some (.int (12) t)
  g_LETTERS : mg "LETTERS" = some (.ref (He.ga K "LETTERS"))
  l_LETTERS : ∀ H : Hp, SqT K H (He.ga K "LETTERS") ([.str "f", .str "b", .str "l", .str "r", .str "u", .str "d"] : List V)
  g_MOVE_SHIFTS : mg "MOVE_SHIFTS" = some (.ref (He.ga K "MOVE_SHIFTS"))
  has_MOVE_SHIFTS_f : ∃ u, PySem.W.nsIn K (He.ga K "MOVE_SHIFTS") "f" = some (some u) ∧ RelV (.ref (HQ.valAt "MOVE_SHIFTS" "f" K)) u
  tup_MOVE_SHIFTS_f : ∀ H : Hp, SqT K H (HQ.valAt "MOVE_SHIFTS" "f" K) ([.int (1), .int (0)] : List V)
  has_MOVE_SHIFTS_b : ∃ u, PySem.W.nsIn K (He.ga K "MOVE_SHIFTS") "b" = some (some u) ∧ RelV (.ref (HQ.valAt "MOVE_SHIFTS" "b" K)) u
  tup_MOVE_SHIFTS_b : ∀ H : Hp, SqT K H (HQ.valAt "MOVE_SHIFTS" "b" K) ([.int (-1), .int (0)] : List V)
  mis_MOVE_SHIFTS_l : PySem.W.nsIn K (He.ga K "MOVE_SHIFTS") "l" = some none
  mis_MOVE_SHIFTS_r : PySem.W.nsIn K (He.ga K "MOVE_SHIFTS") "r" = some none
  mis_MOVE_SHIFTS_u : PySem.W.nsIn K (He.ga K "MOVE_SHIFTS") "u" = some none
  mis_MOVE_SHIFTS_d : PySem.W.nsIn K (He.ga K "MOVE_SHIFTS") "d" = some none
  g_TURNS : mg "TURNS" = some (.ref (He.ga K "TURNS"))
  mis_TURNS_f : PySem.W.nsIn K (He.ga K "TURNS") "f" = some none
  mis_TURNS_b : PySem.W.nsIn K (He.ga K "TURNS") "b" = some none
  has_TURNS_l : ∃ u, PySem.W.nsIn K (He.ga K "TURNS") "l" = some (some u) ∧ RelV (.int (1)) u
  has_TURNS_r : ∃ u, PySem.W.nsIn K (He.ga K "TURNS") "r" = some (some u) ∧ RelV (.int (3)) u
  mis_TURNS_u : PySem.W.nsIn K (He.ga K "TURNS") "u" = some none
  mis_TURNS_d : PySem.W.nsIn K (He.ga K "TURNS") "d" = some none
  kw_pose_after_start : ∀ H : Hp, SqT K H (HQ.kwAt "pose_after" "start" K) ([.int (0), .int (0), .int (0)] : List V)
  f_Program : PySem.W.selfFirst K (He.ga K "Program") = true
  f_Motion : PySem.W.selfFirst K (He.ga K "Motion") = true
  ne_Motion : PySem.W.findIn K (.ref (He.ga K "Motion")) "__ne__" = some (some (.builtin "object.__ne__"))
  nf_self : PySem.W.notFirst K (He.ga K "Motion") (.ref (He.ga K "Motion")) = true
  nf_none : PySem.W.notFirst K (He.ga K "Motion") (.type "NoneType") = true
  kt_none : PySem.W.kitOne K (.type "NoneType") (.ref (He.ga K "Motion")) = some false
  nf_int : PySem.W.notFirst K (He.ga K "Motion") (.type "int") = true
  kt_int : PySem.W.kitOne K (.type "int") (.ref (He.ga K "Motion")) = some false
  nf_bool : PySem.W.notFirst K (He.ga K "Motion") (.type "bool") = true
  kt_bool : PySem.W.kitOne K (.type "bool") (.ref (He.ga K "Motion")) = some false
  nf_str : PySem.W.notFirst K (He.ga K "Motion") (.type "str") = true
  kt_str : PySem.W.kitOne K (.type "str") (.ref (He.ga K "Motion")) = some false
  nf_list : PySem.W.notFirst K (He.ga K "Motion") (.type "list") = true
  kt_list : PySem.W.kitOne K (.type "list") (.ref (He.ga K "Motion")) = some false
  nf_tuple : PySem.W.notFirst K (He.ga K "Motion") (.type "tuple") = true
  kt_tuple : PySem.W.kitOne K (.type "tuple") (.ref (He.ga K "Motion")) = some false
  nf_dict : PySem.W.notFirst K (He.ga K "Motion") (.type "dict") = true
  kt_dict : PySem.W.kitOne K (.type "dict") (.ref (He.ga K "Motion")) = some false
  fn_Motion_call : PySem.W.fnIn K (He.ma K (He.ga K "Motion") "__call__") = true
  r_Motion_Mult_int : RT.RightT K (He.ga K "Motion") .Mult "int"
  r_Program_Mult_int : RT.RightT K (He.ga K "Program") .Mult "int"
structure Ds (K : PySem.W.Frag) where
  fd_InvalidText_init : FuncData
  F_InvalidText_init : FunD K "__init__" "InvalidText.__init__" (defArgs sInvalidText_init) (defBody sInvalidText_init) (defScope sInvalidText_init) [] [] (dInvalidText_init.adr K) fd_InvalidText_init
  fd_TooDeep_init : FuncData
  F_TooDeep_init : FunD K "__init__" "TooDeep.__init__" (defArgs sTooDeep_init) (defBody sTooDeep_init) (defScope sTooDeep_init) [] [] (dTooDeep_init.adr K) fd_TooDeep_init
  fd_TooLarge_init : FuncData
  F_TooLarge_init : FunD K "__init__" "TooLarge.__init__" (defArgs sTooLarge_init) (defBody sTooLarge_init) (defScope sTooLarge_init) [] [] (dTooLarge_init.adr K) fd_TooLarge_init
  fd_is_integer : FuncData
  F_is_integer : FunD K "is_integer" "is_integer" (defArgs sis_integer) (defBody sis_integer) (defScope sis_integer) [] [] (dis_integer.adr K) fd_is_integer
  fd_is_integer_within : FuncData
  F_is_integer_within : FunD K "is_integer_within" "is_integer_within" (defArgs sis_integer_within) (defBody sis_integer_within) (defScope sis_integer_within) [] [] (dis_integer_within.adr K) fd_is_integer_within
  fd_is_tuple_of : FuncData
  F_is_tuple_of : FunD K "is_tuple_of" "is_tuple_of" (defArgs sis_tuple_of) (defBody sis_tuple_of) (defScope sis_tuple_of) [] [] (dis_tuple_of.adr K) fd_is_tuple_of
  fd_is_point : FuncData
  F_is_point : FunD K "is_point" "is_point" (defArgs sis_point) (defBody sis_point) (defScope sis_point) [] [] (dis_point.adr K) fd_is_point
  fd_is_pose : FuncData
  F_is_pose : FunD K "is_pose" "is_pose" (defArgs sis_pose) (defBody sis_pose) (defScope sis_pose) [] [] (dis_pose.adr K) fd_is_pose
  fd_is_decimal : FuncData
  F_is_decimal : FunD K "is_decimal" "is_decimal" (defArgs sis_decimal) (defBody sis_decimal) (defScope sis_decimal) [] [] (dis_decimal.adr K) fd_is_decimal
  fd_check_times : FuncData
  F_check_times : FunD K "check_times" "check_times" (defArgs scheck_times) (defBody scheck_times) (defScope scheck_times) [] [] (dcheck_times.adr K) fd_check_times
  fd_check_pose : FuncData
  F_check_pose : FunD K "check_pose" "check_pose" (defArgs scheck_pose) (defBody scheck_pose) (defScope scheck_pose) [] [] (dcheck_pose.adr K) fd_check_pose
  fd_words_of : FuncData
  F_words_of : FunD K "words_of" "words_of" (defArgs swords_of) (defBody swords_of) (defScope swords_of) [] [] (dwords_of.adr K) fd_words_of
  fd_is_letter : FuncData
  F_is_letter : FunD K "is_letter" "is_letter" (defArgs sis_letter) (defBody sis_letter) (defScope sis_letter) [] [] (dis_letter.adr K) fd_is_letter
  fd_number_of : FuncData
  F_number_of : FunD K "number_of" "number_of" (defArgs snumber_of) (defBody snumber_of) (defScope snumber_of) [] [] (dnumber_of.adr K) fd_number_of
  fd_wrong_word : FuncData
  F_wrong_word : FunD K "wrong_word" "wrong_word" (defArgs swrong_word) (defBody swrong_word) (defScope swrong_word) [] [] (dwrong_word.adr K) fd_wrong_word
  fd_mirrored : FuncData
  F_mirrored : FunD K "mirrored" "mirrored" (defArgs smirrored) (defBody smirrored) (defScope smirrored) [] [] (dmirrored.adr K) fd_mirrored
  fd_backward : FuncData
  F_backward : FunD K "backward" "backward" (defArgs sbackward) (defBody sbackward) (defScope sbackward) [] [] (dbackward.adr K) fd_backward
  fd__is_counted : FuncData
  F__is_counted : FunD K "_is_counted" "_is_counted" (defArgs s_is_counted) (defBody s_is_counted) (defScope s_is_counted) [] [] (d_is_counted.adr K) fd__is_counted
  fd__is_number : FuncData
  F__is_number : FunD K "_is_number" "_is_number" (defArgs s_is_number) (defBody s_is_number) (defScope s_is_number) [] [] (d_is_number.adr K) fd__is_number
  fd_Part_init : FuncData
  F_Part_init : FunD K "__init__" "Part.__init__" (defArgs sPart_init) (defBody sPart_init) (defScope sPart_init) [] [] (dPart_init.adr K) fd_Part_init
  fd_size_of : FuncData
  F_size_of : FunD K "size_of" "size_of" (defArgs ssize_of) (defBody ssize_of) (defScope ssize_of) [] [] (dsize_of.adr K) fd_size_of
  fd_levels_of : FuncData
  F_levels_of : FunD K "levels_of" "levels_of" (defArgs slevels_of) (defBody slevels_of) (defScope slevels_of) [] [] (dlevels_of.adr K) fd_levels_of
  fd_parts_of_words : FuncData
  F_parts_of_words : FunD K "parts_of_words" "parts_of_words" (defArgs sparts_of_words) (defBody sparts_of_words) (defScope sparts_of_words) [] [] (dparts_of_words.adr K) fd_parts_of_words
  fd__parts_from : FuncData
  F__parts_from : FunD K "_parts_from" "_parts_from" (defArgs s_parts_from) (defBody s_parts_from) (defScope s_parts_from) [] [] (d_parts_from.adr K) fd__parts_from
  fd_count_in : FuncData
  F_count_in : FunD K "count_in" "count_in" (defArgs scount_in) (defBody scount_in) (defScope scount_in) [] [] (dcount_in.adr K) fd_count_in
  fd_Program_init : FuncData
  F_Program_init : FunD K "__init__" "Program.__init__" (defArgs sProgram_init) (defBody sProgram_init) (defScope sProgram_init) [] [] (dProgram_init.adr K) fd_Program_init
  fd_Program_text : FuncData
  F_Program_text : FunD K "text" "Program.text" (defArgs sProgram_text) (defBody sProgram_text) (defScope sProgram_text) [] [] (dProgram_text.adr K) fd_Program_text
  fd_Program_length : FuncData
  F_Program_length : FunD K "length" "Program.length" (defArgs sProgram_length) (defBody sProgram_length) (defScope sProgram_length) [] [] (dProgram_length.adr K) fd_Program_length
  fd_Program_depth : FuncData
  F_Program_depth : FunD K "depth" "Program.depth" (defArgs sProgram_depth) (defBody sProgram_depth) (defScope sProgram_depth) [] [] (dProgram_depth.adr K) fd_Program_depth
  fd_Program_len : FuncData
  F_Program_len : FunD K "__len__" "Program.__len__" (defArgs sProgram_len) (defBody sProgram_len) (defScope sProgram_len) [] [] (dProgram_len.adr K) fd_Program_len
  fd_Program_eq : FuncData
  F_Program_eq : FunD K "__eq__" "Program.__eq__" (defArgs sProgram_eq) (defBody sProgram_eq) (defScope sProgram_eq) [] [] (dProgram_eq.adr K) fd_Program_eq
  fd_Program_contains : FuncData
  F_Program_contains : FunD K "__contains__" "Program.__contains__" (defArgs sProgram_contains) (defBody sProgram_contains) (defScope sProgram_contains) [] [] (dProgram_contains.adr K) fd_Program_contains
  fd_Program_add : FuncData
  F_Program_add : FunD K "__add__" "Program.__add__" (defArgs sProgram_add) (defBody sProgram_add) (defScope sProgram_add) [] [] (dProgram_add.adr K) fd_Program_add
  fd_Program_mul : FuncData
  F_Program_mul : FunD K "__mul__" "Program.__mul__" (defArgs sProgram_mul) (defBody sProgram_mul) (defScope sProgram_mul) [] [] (dProgram_mul.adr K) fd_Program_mul
  fd_Program_neg : FuncData
  F_Program_neg : FunD K "__neg__" "Program.__neg__" (defArgs sProgram_neg) (defBody sProgram_neg) (defScope sProgram_neg) [] [] (dProgram_neg.adr K) fd_Program_neg
  fd_Program_invert : FuncData
  F_Program_invert : FunD K "__invert__" "Program.__invert__" (defArgs sProgram_invert) (defBody sProgram_invert) (defScope sProgram_invert) [] [] (dProgram_invert.adr K) fd_Program_invert
  fd_check_text : FuncData
  F_check_text : FunD K "check_text" "check_text" (defArgs scheck_text) (defBody scheck_text) (defScope scheck_text) [] [] (dcheck_text.adr K) fd_check_text
  fd_check_program : FuncData
  F_check_program : FunD K "check_program" "check_program" (defArgs scheck_program) (defBody scheck_program) (defScope scheck_program) [] [] (dcheck_program.adr K) fd_check_program
  fd_check_index : FuncData
  F_check_index : FunD K "check_index" "check_index" (defArgs scheck_index) (defBody scheck_index) (defScope scheck_index) [] [] (dcheck_index.adr K) fd_check_index
  fd_Motion_init : FuncData
  F_Motion_init : FunD K "__init__" "Motion.__init__" (defArgs sMotion_init) (defBody sMotion_init) (defScope sMotion_init) [] [] (dMotion_init.adr K) fd_Motion_init
  fd_Motion_turn : FuncData
  F_Motion_turn : FunD K "turn" "Motion.turn" (defArgs sMotion_turn) (defBody sMotion_turn) (defScope sMotion_turn) [] [] (dMotion_turn.adr K) fd_Motion_turn
  fd_Motion_shift : FuncData
  F_Motion_shift : FunD K "shift" "Motion.shift" (defArgs sMotion_shift) (defBody sMotion_shift) (defScope sMotion_shift) [] [] (dMotion_shift.adr K) fd_Motion_shift
  fd_Motion_call : FuncData
  F_Motion_call : FunD K "__call__" "Motion.__call__" (defArgs sMotion_call) (defBody sMotion_call) (defScope sMotion_call) [] [] (dMotion_call.adr K) fd_Motion_call
  fd_Motion_eq : FuncData
  F_Motion_eq : FunD K "__eq__" "Motion.__eq__" (defArgs sMotion_eq) (defBody sMotion_eq) (defScope sMotion_eq) [] [] (dMotion_eq.adr K) fd_Motion_eq
  fd_Motion_add : FuncData
  F_Motion_add : FunD K "__add__" "Motion.__add__" (defArgs sMotion_add) (defBody sMotion_add) (defScope sMotion_add) [] [] (dMotion_add.adr K) fd_Motion_add
  fd_Motion_mul : FuncData
  F_Motion_mul : FunD K "__mul__" "Motion.__mul__" (defArgs sMotion_mul) (defBody sMotion_mul) (defScope sMotion_mul) [] [] (dMotion_mul.adr K) fd_Motion_mul
  fd_Motion_neg : FuncData
  F_Motion_neg : FunD K "__neg__" "Motion.__neg__" (defArgs sMotion_neg) (defBody sMotion_neg) (defScope sMotion_neg) [] [] (dMotion_neg.adr K) fd_Motion_neg
  fd_Motion_order : FuncData
  F_Motion_order : FunD K "order" "Motion.order" (defArgs sMotion_order) (defBody sMotion_order) (defScope sMotion_order) [] [] (dMotion_order.adr K) fd_Motion_order
  fd_motion_of : FuncData
  F_motion_of : FunD K "motion_of" "motion_of" (defArgs smotion_of) (defBody smotion_of) (defScope smotion_of) [] [] (dmotion_of.adr K) fd_motion_of
  fd_pose_after : FuncData
  F_pose_after : FunD K "pose_after" "pose_after" (defArgs spose_after) (defBody spose_after) (defScope spose_after) [] (dpose_after.kws K) (dpose_after.adr K) fd_pose_after
  fd_motion_of_letter : FuncData
  F_motion_of_letter : FunD K "motion_of_letter" "motion_of_letter" (defArgs smotion_of_letter) (defBody smotion_of_letter) (defScope smotion_of_letter) [] [] (dmotion_of_letter.adr K) fd_motion_of_letter
  fd_turned_point : FuncData
  F_turned_point : FunD K "turned_point" "turned_point" (defArgs sturned_point) (defBody sturned_point) (defScope sturned_point) [] [] (dturned_point.adr K) fd_turned_point
  fd_check_motion : FuncData
  F_check_motion : FunD K "check_motion" "check_motion" (defArgs scheck_motion) (defBody scheck_motion) (defScope scheck_motion) [] [] (dcheck_motion.adr K) fd_check_motion
  fd__motion_until : FuncData
  F__motion_until : FunD K "_motion_until" "_motion_until" (defArgs s_motion_until) (defBody s_motion_until) (defScope s_motion_until) [] [] (d_motion_until.adr K) fd__motion_until
  fd__motion_in_part : FuncData
  F__motion_in_part : FunD K "_motion_in_part" "_motion_in_part" (defArgs s_motion_in_part) (defBody s_motion_in_part) (defScope s_motion_in_part) [] [] (d_motion_in_part.adr K) fd__motion_in_part
  fd__law_tank : FuncData
  F__law_tank : FunD K "_law_tank" "_law_tank" (defArgs s_law_tank) (defBody s_law_tank) (defScope s_law_tank) [] [] (d_law_tank.adr K) fd__law_tank
  fd__law_dip : FuncData
  F__law_dip : FunD K "_law_dip" "_law_dip" (defArgs s_law_dip) (defBody s_law_dip) (defScope s_law_dip) [] [] (d_law_dip.adr K) fd__law_dip
  fd__law_made : FuncData
  F__law_made : FunD K "_law_made" "_law_made" (defArgs s_law_made) (defBody s_law_made) (defScope s_law_made) [] [] (d_law_made.adr K) fd__law_made
  fd__law_poses : FuncData
  F__law_poses : FunD K "_law_poses" "_law_poses" (defArgs s_law_poses) (defBody s_law_poses) (defScope s_law_poses) [] [] (d_law_poses.adr K) fd__law_poses
  fd__law_start : FuncData
  F__law_start : FunD K "_law_start" "_law_start" (defArgs s_law_start) (defBody s_law_start) (defScope s_law_start) [] [] (d_law_start.adr K) fd__law_start
  fd__law_motion : FuncData
  F__law_motion : FunD K "_law_motion" "_law_motion" (defArgs s_law_motion) (defBody s_law_motion) (defScope s_law_motion) [] [] (d_law_motion.adr K) fd__law_motion
  fd__law_led : FuncData
  F__law_led : FunD K "_law_led" "_law_led" (defArgs s_law_led) (defBody s_law_led) (defScope s_law_led) [] [] (d_law_led.adr K) fd__law_led
  fd__law_right : FuncData
  F__law_right : FunD K "_law_right" "_law_right" (defArgs s_law_right) (defBody s_law_right) (defScope s_law_right) [] [] (d_law_right.adr K) fd__law_right
  fd_law : FuncData
  F_law : FunD K "law" "law" (defArgs slaw) (defBody slaw) (defScope slaw) [] [] (dlaw.adr K) fd_law
theorem tx_of {K : PySem.W.Frag} {h : Heap} {mg : Str → Option Value} (X : K.In h) (G : h.Ns mainGlobals mg) (c : HP.SaysA facts fns K) : Tx K mg where
  g_is_integer := He.glo_ok X G (c.fact 0 rfl)
  g_is_integer_within := He.glo_ok X G (c.fact 1 rfl)
  g_is_tuple_of := He.glo_ok X G (c.fact 2 rfl)
  g_is_point := He.glo_ok X G (c.fact 3 rfl)
  g_is_pose := He.glo_ok X G (c.fact 4 rfl)
  g_is_decimal := He.glo_ok X G (c.fact 5 rfl)
  g_check_times := He.glo_ok X G (c.fact 6 rfl)
  g_check_pose := He.glo_ok X G (c.fact 7 rfl)
  g_words_of := He.glo_ok X G (c.fact 8 rfl)
  g_is_letter := He.glo_ok X G (c.fact 9 rfl)
  g_number_of := He.glo_ok X G (c.fact 10 rfl)
  g_wrong_word := He.glo_ok X G (c.fact 11 rfl)
  g_mirrored := He.glo_ok X G (c.fact 12 rfl)
  g_backward := He.glo_ok X G (c.fact 13 rfl)
  g__is_counted := He.glo_ok X G (c.fact 14 rfl)
  g__is_number := He.glo_ok X G (c.fact 15 rfl)
  g_size_of := He.glo_ok X G (c.fact 16 rfl)
  g_levels_of := He.glo_ok X G (c.fact 17 rfl)
  g_parts_of_words := He.glo_ok X G (c.fact 18 rfl)
  g__parts_from := He.glo_ok X G (c.fact 19 rfl)
  g_count_in := He.glo_ok X G (c.fact 20 rfl)
  p_Program_text := HP.propB_ok (c.fact 21 rfl)
  p_Program_length := HP.propB_ok (c.fact 22 rfl)
  p_Program_depth := HP.propB_ok (c.fact 23 rfl)
  m_Program_len := He.meth_ok (c.fact 24 rfl)
  m_Program_eq := He.meth_ok (c.fact 25 rfl)
  m_Program_contains := He.meth_ok (c.fact 26 rfl)
  m_Program_add := He.meth_ok (c.fact 27 rfl)
  m_Program_mul := He.meth_ok (c.fact 28 rfl)
  m_Program_neg := He.meth_ok (c.fact 29 rfl)
  m_Program_invert := He.meth_ok (c.fact 30 rfl)
  g_check_text := He.glo_ok X G (c.fact 31 rfl)
  g_check_program := He.glo_ok X G (c.fact 32 rfl)
  g_check_index := He.glo_ok X G (c.fact 33 rfl)
  p_Motion_turn := HP.propB_ok (c.fact 34 rfl)
  p_Motion_shift := HP.propB_ok (c.fact 35 rfl)
  m_Motion_call := He.meth_ok (c.fact 36 rfl)
  m_Motion_eq := He.meth_ok (c.fact 37 rfl)
  m_Motion_add := He.meth_ok (c.fact 38 rfl)
  m_Motion_mul := He.meth_ok (c.fact 39 rfl)
  m_Motion_neg := He.meth_ok (c.fact 40 rfl)
  m_Motion_order := He.meth_ok (c.fact 41 rfl)
  g_motion_of := He.glo_ok X G (c.fact 42 rfl)
  g_pose_after := He.glo_ok X G (c.fact 43 rfl)
  g_motion_of_letter := He.glo_ok X G (c.fact 44 rfl)
  g_turned_point := He.glo_ok X G (c.fact 45 rfl)
  g_check_motion := He.glo_ok X G (c.fact 46 rfl)
  g__motion_until := He.glo_ok X G (c.fact 47 rfl)
  g__motion_in_part := He.glo_ok X G (c.fact 48 rfl)
  g__law_tank := He.glo_ok X G (c.fact 49 rfl)
  g__law_dip := He.glo_ok X G (c.fact 50 rfl)
  g__law_made := He.glo_ok X G (c.fact 51 rfl)
  g__law_poses := He.glo_ok X G (c.fact 52 rfl)
  g__law_start := He.glo_ok X G (c.fact 53 rfl)
  g__law_motion := He.glo_ok X G (c.fact 54 rfl)
  g__law_led := He.glo_ok X G (c.fact 55 rfl)
  g__law_right := He.glo_ok X G (c.fact 56 rfl)
  g_law := He.glo_ok X G (c.fact 57 rfl)
  g_PlotError := He.glo_ok X G (c.fact 58 rfl)
  g_InvalidText := He.glo_ok X G (c.fact 59 rfl)
  g_TooDeep := He.glo_ok X G (c.fact 60 rfl)
  g_TooLarge := He.glo_ok X G (c.fact 61 rfl)
  g_InvalidProgram := He.glo_ok X G (c.fact 62 rfl)
  g_InvalidTimes := He.glo_ok X G (c.fact 63 rfl)
  g_InvalidIndex := He.glo_ok X G (c.fact 64 rfl)
  g_HasPen := He.glo_ok X G (c.fact 65 rfl)
  g_InvalidMotion := He.glo_ok X G (c.fact 66 rfl)
  g_InvalidPose := He.glo_ok X G (c.fact 67 rfl)
  g_Part := He.glo_ok X G (c.fact 68 rfl)
  c_Part := He.cls_ok (c.fact 69 rfl)
  k_Part := He.mkr_ok (c.fact 70 rfl)
  i_Part := HP.isiB_ok (c.fact 71 rfl)
  t_Part := of_decide_eq_true (c.fact 72 rfl)
  n_Part_letter := He.noat_ok (c.fact 73 rfl)
  n_Part_times := He.noat_ok (c.fact 74 rfl)
  n_Part_inner := He.noat_ok (c.fact 75 rfl)
  n_Part_unit := He.noat_ok (c.fact 76 rfl)
  n_Part_size := He.noat_ok (c.fact 77 rfl)
  n_Part_levels := He.noat_ok (c.fact 78 rfl)
  g_Program := He.glo_ok X G (c.fact 79 rfl)
  c_Program := He.cls_ok (c.fact 80 rfl)
  k_Program := He.mkr_ok (c.fact 81 rfl)
  i_Program := HP.isiB_ok (c.fact 82 rfl)
  t_Program := of_decide_eq_true (c.fact 83 rfl)
  n_Program__text := He.noat_ok (c.fact 84 rfl)
  n_Program__words := He.noat_ok (c.fact 85 rfl)
  n_Program__parts := He.noat_ok (c.fact 86 rfl)
  n_Program__length := He.noat_ok (c.fact 87 rfl)
  n_Program__depth := He.noat_ok (c.fact 88 rfl)
  g_Motion := He.glo_ok X G (c.fact 89 rfl)
  c_Motion := He.cls_ok (c.fact 90 rfl)
  k_Motion := He.mkr_ok (c.fact 91 rfl)
  i_Motion := HP.isiB_ok (c.fact 92 rfl)
  t_Motion := of_decide_eq_true (c.fact 93 rfl)
  n_Motion__turn := He.noat_ok (c.fact 94 rfl)
  n_Motion__shift := He.noat_ok (c.fact 95 rfl)
  z_ValueError := He.free_ok X G (c.fact 96 rfl)
  z_bool := He.free_ok X G (c.fact 97 rfl)
  z_enumerate := He.free_ok X G (c.fact 98 rfl)
  z_int := He.free_ok X G (c.fact 99 rfl)
  z_isinstance := He.free_ok X G (c.fact 100 rfl)
  z_len := He.free_ok X G (c.fact 101 rfl)
  z_max := He.free_ok X G (c.fact 102 rfl)
  z_min := He.free_ok X G (c.fact 103 rfl)
  z_property := He.free_ok X G (c.fact 104 rfl)
  z_range := He.free_ok X G (c.fact 105 rfl)
  z_reversed := He.free_ok X G (c.fact 106 rfl)
  z_str := He.free_ok X G (c.fact 107 rfl)
  z_sum := He.free_ok X G (c.fact 108 rfl)
  z_tuple := He.free_ok X G (c.fact 109 rfl)
  v_MOST_TIMES := He.int_ok X G (c.fact 110 rfl)
  v_MOST_DIGITS := He.int_ok X G (c.fact 111 rfl)
  v_MOST_WORDS := He.int_ok X G (c.fact 112 rfl)
  v_MOST_DEPTH := He.int_ok X G (c.fact 113 rfl)
  g_LETTERS := He.glo_ok X G (c.fact 114 rfl)
  l_LETTERS := HP.tupB_ok (c.fact 115 rfl)
  g_MOVE_SHIFTS := He.glo_ok X G (c.fact 116 rfl)
  has_MOVE_SHIFTS_f := HQ.hasB_ok (c.fact 117 rfl)
  tup_MOVE_SHIFTS_f := HQ.tupAt_ok (c.fact 118 rfl)
  has_MOVE_SHIFTS_b := HQ.hasB_ok (c.fact 119 rfl)
  tup_MOVE_SHIFTS_b := HQ.tupAt_ok (c.fact 120 rfl)
  mis_MOVE_SHIFTS_l := of_decide_eq_true (c.fact 121 rfl)
  mis_MOVE_SHIFTS_r := of_decide_eq_true (c.fact 122 rfl)
  mis_MOVE_SHIFTS_u := of_decide_eq_true (c.fact 123 rfl)
  mis_MOVE_SHIFTS_d := of_decide_eq_true (c.fact 124 rfl)
  g_TURNS := He.glo_ok X G (c.fact 125 rfl)
  mis_TURNS_f := of_decide_eq_true (c.fact 126 rfl)
  mis_TURNS_b := of_decide_eq_true (c.fact 127 rfl)
  has_TURNS_l := HQ.hasB_ok (c.fact 128 rfl)
  has_TURNS_r := HQ.hasB_ok (c.fact 129 rfl)
  mis_TURNS_u := of_decide_eq_true (c.fact 130 rfl)
  mis_TURNS_d := of_decide_eq_true (c.fact 131 rfl)
  kw_pose_after_start := HQ.tupAt_ok (c.fact 132 rfl)
  f_Program := (c.fact 133 rfl)
  f_Motion := (c.fact 134 rfl)
  ne_Motion := HP.neB_ok (c.fact 135 rfl)
  nf_self := (c.fact 136 rfl)
  nf_none := (c.fact 137 rfl)
  kt_none := of_decide_eq_true (c.fact 138 rfl)
  nf_int := (c.fact 139 rfl)
  kt_int := of_decide_eq_true (c.fact 140 rfl)
  nf_bool := (c.fact 141 rfl)
  kt_bool := of_decide_eq_true (c.fact 142 rfl)
  nf_str := (c.fact 143 rfl)
  kt_str := of_decide_eq_true (c.fact 144 rfl)
  nf_list := (c.fact 145 rfl)
  kt_list := of_decide_eq_true (c.fact 146 rfl)
  nf_tuple := (c.fact 147 rfl)
  kt_tuple := of_decide_eq_true (c.fact 148 rfl)
  nf_dict := (c.fact 149 rfl)
  kt_dict := of_decide_eq_true (c.fact 150 rfl)
  fn_Motion_call := (c.fact 151 rfl)
  r_Motion_Mult_int := HP.rightB_ok (c.fact 152 rfl)
  r_Program_Mult_int := HP.rightB_ok (c.fact 153 rfl)
theorem ds_of {K : PySem.W.Frag} (c : HP.SaysA facts fns K) : Nonempty (Ds K) := by
  obtain ⟨f0, p0⟩ := c.def_ 0 (d := dInvalidText_init) rfl
  obtain ⟨f1, p1⟩ := c.def_ 1 (d := dTooDeep_init) rfl
  obtain ⟨f2, p2⟩ := c.def_ 2 (d := dTooLarge_init) rfl
  obtain ⟨f3, p3⟩ := c.def_ 3 (d := dis_integer) rfl
  obtain ⟨f4, p4⟩ := c.def_ 4 (d := dis_integer_within) rfl
  obtain ⟨f5, p5⟩ := c.def_ 5 (d := dis_tuple_of) rfl
  obtain ⟨f6, p6⟩ := c.def_ 6 (d := dis_point) rfl
  obtain ⟨f7, p7⟩ := c.def_ 7 (d := dis_pose) rfl
  obtain ⟨f8, p8⟩ := c.def_ 8 (d := dis_decimal) rfl
  obtain ⟨f9, p9⟩ := c.def_ 9 (d := dcheck_times) rfl
  obtain ⟨f10, p10⟩ := c.def_ 10 (d := dcheck_pose) rfl
  obtain ⟨f11, p11⟩ := c.def_ 11 (d := dwords_of) rfl
  obtain ⟨f12, p12⟩ := c.def_ 12 (d := dis_letter) rfl
  obtain ⟨f13, p13⟩ := c.def_ 13 (d := dnumber_of) rfl
  obtain ⟨f14, p14⟩ := c.def_ 14 (d := dwrong_word) rfl
  obtain ⟨f15, p15⟩ := c.def_ 15 (d := dmirrored) rfl
  obtain ⟨f16, p16⟩ := c.def_ 16 (d := dbackward) rfl
  obtain ⟨f17, p17⟩ := c.def_ 17 (d := d_is_counted) rfl
  obtain ⟨f18, p18⟩ := c.def_ 18 (d := d_is_number) rfl
  obtain ⟨f19, p19⟩ := c.def_ 19 (d := dPart_init) rfl
  obtain ⟨f20, p20⟩ := c.def_ 20 (d := dsize_of) rfl
  obtain ⟨f21, p21⟩ := c.def_ 21 (d := dlevels_of) rfl
  obtain ⟨f22, p22⟩ := c.def_ 22 (d := dparts_of_words) rfl
  obtain ⟨f23, p23⟩ := c.def_ 23 (d := d_parts_from) rfl
  obtain ⟨f24, p24⟩ := c.def_ 24 (d := dcount_in) rfl
  obtain ⟨f25, p25⟩ := c.def_ 25 (d := dProgram_init) rfl
  obtain ⟨f26, p26⟩ := c.def_ 26 (d := dProgram_text) rfl
  obtain ⟨f27, p27⟩ := c.def_ 27 (d := dProgram_length) rfl
  obtain ⟨f28, p28⟩ := c.def_ 28 (d := dProgram_depth) rfl
  obtain ⟨f29, p29⟩ := c.def_ 29 (d := dProgram_len) rfl
  obtain ⟨f30, p30⟩ := c.def_ 30 (d := dProgram_eq) rfl
  obtain ⟨f31, p31⟩ := c.def_ 31 (d := dProgram_contains) rfl
  obtain ⟨f32, p32⟩ := c.def_ 32 (d := dProgram_add) rfl
  obtain ⟨f33, p33⟩ := c.def_ 33 (d := dProgram_mul) rfl
  obtain ⟨f34, p34⟩ := c.def_ 34 (d := dProgram_neg) rfl
  obtain ⟨f35, p35⟩ := c.def_ 35 (d := dProgram_invert) rfl
  obtain ⟨f36, p36⟩ := c.def_ 36 (d := dcheck_text) rfl
  obtain ⟨f37, p37⟩ := c.def_ 37 (d := dcheck_program) rfl
  obtain ⟨f38, p38⟩ := c.def_ 38 (d := dcheck_index) rfl
  obtain ⟨f39, p39⟩ := c.def_ 39 (d := dMotion_init) rfl
  obtain ⟨f40, p40⟩ := c.def_ 40 (d := dMotion_turn) rfl
  obtain ⟨f41, p41⟩ := c.def_ 41 (d := dMotion_shift) rfl
  obtain ⟨f42, p42⟩ := c.def_ 42 (d := dMotion_call) rfl
  obtain ⟨f43, p43⟩ := c.def_ 43 (d := dMotion_eq) rfl
  obtain ⟨f44, p44⟩ := c.def_ 44 (d := dMotion_add) rfl
  obtain ⟨f45, p45⟩ := c.def_ 45 (d := dMotion_mul) rfl
  obtain ⟨f46, p46⟩ := c.def_ 46 (d := dMotion_neg) rfl
  obtain ⟨f47, p47⟩ := c.def_ 47 (d := dMotion_order) rfl
  obtain ⟨f48, p48⟩ := c.def_ 48 (d := dmotion_of) rfl
  obtain ⟨f49, p49⟩ := c.def_ 49 (d := dpose_after) rfl
  obtain ⟨f50, p50⟩ := c.def_ 50 (d := dmotion_of_letter) rfl
  obtain ⟨f51, p51⟩ := c.def_ 51 (d := dturned_point) rfl
  obtain ⟨f52, p52⟩ := c.def_ 52 (d := dcheck_motion) rfl
  obtain ⟨f53, p53⟩ := c.def_ 53 (d := d_motion_until) rfl
  obtain ⟨f54, p54⟩ := c.def_ 54 (d := d_motion_in_part) rfl
  obtain ⟨f55, p55⟩ := c.def_ 55 (d := d_law_tank) rfl
  obtain ⟨f56, p56⟩ := c.def_ 56 (d := d_law_dip) rfl
  obtain ⟨f57, p57⟩ := c.def_ 57 (d := d_law_made) rfl
  obtain ⟨f58, p58⟩ := c.def_ 58 (d := d_law_poses) rfl
  obtain ⟨f59, p59⟩ := c.def_ 59 (d := d_law_start) rfl
  obtain ⟨f60, p60⟩ := c.def_ 60 (d := d_law_motion) rfl
  obtain ⟨f61, p61⟩ := c.def_ 61 (d := d_law_led) rfl
  obtain ⟨f62, p62⟩ := c.def_ 62 (d := d_law_right) rfl
  obtain ⟨f63, p63⟩ := c.def_ 63 (d := dlaw) rfl
  exact ⟨⟨f0, p0, f1, p1, f2, p2, f3, p3, f4, p4, f5, p5, f6, p6, f7, p7, f8, p8, f9, p9, f10, p10, f11, p11, f12, p12, f13, p13, f14, p14, f15, p15, f16, p16, f17, p17, f18, p18, f19, p19, f20, p20, f21, p21, f22, p22, f23, p23, f24, p24, f25, p25, f26, p26, f27, p27, f28, p28, f29, p29, f30, p30, f31, p31, f32, p32, f33, p33, f34, p34, f35, p35, f36, p36, f37, p37, f38, p38, f39, p39, f40, p40, f41, p41, f42, p42, f43, p43, f44, p44, f45, p45, f46, p46, f47, p47, f48, p48, f49, p49, f50, p50, f51, p51, f52, p52, f53, p53, f54, p54, f55, p55, f56, p56, f57, p57, f58, p58, f59, p59, f60, p60, f61, p61, f62, p62, f63, p63⟩⟩
theorem b_InvalidText_init {K : PySem.W.Frag} (D : Ds K) : Binds K D.fd_InvalidText_init ["self", "index"] [] := D.F_InvalidText_init.bindsN fun _ _ _ _ _ _ us hl => match us, hl with | [_, _], _ => rfl
theorem b_TooDeep_init {K : PySem.W.Frag} (D : Ds K) : Binds K D.fd_TooDeep_init ["self", "limit"] [] := D.F_TooDeep_init.bindsN fun _ _ _ _ _ _ us hl => match us, hl with | [_, _], _ => rfl
theorem b_TooLarge_init {K : PySem.W.Frag} (D : Ds K) : Binds K D.fd_TooLarge_init ["self", "limit"] [] := D.F_TooLarge_init.bindsN fun _ _ _ _ _ _ us hl => match us, hl with | [_, _], _ => rfl
theorem b_is_integer {K : PySem.W.Frag} (D : Ds K) : Binds K D.fd_is_integer ["value"] [] := D.F_is_integer.bindsN fun _ _ _ _ _ _ us hl => match us, hl with | [_], _ => rfl
theorem b_is_integer_within {K : PySem.W.Frag} (D : Ds K) : Binds K D.fd_is_integer_within ["value", "least", "most"] [] := D.F_is_integer_within.bindsN fun _ _ _ _ _ _ us hl => match us, hl with | [_, _, _], _ => rfl
theorem b_is_tuple_of {K : PySem.W.Frag} (D : Ds K) : Binds K D.fd_is_tuple_of ["value", "many"] [] := D.F_is_tuple_of.bindsN fun _ _ _ _ _ _ us hl => match us, hl with | [_, _], _ => rfl
theorem b_is_point {K : PySem.W.Frag} (D : Ds K) : Binds K D.fd_is_point ["value"] [] := D.F_is_point.bindsN fun _ _ _ _ _ _ us hl => match us, hl with | [_], _ => rfl
theorem b_is_pose {K : PySem.W.Frag} (D : Ds K) : Binds K D.fd_is_pose ["value"] [] := D.F_is_pose.bindsN fun _ _ _ _ _ _ us hl => match us, hl with | [_], _ => rfl
theorem b_is_decimal {K : PySem.W.Frag} (D : Ds K) : Binds K D.fd_is_decimal ["word"] [] := D.F_is_decimal.bindsN fun _ _ _ _ _ _ us hl => match us, hl with | [_], _ => rfl
theorem b_check_times {K : PySem.W.Frag} (D : Ds K) : Binds K D.fd_check_times ["times"] [] := D.F_check_times.bindsN fun _ _ _ _ _ _ us hl => match us, hl with | [_], _ => rfl
theorem b_check_pose {K : PySem.W.Frag} (D : Ds K) : Binds K D.fd_check_pose ["pose"] [] := D.F_check_pose.bindsN fun _ _ _ _ _ _ us hl => match us, hl with | [_], _ => rfl
theorem b_words_of {K : PySem.W.Frag} (D : Ds K) : Binds K D.fd_words_of ["text"] [] := D.F_words_of.bindsN fun _ _ _ _ _ _ us hl => match us, hl with | [_], _ => rfl
theorem b_is_letter {K : PySem.W.Frag} (D : Ds K) : Binds K D.fd_is_letter ["value"] [] := D.F_is_letter.bindsN fun _ _ _ _ _ _ us hl => match us, hl with | [_], _ => rfl
theorem b_number_of {K : PySem.W.Frag} (D : Ds K) : Binds K D.fd_number_of ["word"] [] := D.F_number_of.bindsN fun _ _ _ _ _ _ us hl => match us, hl with | [_], _ => rfl
theorem b_wrong_word {K : PySem.W.Frag} (D : Ds K) : Binds K D.fd_wrong_word ["words", "names"] [] := D.F_wrong_word.bindsN fun _ _ _ _ _ _ us hl => match us, hl with | [_, _], _ => rfl
theorem b_mirrored {K : PySem.W.Frag} (D : Ds K) : Binds K D.fd_mirrored ["words"] [] := D.F_mirrored.bindsN fun _ _ _ _ _ _ us hl => match us, hl with | [_], _ => rfl
theorem b_backward {K : PySem.W.Frag} (D : Ds K) : Binds K D.fd_backward ["words"] [] := D.F_backward.bindsN fun _ _ _ _ _ _ us hl => match us, hl with | [_], _ => rfl
theorem b__is_counted {K : PySem.W.Frag} (D : Ds K) : Binds K D.fd__is_counted ["word"] [] := D.F__is_counted.bindsN fun _ _ _ _ _ _ us hl => match us, hl with | [_], _ => rfl
theorem b__is_number {K : PySem.W.Frag} (D : Ds K) : Binds K D.fd__is_number ["digits"] [] := D.F__is_number.bindsN fun _ _ _ _ _ _ us hl => match us, hl with | [_], _ => rfl
theorem b_Part_init {K : PySem.W.Frag} (D : Ds K) : Binds K D.fd_Part_init ["self", "letter", "times", "inner"] [] := D.F_Part_init.bindsN fun _ _ _ _ _ _ us hl => match us, hl with | [_, _, _, _], _ => rfl
theorem b_size_of {K : PySem.W.Frag} (D : Ds K) : Binds K D.fd_size_of ["parts"] [] := D.F_size_of.bindsN fun _ _ _ _ _ _ us hl => match us, hl with | [_], _ => rfl
theorem b_levels_of {K : PySem.W.Frag} (D : Ds K) : Binds K D.fd_levels_of ["parts"] [] := D.F_levels_of.bindsN fun _ _ _ _ _ _ us hl => match us, hl with | [_], _ => rfl
theorem b_parts_of_words {K : PySem.W.Frag} (D : Ds K) : Binds K D.fd_parts_of_words ["words"] [] := D.F_parts_of_words.bindsN fun _ _ _ _ _ _ us hl => match us, hl with | [_], _ => rfl
theorem b__parts_from {K : PySem.W.Frag} (D : Ds K) : Binds K D.fd__parts_from ["words", "start"] [] := D.F__parts_from.bindsN fun _ _ _ _ _ _ us hl => match us, hl with | [_, _], _ => rfl
theorem b_count_in {K : PySem.W.Frag} (D : Ds K) : Binds K D.fd_count_in ["parts", "letter"] [] := D.F_count_in.bindsN fun _ _ _ _ _ _ us hl => match us, hl with | [_, _], _ => rfl
theorem b_Program_init {K : PySem.W.Frag} (D : Ds K) : Binds K D.fd_Program_init ["self", "text"] [] := D.F_Program_init.bindsN fun _ _ _ _ _ _ us hl => match us, hl with | [_, _], _ => rfl
theorem b_Program_text {K : PySem.W.Frag} (D : Ds K) : Binds K D.fd_Program_text ["self"] [] := D.F_Program_text.bindsN fun _ _ _ _ _ _ us hl => match us, hl with | [_], _ => rfl
theorem b_Program_length {K : PySem.W.Frag} (D : Ds K) : Binds K D.fd_Program_length ["self"] [] := D.F_Program_length.bindsN fun _ _ _ _ _ _ us hl => match us, hl with | [_], _ => rfl
theorem b_Program_depth {K : PySem.W.Frag} (D : Ds K) : Binds K D.fd_Program_depth ["self"] [] := D.F_Program_depth.bindsN fun _ _ _ _ _ _ us hl => match us, hl with | [_], _ => rfl
theorem b_Program_len {K : PySem.W.Frag} (D : Ds K) : Binds K D.fd_Program_len ["self"] [] := D.F_Program_len.bindsN fun _ _ _ _ _ _ us hl => match us, hl with | [_], _ => rfl
theorem b_Program_eq {K : PySem.W.Frag} (D : Ds K) : Binds K D.fd_Program_eq ["self", "other"] [] := D.F_Program_eq.bindsN fun _ _ _ _ _ _ us hl => match us, hl with | [_, _], _ => rfl
theorem b_Program_contains {K : PySem.W.Frag} (D : Ds K) : Binds K D.fd_Program_contains ["self", "x"] [] := D.F_Program_contains.bindsN fun _ _ _ _ _ _ us hl => match us, hl with | [_, _], _ => rfl
theorem b_Program_add {K : PySem.W.Frag} (D : Ds K) : Binds K D.fd_Program_add ["self", "other"] [] := D.F_Program_add.bindsN fun _ _ _ _ _ _ us hl => match us, hl with | [_, _], _ => rfl
theorem b_Program_mul {K : PySem.W.Frag} (D : Ds K) : Binds K D.fd_Program_mul ["self", "other"] [] := D.F_Program_mul.bindsN fun _ _ _ _ _ _ us hl => match us, hl with | [_, _], _ => rfl
theorem b_Program_neg {K : PySem.W.Frag} (D : Ds K) : Binds K D.fd_Program_neg ["self"] [] := D.F_Program_neg.bindsN fun _ _ _ _ _ _ us hl => match us, hl with | [_], _ => rfl
theorem b_Program_invert {K : PySem.W.Frag} (D : Ds K) : Binds K D.fd_Program_invert ["self"] [] := D.F_Program_invert.bindsN fun _ _ _ _ _ _ us hl => match us, hl with | [_], _ => rfl
theorem b_check_text {K : PySem.W.Frag} (D : Ds K) : Binds K D.fd_check_text ["text"] [] := D.F_check_text.bindsN fun _ _ _ _ _ _ us hl => match us, hl with | [_], _ => rfl
theorem b_check_program {K : PySem.W.Frag} (D : Ds K) : Binds K D.fd_check_program ["program"] [] := D.F_check_program.bindsN fun _ _ _ _ _ _ us hl => match us, hl with | [_], _ => rfl
theorem b_check_index {K : PySem.W.Frag} (D : Ds K) : Binds K D.fd_check_index ["index", "most"] [] := D.F_check_index.bindsN fun _ _ _ _ _ _ us hl => match us, hl with | [_, _], _ => rfl
theorem b_Motion_init {K : PySem.W.Frag} (D : Ds K) : Binds K D.fd_Motion_init ["self", "turn", "dx", "dy"] [] := D.F_Motion_init.bindsN fun _ _ _ _ _ _ us hl => match us, hl with | [_, _, _, _], _ => rfl
theorem b_Motion_turn {K : PySem.W.Frag} (D : Ds K) : Binds K D.fd_Motion_turn ["self"] [] := D.F_Motion_turn.bindsN fun _ _ _ _ _ _ us hl => match us, hl with | [_], _ => rfl
theorem b_Motion_shift {K : PySem.W.Frag} (D : Ds K) : Binds K D.fd_Motion_shift ["self"] [] := D.F_Motion_shift.bindsN fun _ _ _ _ _ _ us hl => match us, hl with | [_], _ => rfl
theorem b_Motion_call {K : PySem.W.Frag} (D : Ds K) : Binds K D.fd_Motion_call ["self", "pose"] [] := D.F_Motion_call.bindsN fun _ _ _ _ _ _ us hl => match us, hl with | [_, _], _ => rfl
theorem b_Motion_eq {K : PySem.W.Frag} (D : Ds K) : Binds K D.fd_Motion_eq ["self", "other"] [] := D.F_Motion_eq.bindsN fun _ _ _ _ _ _ us hl => match us, hl with | [_, _], _ => rfl
theorem b_Motion_add {K : PySem.W.Frag} (D : Ds K) : Binds K D.fd_Motion_add ["self", "other"] [] := D.F_Motion_add.bindsN fun _ _ _ _ _ _ us hl => match us, hl with | [_, _], _ => rfl
theorem b_Motion_mul {K : PySem.W.Frag} (D : Ds K) : Binds K D.fd_Motion_mul ["self", "other"] [] := D.F_Motion_mul.bindsN fun _ _ _ _ _ _ us hl => match us, hl with | [_, _], _ => rfl
theorem b_Motion_neg {K : PySem.W.Frag} (D : Ds K) : Binds K D.fd_Motion_neg ["self"] [] := D.F_Motion_neg.bindsN fun _ _ _ _ _ _ us hl => match us, hl with | [_], _ => rfl
theorem b_Motion_order {K : PySem.W.Frag} (D : Ds K) : Binds K D.fd_Motion_order ["self"] [] := D.F_Motion_order.bindsN fun _ _ _ _ _ _ us hl => match us, hl with | [_], _ => rfl
theorem b_motion_of {K : PySem.W.Frag} (D : Ds K) : Binds K D.fd_motion_of ["program"] [] := D.F_motion_of.bindsN fun _ _ _ _ _ _ us hl => match us, hl with | [_], _ => rfl
theorem b_motion_of_letter {K : PySem.W.Frag} (D : Ds K) : Binds K D.fd_motion_of_letter ["letter"] [] := D.F_motion_of_letter.bindsN fun _ _ _ _ _ _ us hl => match us, hl with | [_], _ => rfl
theorem b_turned_point {K : PySem.W.Frag} (D : Ds K) : Binds K D.fd_turned_point ["point", "quarters"] [] := D.F_turned_point.bindsN fun _ _ _ _ _ _ us hl => match us, hl with | [_, _], _ => rfl
theorem b_check_motion {K : PySem.W.Frag} (D : Ds K) : Binds K D.fd_check_motion ["motion"] [] := D.F_check_motion.bindsN fun _ _ _ _ _ _ us hl => match us, hl with | [_], _ => rfl
theorem b__motion_until {K : PySem.W.Frag} (D : Ds K) : Binds K D.fd__motion_until ["parts", "index"] [] := D.F__motion_until.bindsN fun _ _ _ _ _ _ us hl => match us, hl with | [_, _], _ => rfl
theorem b__motion_in_part {K : PySem.W.Frag} (D : Ds K) : Binds K D.fd__motion_in_part ["part", "index"] [] := D.F__motion_in_part.bindsN fun _ _ _ _ _ _ us hl => match us, hl with | [_, _], _ => rfl
theorem b__law_tank {K : PySem.W.Frag} (D : Ds K) : Binds K D.fd__law_tank ["script", "k"] [] := D.F__law_tank.bindsN fun _ _ _ _ _ _ us hl => match us, hl with | [_, _], _ => rfl
theorem b__law_dip {K : PySem.W.Frag} (D : Ds K) : Binds K D.fd__law_dip ["tank", "bound"] [] := D.F__law_dip.bindsN fun _ _ _ _ _ _ us hl => match us, hl with | [_, _], _ => rfl
theorem b__law_made {K : PySem.W.Frag} (D : Ds K) : Binds K D.fd__law_made ["tank", "most"] [] := D.F__law_made.bindsN fun _ _ _ _ _ _ us hl => match us, hl with | [_, _], _ => rfl
theorem b__law_poses {K : PySem.W.Frag} (D : Ds K) : Binds K D.fd__law_poses ["steps", "first"] [] := D.F__law_poses.bindsN fun _ _ _ _ _ _ us hl => match us, hl with | [_, _], _ => rfl
theorem b__law_start {K : PySem.W.Frag} (D : Ds K) : Binds K D.fd__law_start ["tank"] [] := D.F__law_start.bindsN fun _ _ _ _ _ _ us hl => match us, hl with | [_], _ => rfl
theorem b__law_motion {K : PySem.W.Frag} (D : Ds K) : Binds K D.fd__law_motion ["steps"] [] := D.F__law_motion.bindsN fun _ _ _ _ _ _ us hl => match us, hl with | [_], _ => rfl
theorem b__law_led {K : PySem.W.Frag} (D : Ds K) : Binds K D.fd__law_led ["motion_here", "pose_here"] [] := D.F__law_led.bindsN fun _ _ _ _ _ _ us hl => match us, hl with | [_, _], _ => rfl
theorem b__law_right {K : PySem.W.Frag} (D : Ds K) : Binds K D.fd__law_right ["tank"] [] := D.F__law_right.bindsN fun _ _ _ _ _ _ us hl => match us, hl with | [_], _ => rfl
theorem b_law {K : PySem.W.Frag} (D : Ds K) : Binds K D.fd_law ["script"] [] := D.F_law.bindsN fun _ _ _ _ _ _ us hl => match us, hl with | [_], _ => rfl
abbrev Rw : PySem.W.OpenRow := PySem.W.OpenLaw.row PySem.Challenge.rw_plotpens_k15_motions_of_endless_programs
def tabs : List He.Tab := [(fun K => He.ga K "MOVE_SHIFTS", ["f", "b"]), (fun K => He.ga K "TURNS", ["l", "r"])]
def as0 : List Addr := [3, 6, 4, 24, 44, 63, 82, 94, 106, 118, 130, 142, 154, 163, 170, 177, 184, 191, 198, 205, 212, 213, 214, 215, 222, 229, 236, 243, 248, 255, 262, 269, 286, 295, 300, 307, 314, 321, 411, 422, 429, 436, 437, 440, 515, 526, 535, 542, 549, 556, 563, 570, 577, 584, 591, 598, 605, 612, 619, 626, 633, 0, 23, 43, 62, 81, 93, 105, 117, 129, 141, 153, 162, 169, 176, 183, 190, 197, 204, 211, 221, 228, 235, 242, 247, 254, 261, 268, 285, 294, 299, 306, 313, 320, 410, 421, 428, 435, 438, 439]
def as1 : List Addr := [514, 525, 534, 528, 541, 548, 555, 562, 569, 576, 583, 590, 597, 604, 611, 618, 625, 632, 22, 25, 41, 42, 60, 61, 79, 80, 92, 104, 116, 128, 140, 152, 157, 158, 159, 160, 161, 164, 165, 166, 167, 168, 171, 172, 173, 174, 175, 178, 179, 180, 181, 182, 185, 186, 187, 188, 189, 192, 193, 194, 195, 196, 199, 200, 201, 202, 203, 206, 207, 208, 209, 210, 216, 217, 218, 219, 220, 223, 224, 225, 226, 227, 230, 231, 232, 233, 234, 237, 238, 239, 240, 241, 244, 245, 246, 249, 250, 251, 252, 253]
def as2 : List Addr := [256, 257, 258, 259, 260, 263, 264, 265, 266, 267, 283, 284, 287, 288, 291, 292, 293, 296, 297, 298, 301, 302, 303, 304, 305, 308, 309, 310, 311, 312, 315, 316, 317, 318, 319, 335, 343, 351, 359, 366, 373, 380, 387, 394, 401, 408, 409, 412, 413, 416, 417, 418, 419, 420, 423, 424, 425, 426, 427, 430, 431, 432, 433, 434, 454, 462, 470, 477, 484, 491, 498, 505, 512, 513, 516, 517, 520, 521, 522, 523, 524, 529, 530, 531, 532, 533, 527, 536, 537, 538, 539, 540, 543, 544, 545, 546, 547, 550, 551, 552]
def as3 : List Addr := [553, 554, 557, 558, 559, 560, 561, 564, 565, 566, 567, 568, 571, 572, 573, 574, 575, 578, 579, 580, 581, 582, 585, 586, 587, 588, 589, 592, 593, 594, 595, 596, 599, 600, 601, 602, 603, 606, 607, 608, 609, 610, 613, 614, 615, 616, 617, 620, 621, 622, 623, 624, 627, 628, 629, 630, 631, 40, 59, 78, 282, 334, 342, 350, 358, 365, 372, 379, 386, 393, 400, 407, 453, 461, 469, 476, 483, 490, 497, 504, 511, 35, 36, 37, 38, 39, 54, 55, 56, 57, 58, 73, 74, 75, 76, 77, 277, 278, 279, 280]
def as4 : List Addr := [281, 329, 330, 331, 332, 333, 341, 349, 357, 360, 361, 362, 363, 364, 367, 368, 369, 370, 371, 374, 375, 376, 377, 378, 381, 382, 383, 384, 385, 388, 389, 390, 391, 392, 395, 396, 397, 398, 399, 402, 403, 404, 405, 406, 448, 449, 450, 451, 452, 460, 468, 471, 472, 473, 474, 475, 478, 479, 480, 481, 482, 485, 486, 487, 488, 489, 492, 493, 494, 495, 496, 499, 500, 501, 502, 503, 506, 507, 508, 509, 510, 336, 337, 338, 339, 340, 344, 345, 346, 347, 348, 352, 353, 354, 355, 356, 455, 456, 457, 458]
def as5 : List Addr := [459, 463, 464, 465, 466, 467, 1]
def as_ : List Addr := as0 ++ as1 ++ as2 ++ as3 ++ as4 ++ as5
abbrev hk : PySem.W.Hook := HQ.hookLQ as_ facts fns tabs
def ob (s : PySem.W.SharedT) : HQ.AlQ := HQ.obsLQ as_ facts fns tabs (HandSHeadRun.getT s)
theorem ob_eq (s : PySem.W.SharedT) : ob s = hk.obs s.abs := HQ.obsLQ_eq (HandSHeadRun.getT_eq s)
end K15

set_option Elab.async false
set_option linter.all false
set_option maxRecDepth 100000
set_option maxHeartbeats 0
namespace K15
open PySem PySem.Spec PyProof.Rows L2
theorem rb0 (w : World) : HP.BaseEq Rw (PySem.W.view Rw.prog [68]) 12000 names (w.withFollow "special-get-raises" false) := by
  intro os
  kernel_rfl
theorem rp0_0 (w : World) : HP.PartEq Rw 12000 as_ (fa0 ++ fa1 ++ fa2 ++ fa3) [] (w.withFollow "special-get-raises" false) := by
  intro os
  kernel_rfl
theorem rp0_1 (w : World) : HP.PartEq Rw 12000 as_ (fa4 ++ fa5 ++ fa6) fns (w.withFollow "special-get-raises" false) := by
  intro os
  kernel_rfl
theorem rt0 (w : World) : HQ.TabEq Rw 12000 as_ tabs (w.withFollow "special-get-raises" false) := by
  intro os
  kernel_rfl
theorem run0 (w : World) : HandSHeadRun.RunEq Rw (PySem.W.view Rw.prog [68]) hk ob 12000 names (w.withFollow "special-get-raises" false) := HQ.run_joinQ (rb0 w) (by
  have e := (rp0_0 w).app (rp0_1 w)
  simp only [List.append_assoc, List.nil_append] at e
  unfold facts
  simp only [List.append_assoc]
  exact e) (rt0 w)
theorem rb1 (w : World) : HP.BaseEq Rw (PySem.W.view Rw.prog [68]) 12000 names (w.withFollow "special-get-raises" true) := by
  intro os
  kernel_rfl
theorem rp1_0 (w : World) : HP.PartEq Rw 12000 as_ (fa0 ++ fa1 ++ fa2 ++ fa3) [] (w.withFollow "special-get-raises" true) := by
  intro os
  kernel_rfl
theorem rp1_1 (w : World) : HP.PartEq Rw 12000 as_ (fa4 ++ fa5 ++ fa6) fns (w.withFollow "special-get-raises" true) := by
  intro os
  kernel_rfl
theorem rt1 (w : World) : HQ.TabEq Rw 12000 as_ tabs (w.withFollow "special-get-raises" true) := by
  intro os
  kernel_rfl
theorem run1 (w : World) : HandSHeadRun.RunEq Rw (PySem.W.view Rw.prog [68]) hk ob 12000 names (w.withFollow "special-get-raises" true) := HQ.run_joinQ (rb1 w) (by
  have e := (rp1_0 w).app (rp1_1 w)
  simp only [List.append_assoc, List.nil_append] at e
  unfold facts
  simp only [List.append_assoc]
  exact e) (rt1 w)
theorem run (w : World) : HandSHeadRun.RunEq Rw (PySem.W.view Rw.prog [68]) hk ob 12000 names w := PySem.W.byRow2 "special-get-raises" (P := fun w => HandSHeadRun.RunEq Rw (PySem.W.view Rw.prog [68]) hk ob 12000 names w) run0 run1 w
end K15

/-! motions of the plane: mathematics -/
namespace M13
def rot : Nat → Int × Int → Int × Int
  | 0, p => p
  | n + 1, p => (-(rot n p).2, (rot n p).1)
abbrev M3 := Nat × Int × Int
def cmp (m n : M3) : M3 := ((m.1 + n.1) % 4, m.2.1 + (rot m.1 n.2).1, m.2.2 + (rot m.1 n.2).2)
def idM : M3 := (0, 0, 0)
def npow (m : M3) : Nat → M3
  | 0 => idM
  | k + 1 => cmp (npow m k) m
def inv (m : M3) : M3 := ((4 - m.1) % 4, rot ((4 - m.1) % 4) (-m.2.1, -m.2.2))
def zpow (m : M3) : Int → M3
  | .ofNat n => npow m n
  | .negSucc n => npow (inv m) (n + 1)
/-- a motion at a pose -/
def act (m : M3) (p : Int × Int × Nat) : Int × Int × Nat := (p.1 + (rot p.2.2 m.2).1, p.2.1 + (rot p.2.2 m.2).2, (p.2.2 + m.1) % 4)
theorem le3 {n : Nat} (h : n ≤ 3) : n = 0 ∨ n = 1 ∨ n = 2 ∨ n = 3 := by omega
theorem cmp_le (m n : M3) : (cmp m n).1 ≤ 3 := by
  show (m.1 + n.1) % 4 ≤ 3
  omega
theorem inv_le (m : M3) : (inv m).1 ≤ 3 := by
  show (4 - m.1) % 4 ≤ 3
  omega
theorem npow_le (m : M3) : ∀ k, (npow m k).1 ≤ 3
  | 0 => Nat.zero_le _
  | k + 1 => cmp_le _ _
theorem zpow_le (m : M3) : ∀ z, (zpow m z).1 ≤ 3
  | .ofNat n => npow_le m n
  | .negSucc n => npow_le (inv m) (n + 1)
theorem rot_add (a b : Nat) (p : Int × Int) : rot (a + b) p = rot a (rot b p) := by
  induction a with
  | zero => rw [Nat.zero_add]; rfl
  | succ a ih =>
    rw [show a + 1 + b = (a + b) + 1 by omega]
    show (-(rot (a + b) p).2, (rot (a + b) p).1) = _
    rw [ih]
    rfl
theorem rot4 (p : Int × Int) : rot 4 p = p := by
  obtain ⟨x, y⟩ := p
  simp [rot]
theorem rot_mod (n : Nat) (p : Int × Int) : rot (n % 4) p = rot n p := by
  have h : ∀ q r : Nat, rot (4 * q + r) p = rot r p := by
    intro q
    induction q with
    | zero => intro r; rw [Nat.mul_zero, Nat.zero_add]
    | succ q ih =>
      intro r
      rw [show 4 * (q + 1) + r = 4 + (4 * q + r) by omega, rot_add, rot4, ih]
  rw [← h (n / 4) (n % 4), Nat.div_add_mod]
theorem rot_lin (n : Nat) (a b : Int) (p q : Int × Int) : rot n (a * p.1 + b * q.1, a * p.2 + b * q.2) = (a * (rot n p).1 + b * (rot n q).1, a * (rot n p).2 + b * (rot n q).2) := by
  induction n with
  | zero => rfl
  | succ n ih =>
    show (-(rot n _).2, (rot n _).1) = (a * -(rot n p).2 + b * -(rot n q).2, a * (rot n p).1 + b * (rot n q).1)
    rw [ih]
    refine Prod.ext ?_ rfl
    show -(a * (rot n p).2 + b * (rot n q).2) = a * -(rot n p).2 + b * -(rot n q).2
    rw [Int.mul_neg, Int.mul_neg]
    omega
theorem rot_plus (n : Nat) (p q : Int × Int) : rot n (p.1 + q.1, p.2 + q.2) = ((rot n p).1 + (rot n q).1, (rot n p).2 + (rot n q).2) := by
  have h := rot_lin n 1 1 p q
  simpa only [Int.one_mul] using h
theorem rot_smul (n : Nat) (a : Int) (p : Int × Int) : rot n (a * p.1, a * p.2) = (a * (rot n p).1, a * (rot n p).2) := by
  have h := rot_lin n a 0 p p
  simpa only [Int.zero_mul, Int.add_zero] using h
theorem rot_zero (n : Nat) : rot n (0, 0) = (0, 0) := by
  induction n with
  | zero => rfl
  | succ n ih =>
    show (-(rot n (0, 0)).2, (rot n (0, 0)).1) = (0, 0)
    rw [ih]
    rfl
/-- two motions one behind the other -/
theorem act_cmp (m n : M3) (p : Int × Int × Nat) : act (cmp m n) p = act n (act m p) := by
  obtain ⟨x, y, h⟩ := p
  unfold act cmp
  have e1 : rot h (m.2.1 + (rot m.1 n.2).1, m.2.2 + (rot m.1 n.2).2) = ((rot h m.2).1 + (rot (h + m.1) n.2).1, (rot h m.2).2 + (rot (h + m.1) n.2).2) := by
    rw [rot_plus h m.2 (rot m.1 n.2), rot_add]
  have e2 : rot ((h + m.1) % 4) n.2 = rot (h + m.1) n.2 := rot_mod _ _
  refine Prod.ext ?_ (Prod.ext ?_ ?_)
  · show x + (rot h (m.2.1 + (rot m.1 n.2).1, m.2.2 + (rot m.1 n.2).2)).1 = x + (rot h m.2).1 + (rot ((h + m.1) % 4) n.2).1
    rw [e1, e2]
    show x + ((rot h m.2).1 + (rot (h + m.1) n.2).1) = _
    omega
  · show y + (rot h (m.2.1 + (rot m.1 n.2).1, m.2.2 + (rot m.1 n.2).2)).2 = y + (rot h m.2).2 + (rot ((h + m.1) % 4) n.2).2
    rw [e1, e2]
    show y + ((rot h m.2).2 + (rot (h + m.1) n.2).2) = _
    omega
  · show (h + (m.1 + n.1) % 4) % 4 = ((h + m.1) % 4 + n.1) % 4
    omega
theorem act_id (p : Int × Int × Nat) (hp : p.2.2 ≤ 3) : act idM p = p := by
  obtain ⟨x, y, h⟩ := p
  unfold act idM
  show (x + (rot h (0, 0)).1, y + (rot h (0, 0)).2, (h + 0) % 4) = (x, y, h)
  rw [rot_zero]
  show (x + 0, y + 0, (h + 0) % 4) = (x, y, h)
  rw [Int.add_zero, Int.add_zero, Nat.add_zero, Nat.mod_eq_of_lt (show h < 4 from Nat.lt_succ_of_le hp)]
theorem act_le (m : M3) (p : Int × Int × Nat) : (act m p).2.2 ≤ 3 := by
  show (p.2.2 + m.1) % 4 ≤ 3
  omega
/-- what a motion does at (0, 0, 0) tells it -/
theorem act0 (m : M3) (hm : m.1 ≤ 3) : act m (0, 0, 0) = (m.2.1, m.2.2, m.1) := by
  obtain ⟨t, x, y⟩ := m
  show (0 + x, 0 + y, (0 + t) % 4) = (x, y, t)
  rw [Int.zero_add, Int.zero_add, Nat.zero_add, Nat.mod_eq_of_lt (show t < 4 from Nat.lt_succ_of_le hm)]
/-- motions that act alike are equal -/
theorem ext_act {m n : M3} (hm : m.1 ≤ 3) (hn : n.1 ≤ 3) (h : act m (0, 0, 0) = act n (0, 0, 0)) : m = n := by
  rw [act0 m hm, act0 n hn] at h
  obtain ⟨t, x, y⟩ := m
  obtain ⟨u, z, v⟩ := n
  simp only [Prod.mk.injEq] at h ⊢
  omega
theorem cmp_assoc (a b c : M3) : cmp (cmp a b) c = cmp a (cmp b c) :=
  ext_act (cmp_le _ _) (cmp_le _ _) (by rw [act_cmp, act_cmp, act_cmp, act_cmp])
theorem cmp_id (a : M3) (h : a.1 ≤ 3) : cmp a idM = a := ext_act (cmp_le _ _) h (by rw [act_cmp, act_id _ (act_le _ _)])
theorem id_cmp (a : M3) (h : a.1 ≤ 3) : cmp idM a = a := ext_act (cmp_le _ _) h (by rw [act_cmp, act_id _ (Nat.zero_le _)])
theorem cmp_inv (a : M3) (h : a.1 ≤ 3) : cmp a (inv a) = idM := by
  obtain ⟨t, x, y⟩ := a
  rcases le3 h with rfl | rfl | rfl | rfl <;> simp [cmp, inv, idM, rot] <;> omega
theorem inv_cmp (a : M3) (h : a.1 ≤ 3) : cmp (inv a) a = idM := by
  obtain ⟨t, x, y⟩ := a
  rcases le3 h with rfl | rfl | rfl | rfl <;> simp [cmp, inv, idM, rot] <;> omega
theorem npow_one (m : M3) (h : m.1 ≤ 3) : npow m 1 = m := id_cmp m h
theorem npow_succ' (m : M3) (h : m.1 ≤ 3) : ∀ k, npow m (k + 1) = cmp m (npow m k)
  | 0 => by
    show cmp idM m = cmp m idM
    rw [id_cmp m h, cmp_id m h]
  | k + 1 => by
    show cmp (npow m (k + 1)) m = cmp m (cmp (npow m k) m)
    rw [npow_succ' m h k, cmp_assoc]
theorem npow_add (m : M3) (h : m.1 ≤ 3) (a : Nat) : ∀ b, npow m (a + b) = cmp (npow m a) (npow m b)
  | 0 => (cmp_id _ (npow_le _ _)).symm
  | b + 1 => by
    show cmp (npow m (a + b)) m = cmp (npow m a) (cmp (npow m b) m)
    rw [npow_add m h a b, cmp_assoc]
theorem npow_back (m : M3) (h : m.1 ≤ 3) : ∀ k, cmp (npow m k) (npow (inv m) k) = idM
  | 0 => rfl
  | k + 1 => by
    rw [npow_succ' (inv m) (inv_le m)]
    show cmp (cmp (npow m k) m) (cmp (inv m) (npow (inv m) k)) = idM
    rw [cmp_assoc, ← cmp_assoc m (inv m), cmp_inv m h, id_cmp _ (npow_le _ _)]
    exact npow_back m h k
/-- no turn: a shift so often -/
theorem npow_shift (x y : Int) : ∀ k : Nat, npow (0, x, y) k = (0, k * x, k * y)
  | 0 => by simp [npow, idM]
  | k + 1 => by
    show cmp (npow (0, x, y) k) (0, x, y) = _
    rw [npow_shift x y k]
    show ((0 : Nat), (k : Int) * x + x, (k : Int) * y + y) = (0, ((k + 1 : Nat) : Int) * x, ((k + 1 : Nat) : Int) * y)
    rw [show ((k + 1 : Nat) : Int) = (k : Int) + 1 by omega, Int.add_mul, Int.add_mul, Int.one_mul, Int.one_mul]
theorem npow4 (m : M3) (h : m.1 ≤ 3) (h0 : m.1 ≠ 0) : npow m 4 = idM := by
  obtain ⟨t, x, y⟩ := m
  rcases le3 h with rfl | rfl | rfl | rfl
  · exact absurd rfl h0
  all_goals simp [npow, cmp, idM, rot]
  all_goals omega
theorem npow_mod (m : M3) (h : m.1 ≤ 3) (h0 : m.1 ≠ 0) (k : Nat) : npow m (k % 4) = npow m k := by
  have h4 : ∀ q r : Nat, npow m (4 * q + r) = npow m r := by
    intro q
    induction q with
    | zero => intro r; rw [Nat.mul_zero, Nat.zero_add]
    | succ q ih =>
      intro r
      rw [show 4 * (q + 1) + r = 4 + (4 * q + r) by omega, npow_add m h, npow4 m h h0, id_cmp _ (npow_le _ _), ih]
  rw [← h4 (k / 4) (k % 4), Nat.div_add_mod]
theorem act_npow_succ (m : M3) (k : Nat) (p : Int × Int × Nat) : act (npow m (k + 1)) p = act m (act (npow m k) p) := act_cmp _ _ _
theorem zpow_nat (m : M3) (n : Nat) : zpow m (n : Int) = npow m n := rfl
theorem zpow_neg (m : M3) : ∀ n : Nat, zpow m (-(n : Int)) = npow (inv m) n
  | 0 => rfl
  | n + 1 => by
    show zpow m (Int.negSucc n) = _
    rfl
theorem zpow_back (m : M3) (h : m.1 ≤ 3) (n : Nat) : cmp (zpow m n) (zpow m (-(n : Int))) = idM := by
  rw [zpow_nat, zpow_neg]
  exact npow_back m h n
/-- the least number of times that leads back, at least 1 -/
def ord (m : M3) : Option Nat := if m.1 = 0 then (if m.2 = (0, 0) then some 1 else none) else if m.1 = 2 then some 2 else some 4
theorem ord_at (m : M3) (h : m.1 ≤ 3) : ord m = if npow m 1 = idM then some 1 else if npow m 2 = idM then some 2 else if npow m 3 = idM then some 3 else if npow m 4 = idM then some 4 else none := by
  obtain ⟨t, x, y⟩ := m
  rcases le3 h with rfl | rfl | rfl | rfl
  · rw [npow_shift, npow_shift, npow_shift, npow_shift]
    unfold ord idM
    by_cases hx : x = 0
    · subst hx
      by_cases hy : y = 0
      · subst hy
        simp
      · have h2 : ¬ (2 * y = 0) := by omega
        have h3 : ¬ (3 * y = 0) := by omega
        have h4 : ¬ (4 * y = 0) := by omega
        simp [hy, h2, h3, h4]
    · have h2 : ¬ (2 * x = 0) := by omega
      have h3 : ¬ (3 * x = 0) := by omega
      have h4 : ¬ (4 * x = 0) := by omega
      simp [hx, h2, h3, h4]
  · have e1 : npow (1, x, y) 1 ≠ idM := by simp [npow, cmp, idM, rot]
    have e2 : npow (1, x, y) 2 ≠ idM := by simp [npow, cmp, idM, rot]
    have e3 : npow (1, x, y) 3 ≠ idM := by simp [npow, cmp, idM, rot]
    rw [if_neg e1, if_neg e2, if_neg e3, if_pos (npow4 _ (by decide : 1 ≤ 3) (by decide : 1 ≠ 0))]
    rfl
  · have e1 : npow (2, x, y) 1 ≠ idM := by simp [npow, cmp, idM, rot]
    have e2 : npow (2, x, y) 2 = idM := by
      simp [npow, cmp, idM, rot]
      omega
    rw [if_neg e1, if_pos e2]
    rfl
  · have e1 : npow (3, x, y) 1 ≠ idM := by simp [npow, cmp, idM, rot]
    have e2 : npow (3, x, y) 2 ≠ idM := by simp [npow, cmp, idM, rot]
    have e3 : npow (3, x, y) 3 ≠ idM := by simp [npow, cmp, idM, rot]
    rw [if_neg e1, if_neg e2, if_neg e3, if_pos (npow4 _ (by decide : 3 ≤ 3) (by decide : 3 ≠ 0))]
    rfl
end M13

set_option Elab.async false
set_option linter.all false
set_option maxRecDepth 100000
set_option maxHeartbeats 4000000
namespace K15M
open PySem PySem.Spec PyProof.Rows L2 RT K15
theorem same_new {H : Hp} {p : Addr} {o : HO} (h : H p = none) : Same H (upd H p o) := fun b x e => by
  rw [upd_ne (ne_of_none e h)]
  exact e
theorem Same.sqt {K : PySem.W.Frag} {H H' : Hp} {a : Addr} {xs : List V} (e : Same H H') (h : SqT K H a xs) : SqT K H' a xs := by
  rcases h with (h | ⟨o, h⟩) | h
  · exact .inl (.inl (e _ _ h))
  · exact .inl (.inr ⟨o, e _ _ h⟩)
  · exact .inr h
theorem tupT {K : PySem.W.Frag} {H : Hp} {a : Addr} {xs : List V} (h : H a = some (.tup xs)) : SqT K H a xs := .inl (.inl h)
theorem lstL {K : PySem.W.Frag} {H : Hp} {a : Addr} {xs : List V} (h : H a = some (.lst xs)) : SqL K H a xs := .inl (.inl h)
/-- all but the list at t is as it was -/
def Keep (t : Addr) (H H' : Hp) : Prop := ∀ b o, b ≠ t → H b = some o → H' b = some o
theorem Keep.refl (t : Addr) (H : Hp) : Keep t H H := fun _ _ _ h => h
theorem Keep.trans {t : Addr} {H H1 H2 : Hp} (a : Keep t H H1) (b : Keep t H1 H2) : Keep t H H2 := fun c o n h => b c o n (a c o n h)
theorem Same.keep {t : Addr} {H H' : Hp} (e : Same H H') : Keep t H H' := fun b o _ h => e b o h
theorem keep_upd {t : Addr} {H : Hp} {o : HO} : Keep t H (upd H t o) := fun b u n h => by
  rw [upd_ne n]
  exact h
/-- the state of a cell's draws: digits, a number, a counter -/
def Tk (H : Hp) (t : Addr) (c : Nat) : Prop := ∃ A B : Int, H t = some (.lst [.int A, .int B, .int c]) ∧ 0 ≤ A ∧ 0 ≤ B ∧ B < 10000000000000000000000000000000000000000
theorem Tk.same {H H' : Hp} {t : Addr} {c : Nat} (h : Tk H t c) (e : Same H H') : Tk H' t c := by
  obtain ⟨A, B, h1, h2⟩ := h
  exact ⟨A, B, e _ _ h1, h2⟩
theorem p18 : (10 : Int) ^ ((18 : Int).toNat) = 1000000000000000000 := by decide
theorem p39 : (10 : Int) ^ ((39 : Int).toNat) = 1000000000000000000000000000000000000000 := by decide
theorem p42 : (10 : Int) ^ ((42 : Int).toNat) = 1000000000000000000000000000000000000000000 := by decide
theorem p41 : (10 : Int) ^ ((41 : Int).toNat) = 100000000000000000000000000000000000000000 := by decide
theorem pw_ok {j : Int} (h0 : 0 ≤ j) (h : j ≤ 1000000) : CPow 10 j := ⟨h0, h, by decide⟩
theorem bits_le {i : Int} {n : Nat} (hn : 0 < n) (h : i.natAbs < 2 ^ n) : Builtin.Int.intBits i ≤ n := by
  have h2 := PySem.Flt.log2_lt_of hn h
  unfold Builtin.Int.intBits
  split <;> omega
theorem cube_ok {i : Int} (h0 : 0 ≤ i) (h : i < 2 ^ 200) : CPowW i 3 := by
  have b : Builtin.Int.intBits i ≤ 200 := bits_le (by decide) (by omega)
  refine ⟨by decide, ?_⟩
  have e : ((Builtin.Int.intBits i : Nat) : Int) ≤ 200 := by omega
  omega
section
variable {P : Program} {w : World} {K : PySem.W.Frag} {mg : Str → Option Value} {base : Heap}
def spTank (K : PySem.W.Frag) : Sp := fun vs H Q _ => ∃ (a : Addr) (ns : List Int) (k : Nat), vs = [.ref a, .int k] ∧ SqL K H a (ns.map V.int) ∧ k ≤ 100 ∧ ∀ t H', Same H H' → H t = none → Tk H' t 0 → Q (.ref t) H'
theorem ok_tank (D : Ds K) (T : Tx K mg) : FnOk P w K mg base CX0 1 (d_law_tank.adr K) D.fd__law_tank ["script", "k"] (spTank K) := by
  refine D.F__law_tank.ok sc_law_tank (fun vs H Q E h => ?_) (fun cdv A outer s H vs Q E hr h => ?_)
  · obtain ⟨a, ns, k, rfl, _⟩ := h
    rfl
  · obtain ⟨a, ns, k, rfl, hS, hk, q⟩ := h
    have nd := sc_law_tank.nd
    refine ⟨_, PSs.nox (pss_cons (ps_set (i := 2) nd rfl (.inl rfl) pe_int)
      (pss_cons (ps_if (pt_cmpR op_lt (pv 1) (pe_callB call_len_seq (by rfl) T.z_len PySem.boot_len (pa_cons (pv 0) pa_nil)) (nomark _)) (pss_one (ps_set (i := 2) nd rfl (.inl rfl) (pe_ix ix_list (pv 0) (pv 1) (fun _ _ => rfl)))) pss_nil)
      (pss_one (ps_ret (pe_lst (pa_cons (pe_callB (call_max2 rfl) (by rfl) T.z_max (by decide +kernel) (pa_cons pe_int (pa_cons (pe_op op_sub (pv 2) (pe_op op_pow pe_int pe_int)) pa_nil)))
        (pa_cons (pe_op op_add (pe_op op_add (pe_op op_mod (pv 2) (pe_op op_add (pe_op op_pow pe_int pe_int) pe_int)) (pe_op op_mul pe_int (pv 1))) pe_int) (pa_cons pe_int pa_nil)))))))), ?_⟩
    refine ⟨_, rfl, _, rfl, a, _, rfl, .inl hS, _, _, rfl, rfl, _, rfl, ite2 (fun e => ?_) (fun e => ?_)⟩
    · have hk2 : k < ns.length := by
        have e2 := of_decide_eq_true e
        rw [List.length_map] at e2
        omega
      have g : (ns.map V.int)[k]? = some (.int ns[k]) := by
        rw [List.getElem?_map, List.getElem?_eq_getElem hk2]
        rfl
      refine ⟨_, rfl, _, rfl, a, _, _, _, rfl, rfl, hS, atI_nat g, ?_⟩
      refine ⟨_, rfl, _, _, rfl, rfl, pw_ok (by decide) (by decide), _, _, rfl, rfl, _, _, rfl, ?_⟩
      refine ⟨_, rfl, _, _, rfl, rfl, pw_ok (by decide) (by decide), _, _, rfl, rfl, _, _, rfl, rfl, (by show (0 : Int) < _; rw [p39]; decide), _, rfl, _, _, rfl, rfl, .inl ⟨by decide, by decide⟩, _, _, rfl, rfl, _, _, rfl, rfl, by show 3 ≤ sizeLine; decide, fun p hp => ?_⟩
      refine q p _ (same_new hp) hp ⟨_, _, upd_same, ?_, ?_⟩
      · split <;> omega
      · rw [p39]
        omega
    · refine ⟨_, rfl, _, _, rfl, rfl, pw_ok (by decide) (by decide), _, _, rfl, rfl, _, _, rfl, ?_⟩
      refine ⟨_, rfl, _, _, rfl, rfl, pw_ok (by decide) (by decide), _, _, rfl, rfl, _, _, rfl, rfl, (by show (0 : Int) < _; rw [p39]; decide), _, rfl, _, _, rfl, rfl, .inl ⟨by decide, by decide⟩, _, _, rfl, rfl, _, _, rfl, rfl, by show 3 ≤ sizeLine; decide, fun p hp => ?_⟩
      refine q p _ (same_new hp) hp ⟨_, _, upd_same, ?_, ?_⟩
      · split <;> omega
      · rw [p39]
        omega
def spDip : Sp := fun vs H Q _ => ∃ (t : Addr) (b : Int) (c : Nat), vs = [.ref t, .int b] ∧ Tk H t c ∧ c ≤ 100000000000000000000 ∧ 1 ≤ b ∧ b ≤ 10000000000000000000000000000000000000000 ∧
  ∀ (v : Int) (c' : Nat) H', Keep t H H' → Tk H' t c' → c ≤ c' → c' ≤ c + 1 → 0 ≤ v → v < b → Q (.int v) H'
theorem ok_dip (D : Ds K) (T : Tx K mg) : FnOk P w K mg base CX0 1 (d_law_dip.adr K) D.fd__law_dip ["tank", "bound"] spDip := by
  refine D.F__law_dip.ok sc_law_dip (fun vs H Q E h => ?_) (fun cdv A outer s H vs Q E hr h => ?_)
  · obtain ⟨t, b, c, rfl, _⟩ := h
    rfl
  · obtain ⟨t, b, c, rfl, ⟨A1, B, et, hA, hB, hB2⟩, hc, hb, hb2, q⟩ := h
    have nd := sc_law_dip.nd
    refine ⟨_, PSs.nox (pss_cons (ps_if (pt_cmpR op_gt (pe_ix ix_list (pv 0) pe_int (fun _ _ => rfl)) pe_int (nomark _))
        (pss_cons (ps_set (i := 2) nd rfl (.inl rfl) (pe_op op_mod (pe_ix ix_list (pv 0) pe_int (fun _ _ => rfl)) (pv 1)))
          (pss_cons (ps_asg (pe_op op_fdivW (pe_ix ix_list (pv 0) pe_int (fun _ _ => rfl)) (pv 1)) (pg_sub (pv 0) pe_int set_list)) (pss_one (ps_ret (pv 2))))) pss_nil)
      (pss_cons (ps_asg (pe_op op_add (pe_ix ix_list (pv 0) pe_int (fun _ _ => rfl)) pe_int) (pg_sub (pv 0) pe_int set_list))
      (pss_cons (ps_set (i := 3) nd rfl (.inl rfl) (pe_op op_mod (pe_op op_powW (pe_op op_add (pe_ix ix_list (pv 0) pe_int (fun _ _ => rfl)) (pe_op op_mul pe_int (pe_ix ix_list (pv 0) pe_int (fun _ _ => rfl)))) pe_int) (pe_op op_add (pe_op op_pow pe_int pe_int) pe_int)))
      (pss_cons (ps_set (i := 3) nd rfl (.inl rfl) (pe_op op_mod (pe_op op_powW (pe_op op_add (pv 3) (pe_op op_mul pe_int (pe_ix ix_list (pv 0) pe_int (fun _ _ => rfl)))) pe_int) (pe_op op_add (pe_op op_pow pe_int pe_int) pe_int)))
      (pss_one (ps_ret (pe_op op_mod (pe_op op_fdivW (pv 3) pe_int) (pv 1)))))))), ?_⟩
    have g0 : atI [V.int A1, V.int B, V.int c] 0 = some (.int A1) := atI_nat (j := 0) rfl
    refine ⟨_, rfl, t, _, 0, _, rfl, rfl, lstL et, g0, _, _, rfl, rfl, _, rfl, ite2 (fun e => ?_) (fun e => ?_)⟩
    · have e0 : 0 < A1 := of_decide_eq_true e
      refine ⟨_, rfl, t, _, 0, _, rfl, rfl, lstL et, g0, _, rfl, _, _, rfl, rfl, hb, ?_⟩
      refine ⟨_, rfl, t, _, 0, _, rfl, rfl, lstL et, g0, _, rfl, _, _, rfl, rfl, wide_div (b := 200) (by omega) (by omega) (by decide) (by decide), ?_⟩
      refine ⟨_, rfl, t, _, 0, 0, rfl, rfl, et, rfl, _, rfl, ?_⟩
      exact q _ c _ keep_upd ⟨_, B, upd_same, Int.ediv_nonneg hA (by omega), hB, hB2⟩ (Nat.le_refl _) (by omega) (Int.emod_nonneg _ (by omega)) (Int.emod_lt_of_pos _ (by omega))
    · have g2 : atI [V.int A1, V.int B, V.int c] 2 = some (.int c) := atI_nat (j := 2) rfl
      refine ⟨_, rfl, t, _, 2, _, rfl, rfl, lstL et, g2, _, _, rfl, rfl, _, rfl, t, _, 2, 2, rfl, rfl, et, rfl, ?_⟩
      have et2 : upd H t (.lst ([V.int A1, V.int B, V.int c].set 2 (.int ((c : Int) + 1)))) t = some (.lst [.int A1, .int B, .int ((c : Int) + 1)]) := upd_same
      have k1 : atI [V.int A1, V.int B, V.int ((c : Int) + 1)] 1 = some (.int B) := atI_nat (j := 1) rfl
      have k2 : atI [V.int A1, V.int B, V.int ((c : Int) + 1)] 2 = some (.int ((c : Int) + 1)) := atI_nat (j := 2) rfl
      refine ⟨_, rfl, t, _, 1, _, rfl, rfl, lstL et2, k1, _, rfl, t, _, 2, _, rfl, rfl, lstL et2, k2, _, _, rfl, rfl, .inl ⟨by decide, by decide⟩, _, _, rfl, rfl, _, _, rfl, rfl, cube_ok (by omega) (by omega), _, _, rfl, rfl, pw_ok (by decide) (by decide), _, _, rfl, rfl, _, _, rfl, rfl, (by show (0 : Int) < _; rw [p42]; decide), ?_⟩
      have m0 : 0 ≤ (B + 86028157 * ((c : Int) + 1)) ^ (3 : Int).toNat % (10 ^ (42 : Int).toNat + 63) := Int.emod_nonneg _ (by rw [p42]; decide)
      have m1 : (B + 86028157 * ((c : Int) + 1)) ^ (3 : Int).toNat % (10 ^ (42 : Int).toNat + 63) < 1000000000000000000000000000000000000000063 := by
        rw [p42]
        exact Int.emod_lt_of_pos _ (by decide)
      refine ⟨_, rfl, _, rfl, t, _, 2, _, rfl, rfl, lstL et2, k2, _, _, rfl, rfl, .inl ⟨by decide, by decide⟩, _, _, rfl, rfl, _, _, rfl, rfl, cube_ok (by omega) (by omega), _, _, rfl, rfl, pw_ok (by decide) (by decide), _, _, rfl, rfl, _, _, rfl, rfl, (by show (0 : Int) < _; rw [p41]; decide), ?_⟩
      refine ⟨_, rfl, _, _, rfl, rfl, wide_div (b := 200) (by decide) (by decide) (by decide) (by decide), _, rfl, _, _, rfl, rfl, hb, ?_⟩
      exact q _ (c + 1) _ keep_upd ⟨A1, B, by rw [et2]; rfl, hA, hB, hB2⟩ (by omega) (Nat.le_refl _) (Int.emod_nonneg _ (by omega)) (Int.emod_lt_of_pos _ (by omega))
end
end K15M

set_option Elab.async false
set_option linter.all false
set_option maxRecDepth 100000
set_option maxHeartbeats 4000000
namespace K15M
open PySem PySem.Spec PyProof.Rows L2 RT K15
abbrev Big : Int := 1000000000000000000000000000000000000000000000000000000000000000000000000000000000000000000000000000
theorem p30 : (10 : Int) ^ ((30 : Int).toNat) = 1000000000000000000000000000000 := by decide
theorem p60 : (10 : Int) ^ ((60 : Int).toNat) = 1000000000000000000000000000000000000000000000000000000000000 := by decide
theorem p38 : (10 : Int) ^ ((38 : Int).toNat) = 100000000000000000000000000000000000000 := by decide
theorem p20 : (10 : Int) ^ ((20 : Int).toNat) = 100000000000000000000 := by decide
theorem far_at {a b c d : Int} {v : Int} (h0 : 0 ≤ v) (h : v < 4) (ha : 0 ≤ a ∧ a ≤ 100000000000000000000000000000000000000000000000000000000000000000000000000000000000000000000000000) (hb : 0 ≤ b ∧ b ≤ 100000000000000000000000000000000000000000000000000000000000000000000000000000000000000000000000000)
    (hc : 0 ≤ c ∧ c ≤ 100000000000000000000000000000000000000000000000000000000000000000000000000000000000000000000000000) (hd : 0 ≤ d ∧ d ≤ 100000000000000000000000000000000000000000000000000000000000000000000000000000000000000000000000000) :
    ∃ f : Int, atI [V.int a, V.int b, V.int c, V.int d] v = some (.int f) ∧ 0 ≤ f ∧ f ≤ 100000000000000000000000000000000000000000000000000000000000000000000000000000000000000000000000000 := by
  have e : v = 0 ∨ v = 1 ∨ v = 2 ∨ v = 3 := by omega
  rcases e with rfl | rfl | rfl | rfl
  · exact ⟨a, atI_nat (j := 0) rfl, ha⟩
  · exact ⟨b, atI_nat (j := 1) rfl, hb⟩
  · exact ⟨c, atI_nat (j := 2) rfl, hc⟩
  · exact ⟨d, atI_nat (j := 3) rfl, hd⟩
theorem wide_at {v : Int} (h0 : 0 ≤ v) (h : v < 2) : ∃ f : Int, atI [V.int 5, V.int (10 ^ ((20 : Int).toNat))] v = some (.int f) ∧ (f = 5 ∨ f = 100000000000000000000) := by
  have e : v = 0 ∨ v = 1 := by omega
  rcases e with rfl | rfl
  · exact ⟨5, atI_nat (j := 0) rfl, .inl rfl⟩
  · exact ⟨_, atI_nat (j := 1) rfl, .inr p20⟩
theorem tri {f d M : Int} (hf : 0 ≤ f) (hM : f ≤ M) (h0 : 0 ≤ d) (h : d < 3) : -M ≤ f * (d - 1) ∧ f * (d - 1) ≤ M := by
  have e : d = 0 ∨ d = 1 ∨ d = 2 := by omega
  rcases e with rfl | rfl | rfl
  · rw [show ((0 : Int) - 1) = -1 from rfl, Int.mul_neg, Int.mul_one]
    omega
  · rw [show ((1 : Int) - 1) = 0 from rfl, Int.mul_zero]
    omega
  · rw [show ((2 : Int) - 1) = 1 from rfl, Int.mul_one]
    omega
section
variable {P : Program} {w : World} {K : PySem.W.Frag} {mg : Str → Option Value} {base : Heap}
/-- a drawn pose -/
def PsA (H : Hp) (p : Addr) (x y : Int) (h : Nat) : Prop := H p = some (.tup [.int x, .int y, .int h]) ∧ h ≤ 3
def spStart : Sp := fun vs H Q _ => ∃ (t : Addr) (c : Nat), vs = [.ref t] ∧ Tk H t c ∧ c ≤ 90000000000000000000 ∧
  ∀ p (x y : Int) (h c' : Nat) H', Keep t H H' → Tk H' t c' → c ≤ c' → c' ≤ c + 7 → H p = none → PsA H' p x y h → -Big ≤ x → x ≤ Big → -Big ≤ y → y ≤ Big → Q (.ref p) H'
theorem Keep.free {t : Addr} {H H' : Hp} {p : Addr} (e : Keep t H H') (h : H' p = none) (n : p ≠ t) : H p = none := by
  cases q : H p with
  | none => rfl
  | some o =>
    rw [e p o n q] at h
    cases h
theorem ok_start (D : Ds K) (T : Tx K mg) : FnOk P w K mg base CX0 2 (d_law_start.adr K) D.fd__law_start ["tank"] spStart := by
  have G : FnOk P w K mg base CX0 1 _ _ _ spDip := ok_dip D T
  refine D.F__law_start.ok sc_law_start (fun vs H Q E h => ?_) (fun cdv A outer s H vs Q E hr h => ?_)
  · obtain ⟨t, c, rfl, _⟩ := h
    rfl
  · obtain ⟨t, c, rfl, tk, hc, q⟩ := h
    have nd := sc_law_start.nd
    refine ⟨_, PSs.nox (pss_cons (ps_set (i := 1) nd rfl (.inl rfl) (pe_ix ix_list (pe_lst (pa_cons pe_int (pa_cons (pe_op op_pow pe_int pe_int) (pa_cons (pe_op op_pow pe_int pe_int) (pa_cons (pe_op op_mulW (pe_op op_pow pe_int pe_int) (pe_op op_pow pe_int pe_int)) pa_nil)))))
        (pe_call G hr (by rfl) T.g__law_dip D.F__law_dip.kp (b__law_dip D) .nil pass0 (pa_cons (pv 0) (pa_cons pe_int pa_nil))) (fun _ _ => rfl)))
      (pss_cons (ps_par (i := 2) (j := 3) (by rfl) nd rfl rfl (by decide) rfl rfl
        (pa_cons (pe_op op_mul (pv 1) (pe_op op_sub (pe_call G hr (by rfl) T.g__law_dip D.F__law_dip.kp (b__law_dip D) .nil pass0 (pa_cons (pv 0) (pa_cons pe_int pa_nil))) pe_int))
          (pa_cons (pe_op op_mul (pv 1) (pe_op op_sub (pe_call G hr (by rfl) T.g__law_dip D.F__law_dip.kp (b__law_dip D) .nil pass0 (pa_cons (pv 0) (pa_cons pe_int pa_nil))) pe_int)) pa_nil)) (by rfl))
      (pss_cons (ps_set (i := 4) nd rfl (.inl rfl) (pe_ix ix_list (pe_lst (pa_cons pe_int (pa_cons (pe_op op_pow pe_int pe_int) pa_nil)))
        (pe_call G hr (by rfl) T.g__law_dip D.F__law_dip.kp (b__law_dip D) .nil pass0 (pa_cons (pv 0) (pa_cons pe_int pa_nil))) (fun _ _ => rfl)))
      (pss_one (ps_ret (pe_tup
        (pa_cons (pe_op op_sub (pe_op op_add (pv 2) (pe_call G hr (by rfl) T.g__law_dip D.F__law_dip.kp (b__law_dip D) .nil pass0 (pa_cons (pv 0) (pa_cons (pv 4) pa_nil)))) (pe_op op_fdivW (pv 4) pe_int))
        (pa_cons (pe_op op_sub (pe_op op_add (pv 3) (pe_call G hr (by rfl) T.g__law_dip D.F__law_dip.kp (b__law_dip D) .nil pass0 (pa_cons (pv 0) (pa_cons (pv 4) pa_nil)))) (pe_op op_fdivW (pv 4) pe_int))
        (pa_cons (pe_call G hr (by rfl) T.g__law_dip D.F__law_dip.kp (b__law_dip D) .nil pass0 (pa_cons (pv 0) (pa_cons pe_int pa_nil))) pa_nil))))))))), ?_⟩
    obtain ⟨A0, B0, et, _⟩ := id tk
    -- far_off
    refine ⟨_, _, rfl, rfl, pw_ok (by decide) (by decide), _, _, rfl, rfl, pw_ok (by decide) (by decide), _, _, rfl, rfl, pw_ok (by decide) (by decide), _, _, rfl, rfl, pw_ok (by decide) (by decide), _, _, rfl, rfl, wide_mul (a := 200) (b := 200) (by rw [p60]; decide) (by rw [p38]; decide) (by decide) (by decide) (by decide), by show 4 ≤ sizeLine; decide, fun l hl => ?_⟩
    have tl : t ≠ l := ne_of_none et hl
    refine ⟨_, rfl, t, 4, c, rfl, tk.same (same_new hl), by omega, by decide, by decide, fun v1 c1 H1 k1 t1 l1 u1 a1 b1 => ?_⟩
    obtain ⟨f, hf, f0, f1⟩ := far_at a1 b1 (a := 0) (b := 10 ^ (30 : Int).toNat) (c := 10 ^ (60 : Int).toNat) (d := 10 ^ (60 : Int).toNat * 10 ^ (38 : Int).toNat) ⟨by decide, by decide⟩ ⟨by rw [p30]; decide, by rw [p30]; decide⟩ ⟨by rw [p60]; decide, by rw [p60]; decide⟩ ⟨by rw [p60, p38]; decide, by rw [p60, p38]; decide⟩
    refine ⟨l, _, v1, _, rfl, rfl, lstL (k1 l _ (Ne.symm tl) upd_same), hf, ?_⟩
    -- x, y
    refine ⟨_, rfl, _, rfl, t, 3, c1, rfl, t1, by omega, by decide, by decide, fun v2 c2 H2 k2 t2 l2 u2 a2 b2 => ⟨_, _, rfl, rfl, _, _, rfl, rfl, .inr ⟨by omega, by omega⟩, ?_⟩⟩
    refine ⟨_, rfl, _, rfl, t, 3, c2, rfl, t2, by omega, by decide, by decide, fun v3 c3 H3 k3 t3 l3 u3 a3 b3 => ⟨_, _, rfl, rfl, _, _, rfl, rfl, .inr ⟨by omega, by omega⟩, _, _, rfl, ?_⟩⟩
    obtain ⟨X1, X2⟩ := tri f0 f1 a2 b2
    obtain ⟨Y1, Y2⟩ := tri f0 f1 a3 b3
    -- wide
    refine ⟨_, _, rfl, rfl, pw_ok (by decide) (by decide), by show 2 ≤ sizeLine; decide, fun m hm => ?_⟩
    obtain ⟨A3, B3, et3, _⟩ := id t3
    have tm : t ≠ m := ne_of_none et3 hm
    refine ⟨_, rfl, t, 2, c3, rfl, t3.same (same_new hm), by omega, by decide, by decide, fun v4 c4 H4 k4 t4 l4 u4 a4 b4 => ?_⟩
    obtain ⟨wd, hw, hw2⟩ := wide_at a4 b4
    have w1 : 1 ≤ wd ∧ wd ≤ 100000000000000000000 := by omega
    refine ⟨m, _, v4, _, rfl, rfl, lstL (k4 m _ (Ne.symm tm) upd_same), hw, ?_⟩
    -- the pose
    refine ⟨_, rfl, _, rfl, _, rfl, t, wd, c4, rfl, t4, by omega, by omega, by omega, fun v5 c5 H5 k5 t5 l5 u5 a5 b5 => ⟨_, _, rfl, rfl, _, rfl, _, _, rfl, rfl, wide_div (b := 4) (by decide) (by decide) (by decide) (by decide), _, _, rfl, rfl, ?_⟩⟩
    refine ⟨_, rfl, _, rfl, _, rfl, t, wd, c5, rfl, t5, by omega, by omega, by omega, fun v6 c6 H6 k6 t6 l6 u6 a6 b6 => ⟨_, _, rfl, rfl, _, rfl, _, _, rfl, rfl, wide_div (b := 4) (by decide) (by decide) (by decide) (by decide), _, _, rfl, rfl, ?_⟩⟩
    refine ⟨_, rfl, t, 4, c6, rfl, t6, by omega, by decide, by decide, fun v7 c7 H7 k7 t7 l7 u7 a7 b7 => ?_⟩
    refine ⟨by show 3 ≤ sizeLine; decide, fun p hp => ?_⟩
    obtain ⟨A7, B7, et7, _⟩ := id t7
    have tp : t ≠ p := ne_of_none et7 hp
    obtain ⟨h, rfl⟩ := Int.eq_ofNat_of_zero_le a7
    have kk : Keep t H H7 := (Same.keep (same_new hl)).trans (k1.trans (k2.trans (k3.trans ((Same.keep (same_new hm)).trans (k4.trans (k5.trans (k6.trans k7)))))))
    refine q p _ _ h c7 _ (kk.trans (Same.keep (same_new hp))) (t7.same (same_new hp)) (by omega) (by omega) (kk.free hp (Ne.symm tp)) ⟨upd_same, by omega⟩ ?_ ?_ ?_ ?_
    all_goals (unfold Big; rcases hw2 with rfl | rfl <;> omega)
end
end K15M

set_option Elab.async false
set_option linter.all false
set_option maxRecDepth 100000
set_option maxHeartbeats 4000000
namespace K15M
open PySem PySem.Spec PyProof.Rows L2 RT K15 M13
abbrev MoT := Hp → Addr → M3 → Prop
def tupO (H : Hp) (p : Addr) (x y : Int) : Prop := H p = some (.tup [.int x, .int y])
def poseO (H : Hp) (p : Addr) (q : Int × Int × Nat) : Prop := H p = some (.tup [.int q.1, .int q.2.1, .int (q.2.2 : Int)]) ∧ q.2.2 ≤ 3
def ordV : Option Nat → V
  | none => .non
  | some n => .int n
abbrev T30 : Int := 1000000000000000000000000000000
def sMk (K : PySem.W.Frag) (Mo : MoT) : Sp := fun vs H Q _ => ∃ (a d : Addr) (t : Nat) (dx dy : Int), vs = [.ref a, .int t, .int dx, .int dy] ∧ t ≤ 3 ∧ H a = some (.ins (He.ga K "Motion") d []) ∧
  ∀ H', (∀ b o, b ≠ a → H b = some o → H' b = some o) → Mo H' a (t, dx, dy) → Q .non H'
def sAdd (Mo : MoT) : Sp := fun vs H Q _ => ∃ a b m n, vs = [.ref a, .ref b] ∧ Mo H a m ∧ Mo H b n ∧ ∀ r H', Same H H' → Mo H' r (cmp m n) → Q (.ref r) H'
def sMul (Mo : MoT) : Sp := fun vs H Q _ => ∃ a z m, vs = [.ref a, .int z] ∧ Mo H a m ∧ -T30 ≤ z ∧ z ≤ T30 ∧ m.2.1.natAbs < 2 ^ 1500 ∧ m.2.2.natAbs < 2 ^ 1500 ∧ ∀ r H', Same H H' → Mo H' r (zpow m z) → Q (.ref r) H'
def sNeg (Mo : MoT) : Sp := fun vs H Q _ => ∃ a m, vs = [.ref a] ∧ Mo H a m ∧ ∀ r H', Same H H' → Mo H' r (inv m) → Q (.ref r) H'
def sEq (K : PySem.W.Frag) (Mo : MoT) : Sp := fun vs H Q _ => ∃ a m v, vs = [.ref a, v] ∧ Mo H a m ∧
  ((∃ b n, v = .ref b ∧ Mo H b n ∧ Q (.bl (decide (m = n))) H) ∨ (∃ T, TyY K H v (.type T) ∧ T ∈ (["NoneType", "int", "str", "list", "tuple"] : List String) ∧ Q (.bl false) H))
def sCall (Mo : MoT) : Sp := fun vs H Q _ => ∃ a m p q, vs = [.ref a, .ref p] ∧ Mo H a m ∧ poseO H p q ∧ ∀ r H', Same H H' → poseO H' r (act m q) → Q (.ref r) H'
def sOrd (Mo : MoT) : Sp := fun vs H Q _ => ∃ a m, vs = [.ref a] ∧ Mo H a m ∧ ∀ H', Same H H' → Q (ordV (ord m)) H'
def sTurn (Mo : MoT) : Sp := fun vs H Q _ => ∃ a m, vs = [.ref a] ∧ Mo H a m ∧ Q (.int (m.1 : Int)) H
def sShift (Mo : MoT) : Sp := fun vs H Q _ => ∃ a m, vs = [.ref a] ∧ Mo H a m ∧ ∀ r H', Same H H' → tupO H' r m.2.1 m.2.2 → Q (.ref r) H'
theorem poseO.same {H H' : Hp} {p : Addr} {q : Int × Int × Nat} (h : poseO H p q) (e : Same H H') : poseO H' p q := ⟨e _ _ h.1, h.2⟩
theorem poseO.keep {H H' : Hp} {p t : Addr} {q : Int × Int × Nat} {c : Nat} (h : poseO H p q) (tk : Tk H t c) (e : Keep t H H') : poseO H' p q := by
  obtain ⟨A, B, et, _⟩ := tk
  refine ⟨e p _ (fun z => ?_) h.1, h.2⟩
  have h1 := h.1
  rw [z, et] at h1
  cases h1
end K15M

set_option Elab.async false
set_option linter.all false
set_option maxRecDepth 100000
set_option maxHeartbeats 4000000
namespace K15M
open PySem PySem.Spec PyProof.Rows L2 RT K15 M13
section
variable {P : Program} {w : World} {K : PySem.W.Frag} {mg : Str → Option Value} {base : Heap}
theorem kit_ii {K : PySem.W.Frag} : PySem.W.kitOne K (.type "int") (.type "int") = some true := kit_ty (by decide +kernel)
theorem kit_ib {K : PySem.W.Frag} : PySem.W.kitOne K (.type "int") (.type "bool") = some false := kit_ty (by decide +kernel)
theorem kit_tt {K : PySem.W.Frag} : PySem.W.kitOne K (.type "tuple") (.type "tuple") = some true := kit_ty (by decide +kernel)
def spIsInt : Sp := fun vs H Q _ => ∃ v : Int, vs = [.int v] ∧ Q (.bl true) H
theorem ok_isint (D : Ds K) (T : Tx K mg) : FnOk P w K mg base CX0 1 (dis_integer.adr K) D.fd_is_integer ["value"] spIsInt := by
  refine D.F_is_integer.ok scis_integer (fun vs H Q E h => ?_) (fun cdv A outer s H vs Q E hr h => ?_)
  · obtain ⟨v, rfl, _⟩ := h
    rfl
  · obtain ⟨v, rfl, q⟩ := h
    refine ⟨_, PSs.nox (pss_one (ps_ret (pe_and (pe_callB call_isiY (by rfl) T.z_isinstance (by decide +kernel) (pa_cons (pv 0) (pa_cons (pe_bltn (v := .ty "int") (by rfl) T.z_int (by decide +kernel) rfl) pa_nil)))
      (pe_one (pe_not (pe_callB call_isiY (by rfl) T.z_isinstance (by decide +kernel) (pa_cons (pv 0) (pa_cons (pe_bltn (v := .ty "bool") (by rfl) T.z_bool (by decide +kernel) rfl) pa_nil)))))))), ?_⟩
    refine ⟨_, rfl, _, .ty "int", _, _, true, rfl, .ty "int", .base (.base (.int v)), kit_ii, true, rfl, iteT ?_⟩
    exact ⟨_, rfl, _, .ty "bool", _, _, false, rfl, .ty "bool", .base (.base (.int v)), kit_ib, false, rfl, q⟩
def spWithin : Sp := fun vs H Q _ => ∃ v l m : Int, vs = [.int v, .int l, .int m] ∧ Q (.bl (decide (l ≤ v) && decide (v ≤ m))) H
theorem ok_within (D : Ds K) (T : Tx K mg) : FnOk P w K mg base CX0 2 (dis_integer_within.adr K) D.fd_is_integer_within ["value", "least", "most"] spWithin := by
  have G1 : FnOk P w K mg base CX0 1 _ _ _ spIsInt := ok_isint D T
  refine D.F_is_integer_within.ok scis_integer_within (fun vs H Q E h => ?_) (fun cdv A outer s H vs Q E hr h => ?_)
  · obtain ⟨v, l, m, rfl, _⟩ := h
    rfl
  · obtain ⟨v, l, m, rfl, q⟩ := h
    refine ⟨_, PSs.nox (pss_one (ps_ret (pe_and (pe_call G1 hr (by rfl) T.g_is_integer D.F_is_integer.kp (b_is_integer D) .nil pass0 (pa_cons (pv 0) pa_nil))
      (pe_one (pe_chain op_le op_le (pv 1) (pv 0) (pv 2)))))), ?_⟩
    refine ⟨_, rfl, v, rfl, true, rfl, iteT ?_⟩
    refine ⟨_, rfl, _, rfl, l, v, rfl, rfl, _, rfl, ?_⟩
    by_cases h1 : l ≤ v
    · rw [decide_eq_true h1] at q ⊢
      exact iteT ⟨_, rfl, v, m, rfl, rfl, q⟩
    · rw [decide_eq_false h1] at q ⊢
      exact iteF q
theorem tyT {K : PySem.W.Frag} {H : Hp} {a : Addr} {xs : List V} (h : SqT K H a xs) : TyY K H (.ref a) (.type "tuple") := by
  rcases h with (e | ⟨o, e⟩) | ⟨o, its, n, lk, c, _⟩
  · exact .base (.base (.tup e))
  · exact .base (.fTuple e)
  · exact .base (.kTuple lk c)
def spTupOf (K : PySem.W.Frag) : Sp := fun vs H Q _ => ∃ (a : Addr) (xs : List V) (n : Int), vs = [.ref a, .int n] ∧ SqT K H a xs ∧ Q (.bl (decide (V.int (xs.length : Int) = V.int n))) H
theorem ok_tupof (D : Ds K) (T : Tx K mg) : FnOk P w K mg base CX0 1 (dis_tuple_of.adr K) D.fd_is_tuple_of ["value", "many"] (spTupOf K) := by
  refine D.F_is_tuple_of.ok scis_tuple_of (fun vs H Q E h => ?_) (fun cdv A outer s H vs Q E hr h => ?_)
  · obtain ⟨a, xs, n, rfl, _⟩ := h
    rfl
  · obtain ⟨a, xs, n, rfl, ea, q⟩ := h
    refine ⟨_, PSs.nox (pss_one (ps_ret (pe_and (pe_callB call_isiY (by rfl) T.z_isinstance (by decide +kernel) (pa_cons (pv 0) (pa_cons (pe_bltn (v := .ty "tuple") (by rfl) T.z_tuple (by decide +kernel) rfl) pa_nil)))
      (pe_one (pe_cmpR op_eq (pe_callB call_len_seq (by rfl) T.z_len PySem.boot_len (pa_cons (pv 0) pa_nil)) (pv 1) (nomark _)))))), ?_⟩
    refine ⟨_, rfl, _, .ty "tuple", _, _, true, rfl, .ty "tuple", tyT ea, kit_tt, true, rfl, iteT ?_⟩
    exact ⟨_, rfl, a, _, rfl, .inr ea, _, rfl, rfl, q⟩
def spPoint : Sp := fun vs H Q _ => ∃ (a : Addr) (x y : Int), vs = [.ref a] ∧ H a = some (.tup [.int x, .int y]) ∧ Q (.bl true) H
theorem ok_point (D : Ds K) (T : Tx K mg) : FnOk P w K mg base CX0 2 (dis_point.adr K) D.fd_is_point ["value"] spPoint := by
  have G1 : FnOk P w K mg base CX0 1 _ _ _ spIsInt := ok_isint D T
  have G2 : FnOk P w K mg base CX0 1 _ _ _ (spTupOf K) := ok_tupof D T
  refine D.F_is_point.ok scis_point (fun vs H Q E h => ?_) (fun cdv A outer s H vs Q E hr h => ?_)
  · obtain ⟨a, x, y, rfl, _⟩ := h
    rfl
  · obtain ⟨a, x, y, rfl, ea, q⟩ := h
    refine ⟨_, PSs.nox (pss_one (ps_ret (pe_and (pe_call G2 hr (by rfl) T.g_is_tuple_of D.F_is_tuple_of.kp (b_is_tuple_of D) .nil pass0 (pa_cons (pv 0) (pa_cons pe_int pa_nil)))
      (pe_and (pe_call G1 hr (by rfl) T.g_is_integer D.F_is_integer.kp (b_is_integer D) .nil pass0 (pa_cons (pe_ix ix_tup (pv 0) pe_int (fun _ _ => rfl)) pa_nil))
      (pe_one (pe_call G1 hr (by rfl) T.g_is_integer D.F_is_integer.kp (b_is_integer D) .nil pass0 (pa_cons (pe_ix ix_tup (pv 0) pe_int (fun _ _ => rfl)) pa_nil))))))), ?_⟩
    refine ⟨_, rfl, a, _, _, rfl, tupT ea, true, by rfl, iteT ?_⟩
    refine ⟨_, rfl, a, _, _, _, rfl, rfl, tupT ea, rfl, x, rfl, true, rfl, iteT ?_⟩
    exact ⟨_, rfl, a, _, _, _, rfl, rfl, tupT ea, rfl, y, rfl, q⟩
def spTurn (K : PySem.W.Frag) : Sp := fun vs H Q _ => ∃ (p : Addr) (n : Nat) (x y : Int), vs = [.ref p, .int n] ∧ n ≤ 3 ∧ SqT K H p [.int x, .int y] ∧
  ∀ r H', Same H H' → H r = none → H' r = some (.tup [.int (rot n (x, y)).1, .int (rot n (x, y)).2]) → Q (.ref r) H'
theorem ok_turned (D : Ds K) (T : Tx K mg) : FnOk P w K mg base CX0 1 (dturned_point.adr K) D.fd_turned_point ["point", "quarters"] (spTurn K) := by
  refine D.F_turned_point.ok scturned_point (fun vs H Q E h => ?_) (fun cdv A outer s H vs Q E hr h => ?_)
  · obtain ⟨p, n, x, y, rfl, _⟩ := h
    rfl
  · obtain ⟨p, n, x, y, rfl, hn, hp, q⟩ := h
    have nd := scturned_point.nd
    refine ⟨_, PSs.nox (pss_cons (ps_asg (pv 0) (pg_tup (by rfl) (pgs_cons (pg_name (i := 2) nd rfl (.inl rfl)) (pgs_cons (pg_name (i := 3) nd rfl (.inl rfl)) pgs_nil))))
      (pss_cons (ps_for PassesOwn.never rfl (pi_range1 (by rfl) T.z_range (pa_cons (pv 1) pa_nil)) (pg_name (i := 4) nd rfl (.inl rfl))
          (pss_one (ps_par (i := 2) (j := 3) (by rfl) nd rfl rfl (by decide) rfl rfl (pa_cons (pe_un un_neg (pv 3)) (pa_cons (pv 2) pa_nil)) (by rfl))))
      (pss_one (ps_ret (pe_tup (pa_cons (pv 2) (pa_cons (pv 3) pa_nil))))))), ?_⟩
    refine ⟨_, rfl, p, _, rfl, hp, rfl, _, _, rfl, _, _, rfl, rfl, ?_⟩
    refine ⟨_, rfl, (n : Int), rfl, by omega, by omega, ?_⟩
    refine for_range (lo := 0) (n := (n : Int).toNat) (fun i σ H' => ∃ z, σ = [some (.ref p), some (.int n), some (.int (rot i (x, y)).1), some (.int (rot i (x, y)).2), z] ∧ H' = H) ⟨none, rfl, rfl⟩ (fun i σ' H' hi hp => ?_) fun σ' H' hp => ?_
    · obtain ⟨z, rfl, rfl⟩ := hp
      refine ⟨_, rfl, _, rfl, _, rfl, _, _, rfl, _, rfl, rfl⟩
    · obtain ⟨z, rfl, rfl⟩ := hp
      refine ⟨_, rfl, _, rfl, by show 2 ≤ sizeLine; decide, fun r hr => ?_⟩
      rw [show ((n : Int).toNat) = n from by omega] at *
      exact q r _ (same_new hr) hr upd_same
end
end K15M

set_option Elab.async false
set_option linter.all false
set_option maxRecDepth 100000
set_option maxHeartbeats 4000000
namespace K15M
open PySem PySem.Spec PyProof.Rows L2 RT K15 M13
/-- a Motion at a -/
def IsM (K : PySem.W.Frag) (H : Hp) (a : Addr) (t : Nat) (dx dy : Int) : Prop := t ≤ 3 ∧ ∃ d s, H a = some (.ins (He.ga K "Motion") d [("_turn", .int t), ("_shift", .ref s)]) ∧ H s = some (.tup [.int dx, .int dy])
theorem IsM.same {K : PySem.W.Frag} {H H' : Hp} {a : Addr} {t : Nat} {dx dy : Int} (h : IsM K H a t dx dy) (e : Same H H') : IsM K H' a t dx dy := by
  obtain ⟨ht, d, s, h1, h2⟩ := h
  exact ⟨ht, d, s, e _ _ h1, e _ _ h2⟩
theorem big2 : 2 ≤ sizeLine := by decide
section
variable {P : Program} {w : World} {K : PySem.W.Frag} {mg : Str → Option Value} {base : Heap}
def spInit (K : PySem.W.Frag) : Sp := fun vs H Q _ => ∃ (a d : Addr) (t : Nat) (dx dy : Int), vs = [.ref a, .int t, .int dx, .int dy] ∧ t ≤ 3 ∧ H a = some (.ins (He.ga K "Motion") d []) ∧
  ∀ H', (∀ b o, b ≠ a → H b = some o → H' b = some o) → IsM K H' a t dx dy → Q .non H'
theorem ok_init (D : Ds K) (T : Tx K mg) : FnOk P w K mg base CX0 3 (dMotion_init.adr K) D.fd_Motion_init ["self", "turn", "dx", "dy"] (spInit K) := by
  have G1 : FnOk P w K mg base CX0 2 _ _ _ spWithin := ok_within D T
  have G2 : FnOk P w K mg base CX0 2 _ _ _ spPoint := ok_point D T
  refine D.F_Motion_init.ok scMotion_init (fun vs H Q E h => ?_) (fun cdv A outer s H vs Q E hr h => ?_)
  · obtain ⟨a, d, t, dx, dy, rfl, _⟩ := h
    rfl
  · obtain ⟨a, d, t, dx, dy, rfl, ht, ea, q⟩ := h
    refine ⟨_, PSs.nox (pss_cons (ps_if (PW.pt (pw_or (pt_not (pt_val (pe_call G1 hr (by rfl) T.g_is_integer_within D.F_is_integer_within.kp (b_is_integer_within D) .nil pass0 (pa_cons (pv 1) (pa_cons pe_int (pa_cons pe_int pa_nil))))))
        (pw_or1 (pt_not (pt_val (pe_call G2 hr (by rfl) T.g_is_point D.F_is_point.kp (b_is_point D) .nil pass0 (pa_cons (pe_tup (pa_cons (pv 2) (pa_cons (pv 3) pa_nil))) pa_nil)))))))
        (pss_one ps_never) pss_nil)
      (pss_cons (ps_fld (pv 0) (pv 1) rfl) (pss_one (ps_fld (pv 0) (pe_tup (pa_cons (pv 2) (pa_cons (pv 3) pa_nil))) rfl)))), ?_⟩
    refine ⟨_, rfl, t, 0, 3, rfl, _, rfl, ?_⟩
    rw [show (decide ((0 : Int) ≤ t) && decide ((t : Int) ≤ 3)) = true by rw [decide_eq_true (by omega), decide_eq_true (by omega)]; rfl]
    refine iteF ⟨_, rfl, _, rfl, big2, fun p0 hp0 => ⟨p0, dx, dy, rfl, upd_same, _, rfl, iteF ?_⟩⟩
    have ea0 : upd H p0 (.tup [.int dx, .int dy]) a = some (.ins (He.ga K "Motion") d []) := same_new hp0 _ _ ea
    refine ⟨_, rfl, _, rfl, a, _, d, _, rfl, ea0, T.c_Motion, T.n_Motion__turn, by show 0 < 1000; decide, ?_⟩
    refine ⟨_, rfl, _, rfl, big2, fun p hp => ?_⟩
    have nap : a ≠ p := ne_of_none upd_same hp
    refine ⟨_, rfl, a, _, d, _, rfl, (upd_ne nap).trans upd_same, T.c_Motion, T.n_Motion__shift, by show 1 < 1000; decide, ?_⟩
    have hpH : upd H p0 (.tup [.int dx, .int dy]) p = none := by
      rw [upd_ne (Ne.symm nap)] at hp
      exact hp
    refine q _ (fun b o hb e => ?_) ⟨ht, d, p, upd_same, ?_⟩
    · have e0 : upd H p0 (.tup [.int dx, .int dy]) b = some o := same_new hp0 _ _ e
      rw [upd_ne hb, upd_ne (ne_of_none e0 hpH), upd_ne hb]
      exact e0
    · rw [upd_ne (Ne.symm nap), upd_same]
/-- Motion(..) -/
theorem make_m {K : PySem.W.Frag} {H : Hp} {t : Nat} {dx dy : Int} {Q : VK} {E : XK} (ht : t ≤ 3) (q : ∀ a H', Same H H' → H a = none → IsM K H' a t dx dy → Q (.ref a) H') :
    ∀ x dx', H x = none → H dx' = none → dx' ≠ x → spInit K (.ref x :: ([.int t, .int dx, .int dy] ++ [])) (upd (upd H dx' (.own x)) x (.ins (He.ga K "Motion") dx' [])) (fun v H2 => v = .non ∧ Q (.ref x) H2) E := fun x d hx hd hne =>
  ⟨x, d, t, dx, dy, rfl, ht, upd_same, fun H' k m => ⟨rfl, q x H' (fun b o e => k b o (ne_of_none e hx) (by rw [upd_ne (ne_of_none e hx), upd_ne (ne_of_none e hd)]; exact e)) hx m⟩⟩
def spCheckM (K : PySem.W.Frag) : Sp := fun vs H Q _ => ∃ (a : Addr) (t : Nat) (dx dy : Int), vs = [.ref a] ∧ IsM K H a t dx dy ∧ Q .non H
theorem ok_checkM (D : Ds K) (T : Tx K mg) : FnOk P w K mg base CX0 1 (dcheck_motion.adr K) D.fd_check_motion ["motion"] (spCheckM K) := by
  refine D.F_check_motion.ok sccheck_motion (fun vs H Q E h => ?_) (fun cdv A outer s H vs Q E hr h => ?_)
  · obtain ⟨a, t, dx, dy, rfl, _⟩ := h
    rfl
  · obtain ⟨a, t, dx, dy, rfl, ⟨_, d, sh, ea, es⟩, q⟩ := h
    refine ⟨_, PSs.nox (pss_one (ps_if (pt_not (pt_val (pe_callB call_isiY (by rfl) T.z_isinstance (by decide +kernel) (pa_cons (pv 0) (pa_cons (pe_glob (v := .ref (He.ga K "Motion")) rfl T.g_Motion rfl) pa_nil))))) (pss_one ps_never) pss_nil)), ?_⟩
    exact ⟨_, rfl, _, .ref (He.ga K "Motion"), _, _, true, rfl, .own _, .base (.base (.ins ea T.c_Motion T.i_Motion.ha T.i_Motion.hn T.i_Motion.ht T.i_Motion.hm)), T.t_Motion, true, rfl, iteF q⟩
def spPose (K : PySem.W.Frag) : Sp := fun vs H Q _ => ∃ (a : Addr) (x y : Int) (h : Nat), vs = [.ref a] ∧ SqT K H a [.int x, .int y, .int h] ∧ h ≤ 3 ∧ ∀ H', Same H H' → Q (.bl true) H'
theorem ok_ispose (D : Ds K) (T : Tx K mg) : FnOk P w K mg base CX0 3 (dis_pose.adr K) D.fd_is_pose ["value"] (spPose K) := by
  have G1 : FnOk P w K mg base CX0 1 _ _ _ (spTupOf K) := ok_tupof D T
  have G2 : FnOk P w K mg base CX0 2 _ _ _ spPoint := ok_point D T
  have G3 : FnOk P w K mg base CX0 2 _ _ _ spWithin := ok_within D T
  refine D.F_is_pose.ok scis_pose (fun vs H Q E h => ?_) (fun cdv A outer s H vs Q E hr h => ?_)
  · obtain ⟨a, x, y, h, rfl, _⟩ := h
    rfl
  · obtain ⟨a, x, y, h, rfl, ea, hh, q⟩ := h
    refine ⟨_, PSs.nox (pss_one (ps_ret (pe_and (pe_call G1 (hr.mono (by decide)) (by rfl) T.g_is_tuple_of D.F_is_tuple_of.kp (b_is_tuple_of D) .nil pass0 (pa_cons (pv 0) (pa_cons pe_int pa_nil)))
      (pe_and (pe_call G2 hr (by rfl) T.g_is_point D.F_is_point.kp (b_is_point D) .nil pass0 (pa_cons (pe_slice sl_tup (pv 0) po_none (po_some pe_int)) pa_nil))
      (pe_one (pe_call G3 hr (by rfl) T.g_is_integer_within D.F_is_integer_within.kp (b_is_integer_within D) .nil pass0 (pa_cons (pe_ix ix_tup (pv 0) pe_int (fun _ _ => rfl)) (pa_cons pe_int (pa_cons pe_int pa_nil))))))))), ?_⟩
    refine ⟨_, rfl, a, _, _, rfl, ea, true, by rfl, iteT ?_⟩
    refine ⟨_, rfl, _, rfl, a, _, rfl, ea, by show ¬(HT.sIx 3 0 none = 0 ∧ HT.sIx 3 3 (some 2) = 3); decide, fun p hp => ?_⟩
    refine ⟨p, x, y, rfl, upd_same, true, rfl, iteT ?_⟩
    refine ⟨_, rfl, a, _, _, _, rfl, rfl, Same.sqt (same_new hp) ea, rfl, h, 0, 3, rfl, ?_⟩
    rw [show (decide ((0 : Int) ≤ h) && decide ((h : Int) ≤ 3)) = true by rw [decide_eq_true (by omega), decide_eq_true (by omega)]; rfl]
    exact q _ (same_new hp)
def spCheckPose (K : PySem.W.Frag) : Sp := fun vs H Q _ => ∃ (a : Addr) (x y : Int) (h : Nat), vs = [.ref a] ∧ SqT K H a [.int x, .int y, .int h] ∧ h ≤ 3 ∧ ∀ H', Same H H' → Q .non H'
theorem ok_checkpose (D : Ds K) (T : Tx K mg) : FnOk P w K mg base CX0 4 (dcheck_pose.adr K) D.fd_check_pose ["pose"] (spCheckPose K) := by
  have G1 : FnOk P w K mg base CX0 3 _ _ _ (spPose K) := ok_ispose D T
  refine D.F_check_pose.ok sccheck_pose (fun vs H Q E h => ?_) (fun cdv A outer s H vs Q E hr h => ?_)
  · obtain ⟨a, x, y, h, rfl, _⟩ := h
    rfl
  · obtain ⟨a, x, y, h, rfl, ea, hh, q⟩ := h
    refine ⟨_, PSs.nox (pss_one (ps_if (pt_not (pt_val (pe_call G1 hr (by rfl) T.g_is_pose D.F_is_pose.kp (b_is_pose D) .nil pass0 (pa_cons (pv 0) pa_nil)))) (pss_one ps_never) pss_nil)), ?_⟩
    exact ⟨_, rfl, a, x, y, h, rfl, ea, hh, fun H' s => ⟨true, rfl, iteF (q H' s)⟩⟩
def spCall (K : PySem.W.Frag) : Sp := fun vs H Q _ => ∃ (m a : Addr) (t : Nat) (dx dy x y : Int) (h : Nat), vs = [.ref m, .ref a] ∧ IsM K H m t dx dy ∧ SqT K H a [.int x, .int y, .int h] ∧ h ≤ 3 ∧
  ∀ r H', Same H H' → H r = none → H' r = some (.tup [.int (x + (rot h (dx, dy)).1), .int (y + (rot h (dx, dy)).2), .int (((h + t) % 4 : Nat) : Int)]) → Q (.ref r) H'
theorem ok_call (D : Ds K) (T : Tx K mg) : FnOk P w K mg base CX0 5 (dMotion_call.adr K) D.fd_Motion_call ["self", "pose"] (spCall K) := by
  have G1 : FnOk P w K mg base CX0 4 _ _ _ (spCheckPose K) := ok_checkpose D T
  have G2 : FnOk P w K mg base CX0 1 _ _ _ (spTurn K) := ok_turned D T
  refine D.F_Motion_call.ok scMotion_call (fun vs H Q E h => ?_) (fun cdv A outer s H vs Q E hr h => ?_)
  · obtain ⟨m, a, t, dx, dy, x, y, h, rfl, _⟩ := h
    rfl
  · obtain ⟨m, a, t, dx, dy, x, y, h, rfl, ⟨ht, d, sh, em, es⟩, ea, hh, q⟩ := h
    have nd := scMotion_call.nd
    refine ⟨_, PSs.nox (pss_cons (ps_expr (pe_call G1 hr (by rfl) T.g_check_pose D.F_check_pose.kp (b_check_pose D) .nil pass0 (pa_cons (pv 1) pa_nil)))
      (pss_cons (ps_asg (pv 1) (pg_tup (by rfl) (pgs_cons (pg_name (i := 2) nd rfl (.inl rfl)) (pgs_cons (pg_name (i := 3) nd rfl (.inl rfl)) (pgs_cons (pg_name (i := 4) nd rfl (.inl rfl)) pgs_nil)))))
      (pss_cons (ps_asg (pe_call G2 (hr.mono (by decide)) (by rfl) T.g_turned_point D.F_turned_point.kp (b_turned_point D) .nil pass0 (pa_cons (pe_fld (pv 0) rfl) (pa_cons (pv 4) pa_nil))) (pg_tup (by rfl) (pgs_cons (pg_name (i := 5) nd rfl (.inl rfl)) (pgs_cons (pg_name (i := 6) nd rfl (.inl rfl)) pgs_nil))))
      (pss_one (ps_ret (pe_tup (pa_cons (pe_op op_add (pv 2) (pv 5)) (pa_cons (pe_op op_add (pv 3) (pv 6)) (pa_cons (pe_op op_mod (pe_op op_add (pv 4) (pe_fld (pv 0) rfl)) pe_int) pa_nil))))))))), ?_⟩
    refine ⟨_, rfl, a, x, y, h, rfl, ea, hh, fun H0 s0 => ?_⟩
    have em := s0 _ _ em
    have es := s0 _ _ es
    have ea := Same.sqt s0 ea
    refine ⟨_, rfl, a, _, rfl, ea, rfl, _, _, rfl, _, _, rfl, _, _, rfl, rfl, ?_⟩
    refine ⟨_, rfl, m, _, d, _, _, rfl, em, T.c_Motion, T.n_Motion__shift, rfl, _, rfl, sh, h, dx, dy, rfl, hh, tupT es, fun r H1 s1 hr1 er => ?_⟩
    refine ⟨r, _, rfl, tupT er, rfl, _, _, rfl, _, _, rfl, rfl, ?_⟩
    refine ⟨_, rfl, _, rfl, _, _, rfl, rfl, _, rfl, _, rfl, _, _, rfl, rfl, _, rfl, _, rfl, m, _, d, _, _, rfl, s1 _ _ em, T.c_Motion, T.n_Motion__turn, rfl, _, _, rfl, rfl, _, _, rfl, rfl, by show (0 : Int) < 4; decide, by show 3 ≤ sizeLine; decide, fun p hp => ?_⟩
    refine q p _ ((s0.trans s1).trans (same_new hp)) (Same.free (s0.trans s1) hp) ?_
    rw [upd_same]
    show some (HO.tup [_, _, .int (((h : Int) + (t : Int)) % 4)]) = _
    rw [show ((h : Int) + (t : Int)) % 4 = (((h + t) % 4 : Nat) : Int) by omega]
end
end K15M

set_option Elab.async false
set_option linter.all false
set_option maxRecDepth 100000
set_option maxHeartbeats 4000000
set_option exponentiation.threshold 3000
namespace K15M
open PySem PySem.Spec PyProof.Rows L2 RT K15 M13
/-! mathematics of powers -/
theorem inv0 (x y : Int) : inv (0, x, y) = (0, -x, -y) := by simp [inv, rot]
theorem zpow_shift (x y : Int) : ∀ z : Int, zpow (0, x, y) z = (0, x * z, y * z)
  | .ofNat n => by
    show npow (0, x, y) n = _
    rw [npow_shift, Int.mul_comm, Int.mul_comm (n : Int)]
    rfl
  | .negSucc n => by
    show npow (inv (0, x, y)) (n + 1) = _
    rw [inv0, npow_shift]
    have e : (Int.negSucc n) = -((n + 1 : Nat) : Int) := rfl
    rw [e, Int.mul_neg, Int.mul_neg, Int.mul_neg, Int.mul_neg, Int.mul_comm, Int.mul_comm ((n + 1 : Nat) : Int)]
theorem zpow_mod (m : M3) (h : m.1 ≤ 3) (h0 : m.1 ≠ 0) (z : Int) : zpow m z = npow m (z % 4).toNat := by
  cases z with
  | ofNat n =>
    show npow m n = _
    rw [← npow_mod m h h0 n]
    congr 1
  | negSucc n =>
    show npow (inv m) (n + 1) = _
    have hk : ∃ k, k = (Int.negSucc n % 4).toNat := ⟨_, rfl⟩
    obtain ⟨k, hk⟩ := hk
    rw [← hk]
    have e : Int.negSucc n = -((n + 1 : Nat) : Int) := rfl
    have h4 : (n + 1 + k) % 4 = 0 := by omega
    have e1 : npow m (n + 1 + k) = idM := by
      rw [← npow_mod m h h0, h4]
      rfl
    rw [npow_add m h] at e1
    have e2 := npow_back (inv m) (inv_le m) (n + 1)
    have ii : inv (inv m) = m := by
      have a1 : cmp (cmp (inv (inv m)) (inv m)) m = cmp idM m := by rw [inv_cmp _ (inv_le m)]
      rw [cmp_assoc, inv_cmp m h, cmp_id _ (inv_le _), id_cmp m h] at a1
      exact a1
    rw [ii] at e2
    have e3 : cmp (npow (inv m) (n + 1)) (cmp (npow m (n + 1)) (npow m k)) = npow (inv m) (n + 1) := by rw [e1, cmp_id _ (npow_le _ _)]
    rw [← cmp_assoc, e2, id_cmp _ (npow_le _ _)] at e3
    exact e3.symm
section
variable {P : Program} {w : World} {K : PySem.W.Frag} {mg : Str → Option Value} {base : Heap}
theorem make_i {H : Hp} {t : Nat} {tt dx dy : Int} {Q : VK} {E : XK} {x d : Addr} (hx : H x = none) (hd : H d = none) (ht : t ≤ 3) (et : tt = (t : Int)) (q : ∀ H', Same H H' → IsM K H' x t dx dy → Q .non H') :
    spInit K (.ref x :: ([.int tt, .int dx, .int dy] ++ [])) (upd (upd H d (.own x)) x (.ins (He.ga K "Motion") d [])) Q E := by
  subst et
  exact ⟨x, d, t, dx, dy, rfl, ht, upd_same, fun H' k m => q H' (fun b o e => k b o (ne_of_none e hx) (by rw [upd_ne (ne_of_none e hx), upd_ne (ne_of_none e hd)]; exact e)) m⟩
def MoM (K : PySem.W.Frag) : MoT := fun H a m => IsM K H a m.1 m.2.1 m.2.2
theorem ok_add (D : Ds K) (T : Tx K mg) : FnOk P w K mg base CX0 5 (dMotion_add.adr K) D.fd_Motion_add ["self", "other"] (sAdd (MoM K)) := by
  have GC : FnOk P w K mg base CX0 1 _ _ _ (spCheckM K) := ok_checkM D T
  have GT : FnOk P w K mg base CX0 1 _ _ _ (spTurn K) := ok_turned D T
  have GI : FnOk P w K mg base CX0 3 _ _ _ (spInit K) := ok_init D T
  refine D.F_Motion_add.ok scMotion_add (fun vs H Q E h => ?_) (fun cdv A outer s H vs Q E hr h => ?_)
  · obtain ⟨a, b, m, n, rfl, _⟩ := h
    rfl
  · obtain ⟨a, b, ⟨t1, x1, y1⟩, ⟨t2, x2, y2⟩, rfl, ha, hb, q⟩ := h
    have nd := scMotion_add.nd
    refine ⟨_, PSs.nox (pss_cons (ps_expr (pe_call GC (hr.mono (by decide)) (by rfl) T.g_check_motion D.F_check_motion.kp (b_check_motion D) .nil pass0 (pa_cons (pv 1) pa_nil)))
      (pss_cons (ps_asg (pe_fld (pv 0) rfl) (pg_tup (by rfl) (pgs_cons (pg_name (i := 2) nd rfl (.inl rfl)) (pgs_cons (pg_name (i := 3) nd rfl (.inl rfl)) pgs_nil))))
      (pss_cons (ps_asg (pe_call GT (hr.mono (by decide)) (by rfl) T.g_turned_point D.F_turned_point.kp (b_turned_point D) .nil pass0 (pa_cons (pe_fld (pv 1) rfl) (pa_cons (pe_fld (pv 0) rfl) pa_nil))) (pg_tup (by rfl) (pgs_cons (pg_name (i := 4) nd rfl (.inl rfl)) (pgs_cons (pg_name (i := 5) nd rfl (.inl rfl)) pgs_nil))))
      (pss_one (ps_ret (pe_make T.k_Motion GI hr (by rfl) T.g_Motion (b_Motion_init D) .nil pass0 (pa_cons (pe_op op_mod (pe_op op_add (pe_fld (pv 0) rfl) (pe_fld (pv 1) rfl)) pe_int) (pa_cons (pe_op op_add (pv 2) (pv 4)) (pa_cons (pe_op op_add (pv 3) (pv 5)) pa_nil))))))))), ?_⟩
    obtain ⟨l1, d1, s1, e1, f1⟩ := id ha
    obtain ⟨l2, d2, s2, e2, f2⟩ := id hb
    refine ⟨_, rfl, b, t2, x2, y2, rfl, hb, ?_⟩
    refine ⟨_, rfl, a, _, d1, _, _, rfl, e1, T.c_Motion, T.n_Motion__shift, rfl, s1, _, rfl, tupT f1, rfl, _, _, rfl, _, _, rfl, rfl, ?_⟩
    refine ⟨_, rfl, b, _, d2, _, _, rfl, e2, T.c_Motion, T.n_Motion__shift, rfl, _, rfl, a, _, d1, _, _, rfl, e1, T.c_Motion, T.n_Motion__turn, rfl, s2, t1, x2, y2, rfl, l1, tupT f2, fun r H1 sm nr er => ?_⟩
    refine ⟨r, _, rfl, tupT er, rfl, _, _, rfl, _, _, rfl, rfl, ?_⟩
    refine ⟨_, rfl, a, _, d1, _, _, rfl, sm _ _ e1, T.c_Motion, T.n_Motion__turn, rfl, _, rfl, b, _, d2, _, _, rfl, sm _ _ e2, T.c_Motion, T.n_Motion__turn, rfl, _, _, rfl, rfl, _, _, rfl, rfl, by show (0 : Int) < 4; decide, _, rfl, _, rfl, _, _, rfl, rfl, _, rfl, _, rfl, _, _, rfl, rfl, ?_⟩
    exact fun c d3 n3 nd3 _ => make_i (t := (t1 + t2) % 4) n3 nd3 (by omega) (by show ((t1 : Int) + (t2 : Int)) % 4 = _; omega) fun H2 s3 mc => ⟨rfl, q c H2 (sm.trans s3) mc⟩
theorem rot_neg (n : Nat) (x y : Int) : rot n (-x, -y) = (-(rot n (x, y)).1, -(rot n (x, y)).2) := by
  have h := rot_smul n (-1) (x, y)
  simp only [Int.neg_mul, Int.one_mul] at h
  exact h
theorem ok_neg (D : Ds K) (T : Tx K mg) : FnOk P w K mg base CX0 5 (dMotion_neg.adr K) D.fd_Motion_neg ["self"] (sNeg (MoM K)) := by
  have GT : FnOk P w K mg base CX0 1 _ _ _ (spTurn K) := ok_turned D T
  have GI : FnOk P w K mg base CX0 3 _ _ _ (spInit K) := ok_init D T
  refine D.F_Motion_neg.ok scMotion_neg (fun vs H Q E h => ?_) (fun cdv A outer s H vs Q E hr h => ?_)
  · obtain ⟨a, m, rfl, _⟩ := h
    rfl
  · obtain ⟨a, ⟨t1, x1, y1⟩, rfl, ha, q⟩ := h
    have nd := scMotion_neg.nd
    refine ⟨_, PSs.nox (pss_cons (ps_set (i := 1) nd rfl (.inl rfl) (pe_op op_mod (pe_op op_sub pe_int (pe_fld (pv 0) rfl)) pe_int))
      (pss_cons (ps_asg (pe_call GT (hr.mono (by decide)) (by rfl) T.g_turned_point D.F_turned_point.kp (b_turned_point D) .nil pass0 (pa_cons (pe_fld (pv 0) rfl) (pa_cons (pv 1) pa_nil))) (pg_tup (by rfl) (pgs_cons (pg_name (i := 2) nd rfl (.inl rfl)) (pgs_cons (pg_name (i := 3) nd rfl (.inl rfl)) pgs_nil))))
      (pss_one (ps_ret (pe_make T.k_Motion GI hr (by rfl) T.g_Motion (b_Motion_init D) .nil pass0 (pa_cons (pv 1) (pa_cons (pe_un un_neg (pv 2)) (pa_cons (pe_un un_neg (pv 3)) pa_nil)))))))), ?_⟩
    obtain ⟨l1, d1, s1, e1, f1⟩ := id ha
    have l1 : t1 ≤ 3 := l1
    refine ⟨_, rfl, a, _, d1, _, _, rfl, e1, T.c_Motion, T.n_Motion__turn, rfl, _, _, rfl, rfl, _, _, rfl, rfl, by show (0 : Int) < 4; decide, ?_⟩
    have et : ((4 : Int) - (t1 : Int)) % 4 = (((4 - t1) % 4 : Nat) : Int) := by omega
    refine ⟨_, rfl, a, _, d1, _, _, rfl, e1, T.c_Motion, T.n_Motion__shift, rfl, _, rfl, s1, (4 - t1) % 4, x1, y1, ?_, by omega, tupT f1, fun r H1 sm nr er => ?_⟩
    · show [V.ref s1, V.int (((4 : Int) - (t1 : Int)) % 4)] = _
      rw [et]
    refine ⟨r, _, rfl, tupT er, rfl, _, _, rfl, _, _, rfl, rfl, ?_⟩
    refine ⟨_, rfl, _, rfl, _, rfl, _, rfl, _, rfl, ?_⟩
    refine fun c d3 n3 nd3 _ => make_i (t := (4 - t1) % 4) n3 nd3 (by omega) et fun H2 s3 mc => ⟨rfl, q c H2 (sm.trans s3) ?_⟩
    show IsM K H2 c ((4 - t1) % 4) (rot ((4 - t1) % 4) (-x1, -y1)).1 (rot ((4 - t1) % 4) (-x1, -y1)).2
    rw [rot_neg]
    exact mc
theorem ok_mul (D : Ds K) (T : Tx K mg) : FnOk P w K mg base CX0 6 (dMotion_mul.adr K) D.fd_Motion_mul ["self", "other"] (sMul (MoM K)) := by
  have GW : FnOk P w K mg base CX0 2 _ _ _ spWithin := ok_within D T
  have GI : FnOk P w K mg base CX0 3 _ _ _ (spInit K) := ok_init D T
  have GA : FnOk P w K mg base CX0 5 _ _ _ (sAdd (MoM K)) := ok_add D T
  refine D.F_Motion_mul.ok scMotion_mul (fun vs H Q E h => ?_) (fun cdv A outer s H vs Q E hr h => ?_)
  · obtain ⟨a, z, m, rfl, _⟩ := h
    rfl
  · obtain ⟨a, z, ⟨t1, x1, y1⟩, rfl, ha, z1, z2, bx, by_, q⟩ := h
    have nd := scMotion_mul.nd
    obtain ⟨tM, vM⟩ := T.v_MOST_TIMES
    refine ⟨_, PSs.nox (pss_cons (ps_if (pt_not (pt_val (pe_call GW (hr.mono (by decide)) (by rfl) T.g_is_integer_within D.F_is_integer_within.kp (b_is_integer_within D) .nil pass0 (pa_cons (pv 1) (pa_cons (pe_un un_neg (pe_glob (v := .int 1000000000000000000000000000000) rfl vM ⟨_, rfl⟩)) (pa_cons (pe_glob (v := .int 1000000000000000000000000000000) rfl vM ⟨_, rfl⟩) pa_nil)))))) (pss_one ps_never) pss_nil)
      (pss_cons (ps_if (pt_cmpR op_eq (pe_fld (pv 0) rfl) pe_int (nomark _)) (pss_cons (ps_asg (pe_fld (pv 0) rfl) (pg_tup (by rfl) (pgs_cons (pg_name (i := 2) nd rfl (.inl rfl)) (pgs_cons (pg_name (i := 3) nd rfl (.inl rfl)) pgs_nil)))) (pss_one (ps_ret (pe_make T.k_Motion GI (hr.mono (by decide)) (by rfl) T.g_Motion (b_Motion_init D) .nil pass0 (pa_cons pe_int (pa_cons (pe_op op_mulW (pv 2) (pv 1)) (pa_cons (pe_op op_mulW (pv 3) (pv 1)) pa_nil))))))) pss_nil)
      (pss_cons (ps_set (i := 4) nd rfl (.inl rfl) (pe_make T.k_Motion GI (hr.mono (by decide)) (by rfl) T.g_Motion (b_Motion_init D) .nil pass0 (pa_cons pe_int (pa_cons pe_int (pa_cons pe_int pa_nil)))))
      (pss_cons (ps_for PassesOwn.never rfl (pi_range1 (by rfl) T.z_range (pa_cons (pe_op op_mod (pv 1) pe_int) pa_nil)) (pg_name (i := 5) nd rfl (.inl rfl))
          (pss_one (ps_set (i := 4) nd rfl (.inl rfl) (pe_op (op_binO T.f_Motion T.m_Motion_add GA hr (b_Motion_add D) pass0) (pv 4) (pv 0)))))
      (pss_one (ps_ret (pv 4))))))), ?_⟩
    obtain ⟨l1, d1, s1, e1, f1⟩ := id ha
    have l1 : t1 ≤ 3 := l1
    have z1 : (-1000000000000000000000000000000 : Int) ≤ z := z1
    have z2 : z ≤ 1000000000000000000000000000000 := z2
    refine ⟨_, rfl, _, rfl, z, _, _, rfl, true, ?_, iteF ?_⟩
    · rw [show (decide (-1000000000000000000000000000000 ≤ z) && decide (z ≤ 1000000000000000000000000000000)) = true by rw [decide_eq_true z1, decide_eq_true z2]; rfl]
    refine ⟨_, rfl, a, _, d1, _, _, rfl, e1, T.c_Motion, T.n_Motion__turn, rfl, rfl, _, rfl, ite2 (fun e => ?_) (fun e => ?_)⟩
    · have h0 : t1 = 0 := by
        have e2 := of_decide_eq_true e
        injection e2 with e3
        have e3 : (t1 : Int) = 0 := e3
        omega
      subst h0
      have z100 : z.natAbs < 2 ^ 100 := by
        have : (2 : Nat) ^ 100 = 1267650600228229401496703205376 := by decide
        omega
      refine ⟨_, rfl, a, _, d1, _, _, rfl, e1, T.c_Motion, T.n_Motion__shift, rfl, s1, _, rfl, tupT f1, rfl, _, _, rfl, _, _, rfl, rfl, ?_⟩
      refine ⟨_, rfl, _, rfl, _, _, rfl, rfl, wide_mul (a := 1500) (b := 100) bx z100 (by decide) (by decide) (by decide), _, rfl, _, rfl, _, _, rfl, rfl, wide_mul (a := 1500) (b := 100) by_ z100 (by decide) (by decide) (by decide), ?_⟩
      refine fun c d3 n3 nd3 _ => make_i (t := 0) n3 nd3 (by decide) rfl fun H2 s3 mc => ⟨rfl, q c H2 s3 ?_⟩
      rw [zpow_shift]
      exact mc
    · have h0 : t1 ≠ 0 := by
        intro z0
        exact e (by rw [z0]; rfl)
      refine fun c d3 n3 nd3 _ => make_i (t := 0) n3 nd3 (by decide) rfl fun H2 s3 mc => ⟨rfl, ?_⟩
      refine ⟨_, rfl, _, _, rfl, rfl, by show (0 : Int) < 4; decide, z % 4, rfl, by omega, by omega, ?_⟩
      refine for_range (lo := 0) (n := (z % 4).toNat) (fun i σ H' => ∃ r u, Same H H' ∧ MoM K H' r (npow (t1, x1, y1) i) ∧ σ = [some (.ref a), some (.int z), none, none, some (.ref r), u]) ⟨c, none, s3, mc, rfl⟩ (fun i σ' H' hi hp => ?_) fun σ' H' hp => ?_
      · obtain ⟨r, u, sm, mr, rfl⟩ := hp
        obtain ⟨_, d4, s4, e4, f4⟩ := id mr
        refine ⟨_, rfl, _, rfl, r, d4, _, rfl, e4, .inl ⟨a, d1, _, rfl, sm _ _ e1⟩, r, a, _, _, rfl, mr, IsM.same ha sm, fun r2 H3 s5 mr2 => ?_⟩
        exact ⟨r2, some (.int (0 + (i : Int))), sm.trans s5, mr2, rfl⟩
      · obtain ⟨r, u, sm, mr, rfl⟩ := hp
        refine ⟨_, rfl, q r H' sm ?_⟩
        rw [zpow_mod _ l1 h0]
        exact mr
end
end K15M

set_option Elab.async false
set_option linter.all false
set_option maxRecDepth 100000
set_option maxHeartbeats 4000000
namespace K15M
open PySem PySem.Spec PyProof.Rows L2 RT K15 M13
section
variable {P : Program} {w : World} {K : PySem.W.Frag} {mg : Str → Option Value} {base : Heap}
theorem ok_eq (D : Ds K) (T : Tx K mg) : FnOk P w K mg base CX0 1 (dMotion_eq.adr K) D.fd_Motion_eq ["self", "other"] (sEq K (MoM K)) := by
  refine D.F_Motion_eq.ok scMotion_eq (fun vs H Q E h => ?_) (fun cdv A outer s H vs Q E hr h => ?_)
  · obtain ⟨a, m, v, rfl, _⟩ := h
    rfl
  · obtain ⟨a, ⟨t1, x1, y1⟩, v, rfl, ha, h⟩ := h
    have nd := scMotion_eq.nd
    obtain ⟨l1, d1, s1, e1, f1⟩ := id ha
    refine ⟨_, PSs.nox (pss_one (ps_ret (pe_and (pe_callB call_isiY (by rfl) T.z_isinstance (by decide +kernel) (pa_cons (pv 1) (pa_cons (pe_glob (v := .ref (He.ga K "Motion")) rfl T.g_Motion rfl) pa_nil)))
      (pe_and (pe_cmpR op_eq (pe_fld (pv 0) rfl) (pe_fld (pv 1) rfl) (nomark _)) (pe_one (pe_cmpR (op_eqD hr.units) (pe_fld (pv 0) rfl) (pe_fld (pv 1) rfl) (nomark _))))))), ?_⟩
    rcases h with ⟨b, ⟨t2, x2, y2⟩, rfl, hb, q⟩ | ⟨Ty, ty, tm, q⟩
    · obtain ⟨l2, d2, s2, e2, f2⟩ := id hb
      refine ⟨_, rfl, _, .ref (He.ga K "Motion"), _, _, true, rfl, .own _, .base (.base (.ins e2 T.c_Motion T.i_Motion.ha T.i_Motion.hn T.i_Motion.ht T.i_Motion.hm)), T.t_Motion, true, rfl, iteT ?_⟩
      refine ⟨_, rfl, a, _, d1, _, _, rfl, e1, T.c_Motion, T.n_Motion__turn, rfl, _, rfl, b, _, d2, _, _, rfl, e2, T.c_Motion, T.n_Motion__turn, rfl, rfl, ?_⟩
      by_cases ht : t1 = t2
      · subst ht
        refine ⟨true, by rw [show ∀ v : V, decide (v = v) = true from fun v => decide_eq_true rfl], iteT ?_⟩
        refine ⟨_, rfl, a, _, d1, _, _, rfl, e1, T.c_Motion, T.n_Motion__shift, rfl, _, rfl, b, _, d2, _, _, rfl, e2, T.c_Motion, T.n_Motion__shift, rfl, .tuple [.int x1, .int y1], .tuple [.int x2, .int y2], .tup (tupT f1) (.cons (.int _) (.cons (.int _) .nil)), .tup (tupT f2) (.cons (.int _) (.cons (.int _) .nil)), rfl, rfl, ?_⟩
        have e : PyData.eqv (.tuple [.int x1, .int y1]) (.tuple [.int x2, .int y2]) = decide (((t1, x1, y1) : M3) = (t1, x2, y2)) := by
          refine (PySem.W.ked_eqvAll [x1, y1] [x2, y2]).trans (decide_eq_decide.mpr ?_)
          simp only [List.cons.injEq, Prod.mk.injEq, and_true, true_and]
        rw [e]
        exact q
      · refine ⟨false, by rw [decide_eq_false]; intro z; injection z with z; exact ht (by have z : (t1 : Int) = (t2 : Int) := z; omega), iteF ?_⟩
        rw [decide_eq_false (show ¬ ((t1, x1, y1) : M3) = (t2, x2, y2) from fun z => ht (by simp only [Prod.mk.injEq] at z; exact z.1))] at q
        exact q
    · have kt : PySem.W.kitOne K (.type Ty) (.ref (He.ga K "Motion")) = some false := by
        simp only [List.mem_cons, List.not_mem_nil, or_false] at tm
        rcases tm with rfl | rfl | rfl | rfl | rfl
        · exact T.kt_none
        · exact T.kt_int
        · exact T.kt_str
        · exact T.kt_list
        · exact T.kt_tuple
      exact ⟨_, rfl, _, .ref (He.ga K "Motion"), _, _, false, rfl, .own _, ty, kt, false, rfl, iteF q⟩
theorem ok_turn (D : Ds K) (T : Tx K mg) : FnOk P w K mg base CX0 1 (dMotion_turn.adr K) D.fd_Motion_turn ["self"] (sTurn (MoM K)) := by
  refine D.F_Motion_turn.ok scMotion_turn (fun vs H Q E h => ?_) (fun cdv A outer s H vs Q E hr h => ?_)
  · obtain ⟨a, m, rfl, _⟩ := h
    rfl
  · obtain ⟨a, ⟨t1, x1, y1⟩, rfl, ⟨l1, d1, s1, e1, f1⟩, q⟩ := h
    exact ⟨_, PSs.nox (pss_one (ps_ret (pe_fld (pv 0) rfl))), _, rfl, a, _, d1, _, _, rfl, e1, T.c_Motion, T.n_Motion__turn, rfl, q⟩
theorem ok_shift (D : Ds K) (T : Tx K mg) : FnOk P w K mg base CX0 1 (dMotion_shift.adr K) D.fd_Motion_shift ["self"] (sShift (MoM K)) := by
  refine D.F_Motion_shift.ok scMotion_shift (fun vs H Q E h => ?_) (fun cdv A outer s H vs Q E hr h => ?_)
  · obtain ⟨a, m, rfl, _⟩ := h
    rfl
  · obtain ⟨a, ⟨t1, x1, y1⟩, rfl, ⟨l1, d1, s1, e1, f1⟩, q⟩ := h
    exact ⟨_, PSs.nox (pss_one (ps_ret (pe_fld (pv 0) rfl))), _, rfl, a, _, d1, _, _, rfl, e1, T.c_Motion, T.n_Motion__shift, rfl, q s1 H (fun _ _ e => e) f1⟩
end
end K15M

set_option linter.all false
set_option maxRecDepth 100000
set_option maxHeartbeats 4000000
/-! words of program texts: signs -/
namespace WM
open PySem PySem.Spec PyProof.Rows L2 TL PySem.Builtin PySem.Builtin.Str PySem.StrLaws
/-- a word: an opening bracket, a closing one with its number, a letter so many times -/
inductive Wd where
  | op
  | cl (n : Nat)
  | lt (c : Nat) (n : Nat)
  deriving DecidableEq
def six : List Nat := [102, 98, 108, 114, 117, 100]
abbrev T30 : Nat := 1000000000000000000000000000000
def Wd.ok : Wd → Prop
  | .op => True
  | .cl n => 2 ≤ n ∧ n ≤ T30
  | .lt c n => c ∈ six ∧ 1 ≤ n ∧ n ≤ T30
def Wd.cps : Wd → List Nat
  | .op => [40]
  | .cl n => 41 :: numL n
  | .lt c n => if n = 1 then [c] else c :: numL n
def Wd.str (x : Wd) : Str := ⟨x.cps.toArray⟩
theorem tl_str (x : Wd) : tl x.str = x.cps := rfl
theorem len_tl (x : Str) : x.length = (tl x).length := by
  show x.cps.size = x.cps.toList.length
  rw [Array.length_toList]
theorem cps_len {x : Wd} (h : x.ok) : x.cps.length ≤ 32 := by
  cases x with
  | op => decide
  | cl n =>
    have := numL_len (n := n) (k := 31) (by decide) (by have h2 : n ≤ 1000000000000000000000000000000 := h.2; omega)
    simp only [Wd.cps, List.length_cons]
    omega
  | lt c n =>
    have := numL_len (n := n) (k := 31) (by decide) (by have h2 : n ≤ 1000000000000000000000000000000 := h.2.2; omega)
    simp only [Wd.cps]
    split
    · show 1 ≤ 32
      decide
    · simp only [List.length_cons]
      omega
theorem numL_head {n : Nat} (h : 1 ≤ n) : ∃ d r, numL n = d :: r ∧ 49 ≤ d ∧ d ≤ 57 := by
  induction n using Nat.strongRecOn with
  | ind n ih =>
    by_cases h10 : n < 10
    · exact ⟨48 + n, [], numL_lt h10, by omega, by omega⟩
    · obtain ⟨d, r, e, h1, h2⟩ := ih (n / 10) (by omega) (by omega)
      exact ⟨d, r ++ [48 + n % 10], by rw [numL_step (by omega), e]; rfl, h1, h2⟩
/-- the digits of a number, as a text -/
def dgS (n : Nat) : Str := ⟨(numL n).toArray⟩
theorem dgS_eq (n : Nat) : Str.ofString (toString ((n : Nat) : Int)) = dgS n := ext_tl (tl_num n)
theorem dg_len {n : Nat} (h : n ≤ T30) : (dgS n).length ≤ 31 := by
  rw [len_tl]
  exact numL_len (by decide) (by have h2 : n ≤ 1000000000000000000000000000000 := h; omega)
theorem dg_ascii (n : Nat) : Txt.isascii (dgS n) = true := by
  show (dgS n).cps.all (· < 128) = true
  rw [← Array.all_toList]
  refine List.all_eq_true.mpr fun c hc => ?_
  have := numL_digits n c hc
  simp only [decide_eq_true_eq]
  omega
theorem uni_digit : ∀ c, 48 ≤ c → c ≤ 57 → Unicode.isDigit c = true := by
  intro c h1 h2
  have : c = 48 ∨ c = 49 ∨ c = 50 ∨ c = 51 ∨ c = 52 ∨ c = 53 ∨ c = 54 ∨ c = 55 ∨ c = 56 ∨ c = 57 := by omega
  rcases this with rfl | rfl | rfl | rfl | rfl | rfl | rfl | rfl | rfl | rfl <;> decide +kernel
theorem dg_digit (n : Nat) : Txt.isdigit (dgS n) = true := by
  show (decide ((dgS n).length > 0) && (dgS n).cps.all Unicode.isDigit) = true
  have h1 : 0 < (dgS n).length := by
    rw [len_tl]
    exact List.length_pos_iff.mpr (numL_ne n)
  rw [decide_eq_true h1, Bool.true_and, ← Array.all_toList]
  refine List.all_eq_true.mpr fun c hc => ?_
  have := numL_digits n c hc
  exact uni_digit c this.1 this.2
theorem dg_int {n : Nat} (h : n ≤ T30) : intText? (dgS n) = some (n : Int) := by
  rw [← dgS_eq]
  refine int_num ?_
  have := dg_len h
  rw [len_tl] at this
  exact Nat.le_trans this (by decide)
/-- startswith of one sign -/
theorem starts1 (x : Str) (c : Nat) : Txt.startswith x ⟨#[c]⟩ = (match tl x with | [] => false | d :: _ => decide (d = c)) := by
  show (decide (0 + 1 ≤ x.length) && subAt x ⟨#[c]⟩ 0) = _
  rw [subAt_eq]
  have e1 : (⟨#[c]⟩ : Str).cps.toList = [c] := rfl
  have e2 : (⟨#[c]⟩ : Str).length = 1 := rfl
  have e3 : x.length = (tl x).length := len_tl x
  rw [e1, e2, e3]
  show (decide (0 + 1 ≤ (tl x).length) && (List.take 1 (List.drop 0 (tl x)) == [c])) = _
  cases tl x with
  | nil => rfl
  | cons d r =>
    show (decide (0 + 1 ≤ r.length + 1) && ([d] == [c])) = decide (d = c)
    rw [decide_eq_true (by omega), Bool.true_and]
    by_cases h : d = c
    · subst h
      simp
    · rw [decide_eq_false h]
      simp [h]
theorem dg_no0 {n : Nat} (h : 1 ≤ n) : Txt.startswith (dgS n) ⟨#[48]⟩ = false := by
  obtain ⟨d, r, e, h1, h2⟩ := numL_head h
  rw [starts1]
  have e2 : tl (dgS n) = d :: r := e
  rw [e2]
  exact decide_eq_false (by omega)
def sixB (x : Str) : Bool := inV (.str x) [.str "f", .str "b", .str "l", .str "r", .str "u", .str "d"]
theorem sixB_eq (x : Str) : sixB x = six.any fun c => decide (tl x = [c]) := by
  have e : ∀ (y : Str) (c : Nat), tl y = [c] → (y == x) = decide (tl x = [c]) := by
    intro y c h
    by_cases z : y = x
    · subst z
      rw [decide_eq_true h]
      exact beq_self_eq_true y
    · rw [decide_eq_false (fun w => z (ext_tl (h.trans w.symm)))]
      exact beq_false_of_ne z
  show ((("f" : Str) == x) || ((("b" : Str) == x) || ((("l" : Str) == x) || ((("r" : Str) == x) || ((("u" : Str) == x) || ((("d" : Str) == x) || false)))))) = _
  rw [e "f" 102 (by decide), e "b" 98 (by decide), e "l" 108 (by decide), e "r" 114 (by decide), e "u" 117 (by decide), e "d" 100 (by decide)]
  rfl
theorem six_one {c : Nat} (h : c ∈ six) : sixB ⟨#[c]⟩ = true := by
  rw [sixB_eq]
  exact List.any_eq_true.mpr ⟨c, h, decide_eq_true rfl⟩
theorem six_not {x : Str} (h : ∀ c ∈ six, tl x ≠ [c]) : sixB x = false := by
  rw [sixB_eq]
  exact List.any_eq_false.mpr fun c hc => by rw [decide_eq_false (h c hc)]; decide
/-- the first sign, the rest -/
theorem cut_first (d : Nat) (r : List Nat) : cutS ⟨(d :: r).toArray⟩ none (some 1) = ⟨#[d]⟩ := by
  refine ext_tl ?_
  have e2 : HT.sIx (d :: r).length (d :: r).length (some 1) = 1 := by
    have := HT.sIx_nat (d :: r).length (d :: r).length 1
    rw [show ((1 : Nat) : Int) = 1 from rfl] at this
    rw [this, List.length_cons]
    omega
  show ((d :: r).drop 0).take (HT.sIx (d :: r).length (d :: r).length (some 1) - 0) = [d]
  rw [e2]
  rfl
theorem cut_rest (d : Nat) (r : List Nat) : cutS ⟨(d :: r).toArray⟩ (some 1) none = ⟨r.toArray⟩ := by
  refine ext_tl ?_
  have e2 : HT.sIx (d :: r).length 0 (some 1) = 1 := by
    have := HT.sIx_nat (d :: r).length 0 1
    rw [show ((1 : Nat) : Int) = 1 from rfl] at this
    rw [this, List.length_cons]
    omega
  show ((d :: r).drop (HT.sIx (d :: r).length 0 (some 1))).take ((d :: r).length - HT.sIx (d :: r).length 0 (some 1)) = r
  rw [e2]
  show List.take (r.length + 1 - 1) r = r
  rw [Nat.add_sub_cancel, List.take_length]
theorem cl_cut (n : Nat) : cutS (Wd.cl n).str none (some 1) = ⟨#[41]⟩ ∧ cutS (Wd.cl n).str (some 1) none = dgS n := ⟨cut_first 41 (numL n), cut_rest 41 (numL n)⟩
theorem lt_cut (c : Nat) {n : Nat} (h : n ≠ 1) : cutS (Wd.lt c n).str none (some 1) = ⟨#[c]⟩ ∧ cutS (Wd.lt c n).str (some 1) none = dgS n := by
  have e : (Wd.lt c n).str = ⟨(c :: numL n).toArray⟩ := by
    show (⟨(if n = 1 then [c] else c :: numL n).toArray⟩ : Str) = _
    rw [if_neg h]
  rw [e]
  exact ⟨cut_first c (numL n), cut_rest c (numL n)⟩
theorem lt1_str (c : Nat) : (Wd.lt c 1).str = ⟨#[c]⟩ := rfl
theorem six_cl (n : Nat) : sixB (Wd.cl n).str = false := six_not fun c hc e => by
  have e : 41 :: numL n = [c] := e
  injection e with e1 e2
  exact numL_ne n e2
theorem six_lt (c : Nat) {n : Nat} (h : n ≠ 1) : sixB (Wd.lt c n).str = false := six_not fun d hd e => by
  have e : (if n = 1 then [c] else c :: numL n) = [d] := e
  rw [if_neg h] at e
  injection e with e1 e2
  exact numL_ne n e2
theorem six_41 : sixB ⟨#[41]⟩ = false := by decide
theorem op_starts : Txt.startswith Wd.op.str ⟨#[41]⟩ = false := by decide
theorem cl_starts (n : Nat) : Txt.startswith (Wd.cl n).str ⟨#[41]⟩ = true := by
  rw [starts1]
  show (match 41 :: numL n with | [] => false | d :: _ => decide (d = 41)) = true
  rfl
theorem six_ne {c : Nat} (h : c ∈ six) : c ≠ 41 ∧ c ≠ 40 ∧ c ≠ 32 := by
  simp only [six, List.mem_cons, List.not_mem_nil, or_false] at h
  omega
theorem lt_starts {c n : Nat} (h : c ∈ six) : Txt.startswith (Wd.lt c n).str ⟨#[41]⟩ = false := by
  rw [starts1]
  have e : tl (Wd.lt c n).str = if n = 1 then [c] else c :: numL n := rfl
  rw [e]
  have := (six_ne h).1
  by_cases h1 : n = 1
  · rw [if_pos h1]
    exact decide_eq_false this
  · rw [if_neg h1]
    exact decide_eq_false this
theorem is_op (x : Wd) (hx : x.ok) : (x.str = Wd.op.str) ↔ x = .op := by
  constructor
  · intro h
    have e : x.cps = [40] := congrArg tl h
    cases x with
    | op => rfl
    | cl n => cases e
    | lt c n =>
      have h6 := (six_ne hx.1).2.1
      simp only [Wd.cps] at e
      split at e
      · injection e with e1
        exact absurd e1 h6
      · injection e with e1
        exact absurd e1 h6
  · intro h
    rw [h]
theorem free_sp (x : Wd) (hx : x.ok) : 32 ∉ tl x.str := by
  have e : tl x.str = x.cps := rfl
  rw [e]
  cases x with
  | op => decide
  | cl n =>
    simp only [Wd.cps, List.mem_cons, not_or]
    exact ⟨by decide, numL_free (.inl (by decide))⟩
  | lt c n =>
    have h6 := (six_ne hx.1).2.2
    simp only [Wd.cps]
    split
    · simp only [List.mem_cons, List.not_mem_nil, or_false]
      exact fun z => h6 z.symm
    · simp only [List.mem_cons, not_or]
      exact ⟨fun z => h6 z.symm, numL_free (.inl (by decide))⟩
end WM

set_option linter.all false
set_option maxRecDepth 100000
set_option maxHeartbeats 4000000
/-! rows of words -/
namespace WM
open PySem PySem.Spec PyProof.Rows L2 TL
def isOp : Wd → Bool
  | .op => true
  | _ => false
def isCl : Wd → Bool
  | .cl _ => true
  | _ => false
def b2 (b : Bool) : Int := if b then 1 else 0
def step (x : Wd) : Int := b2 (isOp x) - b2 (isCl x)
/-- how deep it is behind i words -/
def dep (ws : List Wd) (i : Nat) : Int := ((ws.take i).map step).sum
theorem dep_succ {ws : List Wd} {i : Nat} {x : Wd} (h : ws[i]? = some x) : dep ws (i + 1) = dep ws i + b2 (isOp x) - b2 (isCl x) := by
  unfold dep
  rw [List.take_succ, h, List.map_append, List.sum_append]
  show _ + (step x + 0) = _
  unfold step
  omega
/-- the words of a program text -/
structure OkW (ws : List Wd) : Prop where
  ok : ∀ x ∈ ws, x.ok
  most : ws.length ≤ 1000
  cl : ∀ (i n : Nat), ws[i]? = some (.cl n) → 0 < dep ws i ∧ ∀ j : Nat, j + 1 = i → ws[j]? ≠ some .op
  up : ∀ i : Nat, i ≤ ws.length → 0 ≤ dep ws i ∧ dep ws i ≤ 12
  need : ∀ (i : Nat) (x : Wd), ws[i]? = some x → (i : Int) + 1 + (dep ws (i + 1) + b2 (isOp x)) ≤ 1000
  shut : dep ws ws.length = 0
def wstrs (ws : List Wd) : List V := ws.map fun x => V.str x.str
def textOf (ws : List Wd) : Str := Str.join " " (ws.map Wd.str)
theorem joinL_len (S : List Nat) (B : Nat) : ∀ ps : List (List Nat), (∀ p ∈ ps, p.length ≤ B) → (joinL S ps).length ≤ ps.length * (B + S.length)
  | [], _ => by simp [joinL]
  | [p], h => by
    have := h p (List.mem_singleton.mpr rfl)
    simp only [joinL, List.length_singleton, Nat.one_mul]
    omega
  | p :: q :: r, h => by
    have h1 := h p (List.mem_cons_self ..)
    have h2 := joinL_len S B (q :: r) fun z hz => h z (List.mem_cons_of_mem _ hz)
    simp only [joinL, List.length_append, List.length_cons] at h2 ⊢
    rw [Nat.add_mul (r.length + 1) 1, Nat.one_mul]
    omega
theorem text_len {ws : List Wd} (h : OkW ws) : (textOf ws).length ≤ 33000 := by
  rw [len_tl]
  unfold textOf
  rw [tl_join]
  have h1 := joinL_len (tl " ") 32 ((ws.map Wd.str).map tl) (by
    intro p hp
    obtain ⟨s, hs, rfl⟩ := List.mem_map.mp hp
    obtain ⟨x, hx, rfl⟩ := List.mem_map.mp hs
    exact cps_len (h.ok x hx))
  have e : (tl (" " : Str)).length = 1 := rfl
  rw [List.length_map, List.length_map, e] at h1
  have := h.most
  omega
theorem text_ne {ws : List Wd} (hn : ws ≠ []) : (textOf ws : Str) ≠ "" := by
  intro e
  have e2 : tl (textOf ws) = [] := by rw [e]; rfl
  unfold textOf at e2
  rw [tl_join] at e2
  cases ws with
  | nil => exact hn rfl
  | cons x r =>
    have hx : x.cps ≠ [] := by
      cases x with
      | op => simp [Wd.cps]
      | cl n => simp [Wd.cps]
      | lt c n =>
        simp only [Wd.cps]
        split <;> simp
    cases r with
    | nil => exact hx e2
    | cons y r =>
      have e3 : x.cps ++ (tl (" " : Str) ++ _) = [] := e2
      exact hx (List.append_eq_nil_iff.mp e3).1
theorem split_text {ws : List Wd} (h : OkW ws) (hn : ws ≠ []) : Txt.split (textOf ws) " " = ws.map Wd.str := by
  have := split_join (y := " ") (s := 32) (S := []) rfl (by decide +kernel) (parts := ws.map Wd.str) (fun e => hn (List.map_eq_nil_iff.mp e)) (fun p hp => by
    obtain ⟨x, hx, rfl⟩ := List.mem_map.mp hp
    exact free_sp x (h.ok x hx))
  rw [join_eq] at this
  exact this
theorem for_enum {K : PySem.W.Frag} {a : Addr} {xs : List V} {g : TG} {tb : TS} {D : Ends} {σ : L2.St} {H : Hp} (Pv : Nat → L2.St → Hp → Prop) (h0 : Pv 0 σ H) (hl : ∀ i σ H, i ≤ xs.length → Pv i σ H → SqL K H a xs)
    (hs : ∀ i x σ H T, xs[i]? = some x → Pv i σ H → H T = none → g (.ref T) σ (upd H T (.tup [.int (i : Nat), x])) fun σ2 H2 => tb { D with nx := Pv (i + 1), ct := Pv (i + 1), bk := D.nx } σ2 H2) (hd : ∀ σ H, Pv xs.length σ H → D.nx σ H) :
    ∃ W : Nat → Nat → L2.St → Hp → Prop, (∃ m, W 0 m σ H) ∧ ∀ i m σ H, W i m σ H →
      ((Ite K a).stop i H ∧ D.nx σ H) ∨ ((Ite K a).go i H ∧ ∃ N : L2.St → Hp → Prop, (∀ σ' H', N σ' H' → ∃ m', m' < m ∧ W (i + 1) m' σ' H') ∧ ∀ x H', (Ite K a).yld i H x H' → g x σ H' fun σ2 H2 => tb { D with nx := N, ct := N, bk := D.nx } σ2 H2) := by
  refine ⟨fun i m σ H => m = xs.length - i ∧ i ≤ xs.length ∧ Pv i σ H, ⟨xs.length, by simp, Nat.zero_le _, h0⟩, ?_⟩
  rintro i m σ H ⟨rfl, hi, p⟩
  have q := hl i σ H hi p
  by_cases hlt : i < xs.length
  · refine .inr ⟨⟨xs, xs[i], q, by simp [hlt]⟩, Pv (i + 1), fun σ' H' p' => ⟨xs.length - (i + 1), by omega, rfl, hlt, p'⟩, fun x H' y => ?_⟩
    obtain ⟨T, v, rfl, hT, rfl, y⟩ := y
    exact hs i v σ _ T (y xs q) p hT
  · have e : i = xs.length := by omega
    subst e
    exact .inl ⟨⟨xs, q, Nat.le_refl _⟩, hd σ H p⟩
end WM

set_option linter.all false
set_option maxRecDepth 100000
set_option maxHeartbeats 4000000
set_option exponentiation.threshold 3000
/-! programs as trees -/
namespace WM
open PySem PySem.Spec PyProof.Rows L2 TL
/-- the parts of a program: a letter so many times and the rest; inner parts so many times and the rest -/
inductive Ps where
  | nil
  | lf (c n : Nat) (r : Ps)
  | rp (b : Ps) (n : Nat) (r : Ps)
def Ps.app : Ps → Ps → Ps
  | .nil, q => q
  | .lf c n r, q => .lf c n (r.app q)
  | .rp b n r, q => .rp b n (r.app q)
def Ps.words : Ps → List Wd
  | .nil => []
  | .lf c n r => .lt c n :: r.words
  | .rp b n r => .op :: (b.words ++ .cl n :: r.words)
def Ps.size : Ps → Nat
  | .nil => 0
  | .lf _ n r => n + r.size
  | .rp b n r => b.size * n + r.size
def Ps.lev : Ps → Nat
  | .nil => 0
  | .lf _ _ r => r.lev
  | .rp b _ r => max (1 + b.lev) r.lev
def Ps.ok : Ps → Prop
  | .nil => True
  | .lf c n r => (c ∈ six ∧ 1 ≤ n ∧ n ≤ T30) ∧ r.ok
  | .rp b n r => b ≠ .nil ∧ b.ok ∧ (2 ≤ n ∧ n ≤ T30) ∧ r.ok
def Ps.sizes : Ps → List Int
  | .nil => []
  | .lf _ n r => (n : Int) :: r.sizes
  | .rp b n r => ((b.size * n : Nat) : Int) :: r.sizes
def Ps.levs : Ps → List Int
  | .nil => []
  | .lf _ _ r => 0 :: r.levs
  | .rp b _ r => ((1 + b.lev : Nat) : Int) :: r.levs
theorem sizes_sum : ∀ p : Ps, p.sizes.sum = (p.size : Int)
  | .nil => rfl
  | .lf c n r => by
    have := sizes_sum r
    simp only [Ps.sizes, Ps.size, List.sum_cons, this]
    omega
  | .rp b n r => by
    have := sizes_sum r
    simp only [Ps.sizes, Ps.size, List.sum_cons, this]
    omega
theorem levs_fold : ∀ (p : Ps) (a : Int), p.levs.foldl max a = max a (p.lev : Int) ∨ p = .nil
  | .nil, _ => .inr rfl
  | .lf c n r, a => by
    refine .inl ?_
    show r.levs.foldl max (max a 0) = max a (r.lev : Int)
    rcases levs_fold r (max a 0) with h | h
    · rw [h]
      omega
    · subst h
      show max a 0 = max a ((0 : Nat) : Int)
      rfl
  | .rp b n r, a => by
    refine .inl ?_
    show r.levs.foldl max (max a ((1 + b.lev : Nat) : Int)) = max a ((max (1 + b.lev) r.lev : Nat) : Int)
    rcases levs_fold r (max a ((1 + b.lev : Nat) : Int)) with h | h
    · rw [h]
      omega
    · subst h
      show max a _ = max a ((max (1 + b.lev) 0 : Nat) : Int)
      omega
theorem levs_max (p : Ps) : RT.maxI 0 p.levs = (p.lev : Int) := by
  cases p with
  | nil => rfl
  | lf c n r =>
    show r.levs.foldl max 0 = (r.lev : Int)
    rcases levs_fold r 0 with h | h
    · rw [h]; omega
    · subst h; rfl
  | rp b n r =>
    show r.levs.foldl max ((1 + b.lev : Nat) : Int) = ((max (1 + b.lev) r.lev : Nat) : Int)
    rcases levs_fold r ((1 + b.lev : Nat) : Int) with h | h
    · rw [h]; omega
    · subst h
      show ((1 + b.lev : Nat) : Int) = ((max (1 + b.lev) 0 : Nat) : Int)
      omega
theorem sizes_len (p : Ps) : p.sizes.length = p.levs.length := by
  induction p with
  | nil => rfl
  | lf c n r ih => simp [Ps.sizes, Ps.levs, ih]
  | rp b n r _ ih => simp [Ps.sizes, Ps.levs, ih]
theorem app_words (p q : Ps) : (p.app q).words = p.words ++ q.words := by
  induction p with
  | nil => rfl
  | lf c n r ih => simp [Ps.app, Ps.words, ih]
  | rp b n r _ ih => simp [Ps.app, Ps.words, ih]
theorem app_nil (p : Ps) : p.app .nil = p := by
  induction p with
  | nil => rfl
  | lf c n r ih => simp [Ps.app, ih]
  | rp b n r _ ih => simp [Ps.app, ih]
theorem app_assoc (p q r : Ps) : (p.app q).app r = p.app (q.app r) := by
  induction p with
  | nil => rfl
  | lf c n r ih => simp [Ps.app, ih]
  | rp b n r _ ih => simp [Ps.app, ih]
/-- a program of so many words has only so many steps -/
theorem size_le (p : Ps) (h : p.ok) : p.size ≤ p.words.length * 2 ^ (100 * (p.lev + 1)) := by
  have t : T30 ≤ 2 ^ 100 := by decide
  induction p with
  | nil => exact Nat.zero_le _
  | lf c n r ih =>
    have h1 := ih h.2
    have h2 : n ≤ 2 ^ 100 := Nat.le_trans h.1.2.2 t
    have h3 : (2 : Nat) ^ 100 ≤ 2 ^ (100 * (r.lev + 1)) := Nat.pow_le_pow_right (by decide) (by omega)
    simp only [Ps.size, Ps.words, Ps.lev, List.length_cons, Nat.add_mul, Nat.one_mul]
    omega
  | rp b n r ihb ihr =>
    obtain ⟨_, hb, hn, hr⟩ := h
    have h1 := ihb hb
    have h2 := ihr hr
    have h3 : n ≤ 2 ^ 100 := Nat.le_trans hn.2 t
    have e1 : b.size * n ≤ (b.words.length * 2 ^ (100 * (b.lev + 1))) * 2 ^ 100 := Nat.mul_le_mul h1 h3
    rw [Nat.mul_assoc, ← Nat.pow_add] at e1
    have h4 : (2 : Nat) ^ (100 * (b.lev + 1) + 100) ≤ 2 ^ (100 * (max (1 + b.lev) r.lev + 1)) := Nat.pow_le_pow_right (by decide) (by omega)
    have h5 : (2 : Nat) ^ (100 * (r.lev + 1)) ≤ 2 ^ (100 * (max (1 + b.lev) r.lev + 1)) := Nat.pow_le_pow_right (by decide) (by omega)
    have e2 := Nat.le_trans e1 (Nat.mul_le_mul_left b.words.length h4)
    have e3 := Nat.le_trans h2 (Nat.mul_le_mul_left r.words.length h5)
    simp only [Ps.size, Ps.words, Ps.lev, List.length_cons, List.length_append, Nat.add_mul, Nat.one_mul]
    generalize 2 ^ (100 * (max (1 + b.lev) r.lev + 1)) = X at *
    omega
section
variable (K : PySem.W.Frag) (C : Addr)
/-- the objects of the parts -/
inductive PartsAt (H : Hp) : List V → Ps → Prop
  | nil : PartsAt H [] .nil
  | lf {a d e : Addr} {c n : Nat} {vs : List V} {r : Ps} : H a = some (.ins C d [("letter", .str ⟨#[c]⟩), ("times", .int (n : Int)), ("inner", .ref e), ("unit", .int 1), ("size", .int (n : Int)), ("levels", .int 0)]) → H e = some (.tup []) → PartsAt H vs r → PartsAt H (.ref a :: vs) (.lf c n r)
  | rp {a d e : Addr} {n : Nat} {us vs : List V} {b r : Ps} : H a = some (.ins C d [("letter", .str ""), ("times", .int (n : Int)), ("inner", .ref e), ("unit", .int (b.size : Int)), ("size", .int ((b.size * n : Nat) : Int)), ("levels", .int ((1 + b.lev : Nat) : Int))]) → H e = some (.tup us) → PartsAt H us b → PartsAt H vs r → PartsAt H (.ref a :: vs) (.rp b n r)
variable {K C}
theorem PartsAt.same {H H' : Hp} {vs : List V} {p : Ps} (h : PartsAt C H vs p) (s : ∀ b o, H b = some o → H' b = some o) : PartsAt C H' vs p := by
  induction h with
  | nil => exact .nil
  | lf h1 h2 _ ih => exact .lf (s _ _ h1) (s _ _ h2) ih
  | rp h1 h2 _ _ ih1 ih2 => exact .rp (s _ _ h1) (s _ _ h2) ih1 ih2
theorem PartsAt.app {H : Hp} {vs us : List V} {p q : Ps} (h : PartsAt C H vs p) (k : PartsAt C H us q) : PartsAt C H (vs ++ us) (p.app q) := by
  induction h with
  | nil => exact k
  | lf h1 h2 _ ih => exact .lf h1 h2 ih
  | rp h1 h2 h3 _ _ ih2 => exact .rp h1 h2 h3 ih2
theorem PartsAt.len {H : Hp} {vs : List V} {p : Ps} (h : PartsAt C H vs p) : vs.length = p.sizes.length := by
  induction h with
  | nil => rfl
  | lf _ _ _ ih => simp [Ps.sizes, ih]
  | rp _ _ _ _ _ ih => simp [Ps.sizes, ih]
/-- what a part's fields tell -/
theorem PartsAt.get {H : Hp} {vs : List V} {p : Ps} (h : PartsAt C H vs p) : ∀ (i : Nat) (x : V), vs[i]? = some x → ∃ a d fs z l, x = .ref a ∧ H a = some (.ins C d fs) ∧ fs.lookup ("size" : Str) = some (.int z) ∧ p.sizes[i]? = some z ∧ fs.lookup ("levels" : Str) = some (.int l) ∧ p.levs[i]? = some l := by
  induction h with
  | nil => intro i x e; cases e
  | lf h1 h2 _ ih =>
    intro i x e
    cases i with
    | zero => cases e; exact ⟨_, _, _, _, _, rfl, h1, rfl, rfl, rfl, rfl⟩
    | succ i => exact ih i x e
  | rp h1 h2 _ _ _ ih =>
    intro i x e
    cases i with
    | zero => cases e; exact ⟨_, _, _, _, _, rfl, h1, rfl, rfl, rfl, rfl⟩
    | succ i => exact ih i x e
end
theorem sizes_le (p : Ps) : p.sizes.length ≤ p.words.length := by
  induction p with
  | nil => exact Nat.le_refl _
  | lf c n r ih => simp only [Ps.sizes, Ps.words, List.length_cons]; omega
  | rp b n r _ ih => simp only [Ps.sizes, Ps.words, List.length_cons, List.length_append]; omega
end WM

set_option linter.all false
set_option maxRecDepth 100000
set_option maxHeartbeats 4000000
/-! the words of a tree are those of a program text -/
namespace WM
open PySem PySem.Spec PyProof.Rows L2 TL
theorem dep_left {A B : List Wd} {i : Nat} (h : i ≤ A.length) : dep (A ++ B) i = dep A i := by
  unfold dep
  rw [List.take_append_of_le_length h]
theorem dep_right (A B : List Wd) (j : Nat) : dep (A ++ B) (A.length + j) = dep A A.length + dep B j := by
  unfold dep
  rw [List.take_length_add_append, List.map_append, List.sum_append, List.take_length]
theorem dep_cons (x : Wd) (B : List Wd) (j : Nat) : dep (x :: B) (j + 1) = step x + dep B j := by
  have := dep_right [x] B j
  rw [show [x].length + j = j + 1 by simp; omega] at this
  refine this.trans ?_
  show ([x].map step).sum + _ = _
  simp
theorem dep_zero (A : List Wd) : dep A 0 = 0 := rfl
theorem dep_all {A : List Wd} {i : Nat} (h : A.length ≤ i) : dep A i = dep A A.length := by
  unfold dep
  rw [List.take_of_length_le h, List.take_length]
theorem words_ne {p : Ps} (h : p ≠ .nil) : ∃ A x, p.words = A ++ [x] ∧ x ≠ .op := by
  induction p with
  | nil => exact absurd rfl h
  | lf c n r ih =>
    cases r with
    | nil => exact ⟨[], .lt c n, rfl, nofun⟩
    | lf c' n' r' =>
      obtain ⟨A, x, e, hx⟩ := ih nofun
      exact ⟨.lt c n :: A, x, by rw [show (Ps.lf c n (.lf c' n' r')).words = .lt c n :: (Ps.lf c' n' r').words from rfl, e]; rfl, hx⟩
    | rp b n' r' =>
      obtain ⟨A, x, e, hx⟩ := ih nofun
      exact ⟨.lt c n :: A, x, by rw [show (Ps.lf c n (.rp b n' r')).words = .lt c n :: (Ps.rp b n' r').words from rfl, e]; rfl, hx⟩
  | rp b n r _ ih =>
    cases r with
    | nil => exact ⟨.op :: b.words, .cl n, rfl, nofun⟩
    | lf c' n' r' =>
      obtain ⟨A, x, e, hx⟩ := ih nofun
      exact ⟨.op :: (b.words ++ .cl n :: A), x, by rw [show (Ps.rp b n (.lf c' n' r')).words = .op :: (b.words ++ .cl n :: (Ps.lf c' n' r').words) from rfl, e]; simp, hx⟩
    | rp b' n' r' =>
      obtain ⟨A, x, e, hx⟩ := ih nofun
      exact ⟨.op :: (b.words ++ .cl n :: A), x, by rw [show (Ps.rp b n (.rp b' n' r')).words = .op :: (b.words ++ .cl n :: (Ps.rp b' n' r').words) from rfl, e]; simp, hx⟩
/-- levels along the words -/
theorem dep_tree (p : Ps) : (∀ i, 0 ≤ dep p.words i ∧ dep p.words i ≤ p.lev) ∧ dep p.words p.words.length = 0 := by
  induction p with
  | nil => exact ⟨fun i => by unfold dep; simp [Ps.words, Ps.lev], rfl⟩
  | lf c n r ih =>
    refine ⟨fun i => ?_, ?_⟩
    · cases i with
      | zero => exact ⟨Int.le_refl _, Int.natCast_nonneg _⟩
      | succ i =>
        show 0 ≤ dep (.lt c n :: r.words) (i + 1) ∧ dep (.lt c n :: r.words) (i + 1) ≤ (r.lev : Int)
        rw [dep_cons]
        have := ih.1 i
        have e : step (.lt c n) = 0 := rfl
        omega
    · show dep (.lt c n :: r.words) (r.words.length + 1) = 0
      rw [dep_cons, ih.2]
      rfl
  | rp b n r ihb ihr =>
    have tail : ∀ j, 0 ≤ 1 + dep (b.words ++ .cl n :: r.words) j ∧ 1 + dep (b.words ++ .cl n :: r.words) j ≤ ((max (1 + b.lev) r.lev : Nat) : Int) := fun j => by
      by_cases h : j ≤ b.words.length
      · rw [dep_left h]
        have := ihb.1 j
        omega
      · obtain ⟨k, rfl⟩ : ∃ k, j = b.words.length + (k + 1) := ⟨j - b.words.length - 1, by omega⟩
        rw [dep_right, ihb.2, dep_cons]
        have := ihr.1 k
        have e : step (.cl n) = -1 := rfl
        omega
    refine ⟨fun i => ?_, ?_⟩
    · cases i with
      | zero => exact ⟨Int.le_refl _, Int.natCast_nonneg _⟩
      | succ i =>
        show 0 ≤ dep (.op :: (b.words ++ .cl n :: r.words)) (i + 1) ∧ dep (.op :: (b.words ++ .cl n :: r.words)) (i + 1) ≤ _
        rw [dep_cons]
        exact tail i
    · show dep (.op :: (b.words ++ .cl n :: r.words)) ((b.words ++ .cl n :: r.words).length + 1) = 0
      rw [dep_cons, List.length_append, List.length_cons, dep_right, dep_cons, ihb.2, ihr.2]
      rfl
/-- where a bracket closes -/
theorem cl_tree (p : Ps) (ok : p.ok) : ∀ (i n : Nat), p.words[i]? = some (.cl n) → 0 < dep p.words i ∧ ∀ j, j + 1 = i → p.words[j]? ≠ some .op := by
  induction p with
  | nil => intro i n h; cases h
  | lf c m r ih =>
    intro i n h
    cases i with
    | zero => cases h
    | succ i =>
      have h1 := ih ok.2 i n h
      refine ⟨?_, fun j hj => ?_⟩
      · show 0 < dep (.lt c m :: r.words) (i + 1)
        rw [dep_cons]
        have e : step (.lt c m) = 0 := rfl
        omega
      · cases j with
        | zero => intro z; cases z
        | succ j => exact h1.2 j (by omega)
  | rp b m r ihb ihr =>
    obtain ⟨hbn, hb, _, hr⟩ := ok
    intro i n h
    have ebr := (dep_tree b).2
    cases i with
    | zero => cases h
    | succ i =>
      have h : (b.words ++ .cl m :: r.words)[i]? = some (.cl n) := h
      have e1 : dep (Ps.rp b m r).words (i + 1) = 1 + dep (b.words ++ .cl m :: r.words) i := dep_cons _ _ _
      rw [e1]
      by_cases hi : i < b.words.length
      · rw [List.getElem?_append_left hi] at h
        have h1 := ihb hb i n h
        refine ⟨by rw [dep_left (Nat.le_of_lt hi)]; omega, fun j hj => ?_⟩
        have : j = i := by omega
        subst this
        cases j with
        | zero =>
          exact absurd h1.1 (by rw [dep_zero]; decide)
        | succ j =>
          show (b.words ++ .cl m :: r.words)[j]? ≠ _
          rw [List.getElem?_append_left (by omega)]
          exact h1.2 j rfl
      · rw [List.getElem?_append_right (by omega)] at h
        obtain ⟨k, rfl⟩ : ∃ k, i = b.words.length + k := ⟨i - b.words.length, by omega⟩
        rw [Nat.add_sub_cancel_left] at h
        rw [dep_right, ebr]
        cases k with
        | zero =>
          refine ⟨by rw [dep_zero]; decide, fun j hj => ?_⟩
          have : j = b.words.length := by omega
          subst this
          obtain ⟨A, x, e, hx⟩ := words_ne hbn
          have : (b.words).length = A.length + 1 := by rw [e]; simp
          rw [this]
          show (b.words ++ .cl m :: r.words)[A.length]? ≠ _
          rw [List.getElem?_append_left (by omega), e, List.getElem?_append_right (Nat.le_refl _), Nat.sub_self]
          intro z
          exact hx (Option.some.inj z)
        | succ k =>
          have h1 := ihr hr k n h
          rw [dep_cons]
          have es : step (.cl m) = -1 := rfl
          refine ⟨by omega, fun j hj => ?_⟩
          have : j = b.words.length + (k + 1) := by omega
          subst this
          show (b.words ++ .cl m :: r.words)[b.words.length + k]? ≠ _
          rw [List.getElem?_append_right (by omega), Nat.add_sub_cancel_left]
          cases k with
          | zero => intro z; cases z
          | succ k => exact h1.2 k rfl
theorem words_ok (p : Ps) (ok : p.ok) : ∀ x ∈ p.words, x.ok := by
  induction p with
  | nil => intro x h; cases h
  | lf c n r ih =>
    intro x h
    rcases List.mem_cons.mp h with rfl | h
    · exact ok.1
    · exact ih ok.2 x h
  | rp b n r ihb ihr =>
    intro x h
    rcases List.mem_cons.mp h with rfl | h
    · exact trivial
    · rcases List.mem_append.mp h with h | h
      · exact ihb ok.2.1 x h
      · rcases List.mem_cons.mp h with rfl | h
        · exact ok.2.2.1
        · exact ihr ok.2.2.2 x h
theorem step_ge (x : Wd) : -1 ≤ step x := by
  cases x with
  | op => decide
  | cl n =>
    show (-1 : Int) ≤ -1
    decide
  | lt c n =>
    show (-1 : Int) ≤ 0
    decide
theorem sum_ge : ∀ l : List Wd, -(l.length : Int) ≤ (l.map step).sum
  | [] => by simp
  | x :: l => by
    have h1 := sum_ge l
    have h2 := step_ge x
    simp only [List.map_cons, List.sum_cons, List.length_cons]
    omega
theorem okW_of {p : Ps} (ok : p.ok) (hl : p.words.length ≤ 1000) (hd : p.lev ≤ 12) : OkW p.words where
  ok := words_ok p ok
  most := hl
  cl := cl_tree p ok
  up := fun i _ => by
    have := (dep_tree p).1 i
    omega
  shut := (dep_tree p).2
  need := fun i x hx => by
    have il : i < p.words.length := (List.getElem?_eq_some_iff.mp hx).1
    have tot := (dep_tree p).2
    have cut : dep p.words (i + 1) + ((p.words.drop (i + 1)).map step).sum = 0 := by
      rw [← tot]
      unfold dep
      rw [← List.sum_append, ← List.map_append, List.take_append_drop, List.take_length]
    have ge := sum_ge (p.words.drop (i + 1))
    have ln : (p.words.drop (i + 1)).length = p.words.length - (i + 1) := List.length_drop ..
    by_cases ho : isOp x = true
    · have xo : x = .op := by
        cases x with
        | op => rfl
        | cl n => cases ho
        | lt c n => cases ho
      subst xo
      have pos : 0 < dep p.words (i + 1) := by
        have h1 := dep_succ hx
        have h2 := ((dep_tree p).1 i).1
        have h3 : b2 (isOp .op) = 1 := rfl
        have h4 : b2 (isCl .op) = 0 := rfl
        omega
      cases hr : p.words.drop (i + 1) with
      | nil =>
        rw [hr] at cut
        simp at cut
        omega
      | cons y t =>
        have hy : p.words[i + 1]? = some y := by
          have := List.getElem?_drop (xs := p.words) (i := i + 1) (j := 0)
          rw [hr] at this
          simpa using this.symm
        have hs : 0 ≤ step y := by
          cases y with
          | op => decide
          | cl n => exact absurd hx ((cl_tree p ok (i + 1) n hy).2 i rfl)
          | lt c n =>
            show (0 : Int) ≤ 0
            decide
        rw [hr] at cut ln
        simp only [List.map_cons, List.sum_cons, List.length_cons] at cut ln
        have ge2 := sum_ge t
        have : b2 (isOp Wd.op) = 1 := rfl
        omega
    · have : b2 (isOp x) = 0 := by unfold b2; rw [if_neg ho]
      omega
end WM

set_option linter.all false
set_option maxRecDepth 100000
set_option maxHeartbeats 4000000
/-! the steps of a tree -/
namespace WM
open PySem PySem.Spec PyProof.Rows L2 TL
def Ps.steps : Ps → List Nat
  | .nil => []
  | .lf c n r => List.replicate n c ++ r.steps
  | .rp b n r => (List.replicate n b.steps).flatten ++ r.steps
theorem steps_len (p : Ps) : p.steps.length = p.size := by
  induction p with
  | nil => rfl
  | lf c n r ih => simp [Ps.steps, Ps.size, ih]
  | rp b n r ihb ih => simp [Ps.steps, Ps.size, ih, ihb, Nat.mul_comm]
theorem app_steps (p q : Ps) : (p.app q).steps = p.steps ++ q.steps := by
  induction p with
  | nil => rfl
  | lf c n r ih => simp [Ps.app, Ps.steps, ih]
  | rp b n r _ ih => simp [Ps.app, Ps.steps, ih]
theorem size_pos {p : Ps} (h : p.ok) (hn : p ≠ .nil) : 1 ≤ p.size := by
  induction p with
  | nil => exact absurd rfl hn
  | lf c n r ih =>
    have := h.1.2.1
    simp only [Ps.size]
    omega
  | rp b n r ihb ih =>
    have h1 := ihb h.2.1 h.1
    have h2 := h.2.2.1.1
    have : 1 * 2 ≤ b.size * n := Nat.mul_le_mul h1 h2
    simp only [Ps.size]
    omega
/-- not many words for so many steps -/
theorem words_few {p : Ps} (h : p.ok) : p.words.length + 1 ≤ 2 * p.size ∨ p = .nil := by
  induction p with
  | nil => exact .inr rfl
  | lf c n r ih =>
    refine .inl ?_
    have h2 := h.1.2.1
    have e1 : (Ps.lf c n r).words.length = r.words.length + 1 := rfl
    have e2 : (Ps.lf c n r).size = n + r.size := rfl
    rcases ih h.2 with h1 | rfl
    · omega
    · have e3 : Ps.nil.words.length = 0 := rfl
      have e4 : Ps.nil.size = 0 := rfl
      omega
  | rp b n r ihb ih =>
    refine .inl ?_
    have h3 := h.2.2.1.1
    have h4 := size_pos h.2.1 h.1
    have h5 : b.size * 2 ≤ b.size * n := Nat.mul_le_mul_left _ h3
    have e1 : (Ps.rp b n r).words.length = b.words.length + (r.words.length + 1) + 1 := by
      simp only [Ps.words, List.length_cons, List.length_append]
    have e2 : (Ps.rp b n r).size = b.size * n + r.size := rfl
    have h1 : b.words.length + 1 ≤ 2 * b.size := (ihb h.2.1).resolve_right h.1
    rcases ih h.2.2.2 with h2 | rfl
    · omega
    · have e3 : Ps.nil.words.length = 0 := rfl
      have e4 : Ps.nil.size = 0 := rfl
      omega
theorem mul_ok {x : Str} {n : Int} (hx : x.length ≤ 5000) (h0 : 0 ≤ n) (h1 : n ≤ 20) : MulOk x n := by
  refine ⟨?_, fun hn _ => ?_, fun hn _ => ?_⟩
  · rw [decide_eq_false (by omega), decide_eq_false (by omega)]
    rfl
  · intro h
    have : (2 ^ 63 - 1 : Int) / n ≥ 5000 := by
      rw [ge_iff_le, Int.le_ediv_iff_mul_le (by omega)]
      omega
    omega
  · show decide (x.length * n.toNat > sizeLine) = false
    refine decide_eq_false ?_
    have h2 : x.length * n.toNat ≤ 5000 * 20 := Nat.mul_le_mul hx (by omega)
    have h3 : 5000 * 20 ≤ sizeLine := by decide
    omega
theorem foldl_any (x : Array Nat) : ∀ (k : Nat) (acc : Array Nat), ((List.replicate k x).foldl (· ++ ·) acc).toList = acc.toList ++ (List.replicate k x.toList).flatten
  | 0, acc => by simp
  | k + 1, acc => by
    rw [List.replicate_succ, List.foldl_cons, foldl_any x k]
    simp [List.replicate_succ]
theorem tl_mul (x : Str) (n : Nat) : tl (Txt.mul x (n : Int)) = (List.replicate n (tl x)).flatten := by
  unfold Txt.mul
  by_cases h1 : (n : Int) < 1
  · rw [if_pos h1]
    have e : n = 0 := by omega
    subst e
    rfl
  · rw [if_neg h1]
    by_cases h2 : n = 1
    · subst h2
      rw [if_pos (by rfl)]
      simp
    · by_cases h3 : x.length = 0
      · rw [if_pos (by rw [h3]; simp)]
        have e : tl x = [] := by
          rw [WM.len_tl] at h3
          exact List.length_eq_zero_iff.mp h3
        rw [e]
        simp
      · have e : ((n : Int) == 1 || x.length == 0) = false := by
          have a1 : ((n : Int) == 1) = false := by simpa using (by omega : ¬ (n : Int) = 1)
          have a2 : (x.length == 0) = false := by simpa using h3
          rw [a1, a2]
          rfl
        rw [if_neg (by rw [e]; decide)]
        show ((List.replicate ((n : Int)).toNat x.cps).foldl (· ++ ·) #[]).toList = _
        rw [foldl_any]
        simp
def stS (p : Ps) : Str := ⟨p.steps.toArray⟩
theorem st_len (p : Ps) : (stS p).length = p.size := by
  rw [WM.len_tl]
  exact steps_len p
theorem st_lf (p : Ps) (c n : Nat) : stS p ++ Txt.mul ⟨#[c]⟩ (n : Int) = stS (p.app (.lf c n .nil)) := by
  refine ext_tl ?_
  rw [tl_append, tl_mul]
  show p.steps ++ (List.replicate n [c]).flatten = (p.app (.lf c n .nil)).steps
  rw [app_steps]
  show _ = p.steps ++ (List.replicate n c ++ [])
  rw [List.append_nil]
  congr 1
  induction n with
  | zero => rfl
  | succ n ih => simp [List.replicate_succ, ih]
theorem st_rp (p b : Ps) (n : Nat) : stS p ++ Txt.mul (stS b) (n : Int) = stS (p.app (.rp b n .nil)) := by
  refine ext_tl ?_
  rw [tl_append, tl_mul]
  show p.steps ++ (List.replicate n b.steps).flatten = (p.app (.rp b n .nil)).steps
  rw [app_steps]
  show _ = p.steps ++ ((List.replicate n b.steps).flatten ++ [])
  rw [List.append_nil]
theorem word_lf (c n : Nat) (h : 1 ≤ n) : (⟨#[c]⟩ : Str) ++ Txt.mul (Str.ofString (toString ((n : Nat) : Int))) (if decide ((n : Int) > 1) = true then 1 else 0) = (Wd.lt c n).str := by
  refine ext_tl ?_
  rw [tl_append]
  by_cases h1 : n = 1
  · subst h1
    rfl
  · rw [decide_eq_true (show (n : Int) > 1 by omega), if_pos rfl]
    have e := tl_mul (Str.ofString (toString ((n : Nat) : Int))) 1
    rw [show ((1 : Nat) : Int) = 1 from rfl] at e
    rw [e, tl_num]
    show [c] ++ (List.replicate 1 (numL n)).flatten = if n = 1 then [c] else c :: numL n
    rw [if_neg h1]
    simp
theorem word_cl (n : Nat) : (")" : Str) ++ Str.ofString (toString ((n : Nat) : Int)) = (Wd.cl n).str := by
  refine ext_tl ?_
  rw [tl_append, tl_num]
  rfl
end WM

set_option Elab.async false
set_option linter.all false
set_option maxRecDepth 100000
set_option maxHeartbeats 8000000
namespace K15M
open PySem PySem.Spec PyProof.Rows L2 RT K15 WM TL
theorem app_ok {p q : Ps} (hp : p.ok) (hq : q.ok) : (p.app q).ok := by
  induction p with
  | nil => exact hq
  | lf c n r ih => exact ⟨hp.1, ih hp.2⟩
  | rp b n r _ ih => exact ⟨hp.1, hp.2.1, hp.2.2.1, ih hp.2.2.2⟩
theorem app_lev (p q : Ps) : (p.app q).lev = max p.lev q.lev := by
  induction p with
  | nil => exact (Nat.zero_max _).symm
  | lf c n r ih => exact ih
  | rp b n r _ ih =>
    show max (1 + b.lev) (r.app q).lev = max (max (1 + b.lev) r.lev) q.lev
    rw [ih, Nat.max_assoc]
theorem Keep.freeJ {t : Addr} {H H' : Hp} {p : Addr} (e : Keep t H H') (h : H' p = none) (n : p ≠ t) : H p = none := by
  cases q : H p with
  | none => rfl
  | some o =>
    rw [e p o n q] at h
    cases h
theorem few_len {p : Ps} (ok : p.ok) (h : p.size ≤ 1000) : (wstrs p.words).length ≤ 2000 := by
  have e1 : (wstrs p.words).length = p.words.length := List.length_map ..
  rcases words_few ok with h2 | h2
  · omega
  · rw [e1, h2]
    decide
theorem pool_at {v : Int} (h0 : 0 ≤ v) (h : v < 4) : ∃ S : Str, atI [V.str "fflr", V.str "ffflbr", V.str "fffflrud", V.str "fbludr"] v = some (.str S) ∧ 1 ≤ S.length ∧ S.length ≤ 8 ∧ ∀ j : Nat, j < S.length → ∃ c, c ∈ six ∧ S.cps.toList[j]? = some c := by
  have key : ∀ l : List Nat, (∀ c ∈ l, c ∈ six) → ∀ j : Nat, j < l.length → ∃ c, c ∈ six ∧ l[j]? = some c := fun l hl j hj => ⟨l[j], hl _ (List.getElem_mem hj), List.getElem?_eq_getElem hj⟩
  have e : v = 0 ∨ v = 1 ∨ v = 2 ∨ v = 3 := by omega
  rcases e with rfl | rfl | rfl | rfl
  · exact ⟨_, atI_nat (j := 0) rfl, by decide, by decide, key [102, 102, 108, 114] (by decide)⟩
  · exact ⟨_, atI_nat (j := 1) rfl, by decide, by decide, key [102, 102, 102, 108, 98, 114] (by decide)⟩
  · exact ⟨_, atI_nat (j := 2) rfl, by decide, by decide, key [102, 102, 102, 102, 108, 114, 117, 100] (by decide)⟩
  · exact ⟨_, atI_nat (j := 3) rfl, by decide, by decide, key [102, 98, 108, 117, 100, 114] (by decide)⟩
theorem log20 {n : Nat} (h : n ≤ 20) : ((n : Int)).natAbs.log2 < 1920 := by
  by_cases z : ((n : Int)).natAbs = 0
  · rw [z]; decide
  · have h2 := (Nat.log2_lt (k := 5) z).mpr (by omega)
    omega
theorem lt_ok {c n : Nat} (hc : c ∈ six) (h1 : 1 ≤ n) (h : n ≤ 20) : (Wd.lt c n).ok := ⟨hc, h1, Nat.le_trans h (by decide)⟩
theorem num_len {n : Nat} (h : n ≤ 20) : (Str.ofString (toString ((n : Nat) : Int))).length ≤ 31 := by
  rw [dgS_eq]
  exact dg_len (Nat.le_trans h (by decide))
theorem goal_at {a b v : Int} {m : Nat} (h0 : 0 ≤ v) (h : v < 2) (ha : 0 ≤ a ∧ a < m) : ∃ G : Nat, atI [V.int (1 + a), V.int (m : Int)] v = some (.int (G : Int)) ∧ G ≤ m := by
  have e : v = 0 ∨ v = 1 := by omega
  rcases e with rfl | rfl
  · obtain ⟨n, rfl⟩ := Int.eq_ofNat_of_zero_le ha.1
    exact ⟨1 + n, (atI_nat (j := 0) rfl).trans (by rw [Int.natCast_add]; rfl), by omega⟩
  · exact ⟨m, atI_nat (j := 1) rfl, Nat.le_refl _⟩
section
variable {P : Program} {w : World} {K : PySem.W.Frag} {mg : Str → Option Value} {base : Heap}
def spMade (d : Nat) : Sp := fun vs H Q _ => ∃ (t : Addr) (c m : Nat), vs = [.ref t, .int (m : Int)] ∧ Tk H t c ∧ c + 300 ^ d ≤ 100000000000000 ∧ 1 ≤ m ∧ m ≤ 1000 ∧ 0 < d ∧ m < 2 * 4 ^ d ∧ d ≤ 5 ∧
  ∀ (r wl : Addr) (p : Ps) (c' : Nat) H', Keep t H H' → Tk H' t c' → c ≤ c' → c' ≤ c + 300 ^ d → p.ok → p.lev ≤ d → p.size ≤ m → H wl = none → H' r = some (.tup [.ref wl, .str (stS p)]) → H' wl = some (.lst (wstrs p.words)) → Q (.ref r) H'
theorem ok_made (D : Ds K) (T : Tx K mg) : ∀ d, FnOk P w K mg base CX0 (2 + d) (d_law_made.adr K) D.fd__law_made ["tank", "most"] (spMade d) := by
  have GD : FnOk P w K mg base CX0 1 _ _ _ spDip := ok_dip D T
  intro d
  induction d with
  | zero =>
    refine D.F__law_made.ok sc_law_made (fun vs H Q E h => ?_) (fun cdv A outer s H vs Q E hr h => ⟨_, PSs.nox (pss_cons ps_never (pss_cons ps_never (pss_cons ps_never (pss_cons ps_never (pss_one ps_never))))), ?_⟩)
    · obtain ⟨t, c, m, rfl, _⟩ := h
      rfl
    · obtain ⟨t, c, m, rfl, tk, hc, hm1, hm, h0, _⟩ := h
      exact absurd h0 (Nat.lt_irrefl 0)
  | succ d ih =>
  refine D.F__law_made.ok sc_law_made (fun vs H Q E h => ?_) (fun cdv A outer s H vs Q E hr h => ?_)
  · obtain ⟨t, c, m, rfl, _⟩ := h
    rfl
  · obtain ⟨t, c, m, rfl, tk, hc, hm1, hm, hd0, hmd, hd5, q⟩ := h
    have nd := sc_law_made.nd
    have hr' : Room (2 + d) _ := hr
    have hr1 := hr'.mono (show 1 ≤ 2 + d by omega)
    refine ⟨_, PSs.nox (pss_cons (ps_par3 (i := 2) (j := 3) (l := 4) (by rfl) nd rfl rfl rfl (by decide) (by decide) (by decide) rfl rfl rfl
          (pa_cons (pe_lst pa_nil) (pa_cons pe_str (pa_cons (pe_ix ix_list (pe_lst (pa_cons (pe_op op_add pe_int (pe_call GD hr1 (by rfl) T.g__law_dip D.F__law_dip.kp (b__law_dip D) .nil pass0 (pa_cons (pv 0) (pa_cons (pv 1) pa_nil)))) (pa_cons (pv 1) pa_nil))) (pe_call GD hr1 (by rfl) T.g__law_dip D.F__law_dip.kp (b__law_dip D) .nil pass0 (pa_cons (pv 0) (pa_cons pe_int pa_nil))) (fun _ _ => rfl)) pa_nil))) (by rfl))
      (pss_cons (ps_set (i := 5) nd rfl (.inl rfl) (pe_call GD hr1 (by rfl) T.g__law_dip D.F__law_dip.kp (b__law_dip D) .nil pass0 (pa_cons (pv 0) (pa_cons pe_int pa_nil))))
      (pss_cons (ps_set (i := 6) nd rfl (.inl rfl) (pe_ix ix_list (pe_lst (pa_cons pe_str (pa_cons pe_str (pa_cons pe_str (pa_cons pe_str pa_nil))))) (pv 5) (fun _ _ => rfl)))
      (pss_cons (ps_for PassesOwn.never rfl (pi_range1 (by rfl) T.z_range (pa_cons (pe_op op_add pe_int (pe_op op_fdiv (pv 1) pe_int)) pa_nil)) (pg_name (i := 7) nd rfl (.inl rfl))
        (pss_cons (ps_par3 (i := 8) (j := 9) (l := 10) (by rfl) nd rfl rfl rfl (by decide) (by decide) (by decide) rfl rfl rfl
          (pa_cons (pe_ix ix_str (pv 6) (pe_call GD hr1 (by rfl) T.g__law_dip D.F__law_dip.kp (b__law_dip D) .nil pass0 (pa_cons (pv 0) (pa_cons (pe_callB call_len_str (by rfl) T.z_len PySem.boot_len (pa_cons (pv 6) pa_nil)) pa_nil))) (fun _ _ => rfl)) (pa_cons (pe_call GD hr1 (by rfl) T.g__law_dip D.F__law_dip.kp (b__law_dip D) .nil pass0 (pa_cons (pv 0) (pa_cons pe_int pa_nil))) (pa_cons pe_int pa_nil))) (by rfl))
        (pss_cons (ps_par (i := 11) (j := 12) (by rfl) nd rfl rfl (by decide) rfl rfl (pa_cons (pe_lst (pa_cons (pv 8) pa_nil)) (pa_cons (pv 8) pa_nil)) (by rfl))
        (pss_cons (ps_if (pt_cmpR op_eq (pv 9) pe_int (nomark _)) (pss_one (ps_set (i := 10) nd rfl (.inl rfl) (pe_op op_add pe_int (pe_call GD hr1 (by rfl) T.g__law_dip D.F__law_dip.kp (b__law_dip D) .nil pass0 (pa_cons (pv 0) (pa_cons pe_int pa_nil)))))) pss_nil)
        (pss_cons (ps_if (PW.pt (pw_and (pt_cmpR op_eq (pv 9) pe_int (nomark _)) (pw_and1 (pt_cmpR op_gt (pv 1) pe_int (nomark _)))))
            (pss_cons (ps_asg (pe_call ih hr' (by rfl) T.g__law_made D.F__law_made.kp (b__law_made D) .nil pass0 (pa_cons (pv 0) (pa_cons (pe_op op_fdiv (pv 1) pe_int) pa_nil))) (pg_tup (by rfl) (pgs_cons (pg_name (i := 11) nd rfl (.inl rfl)) (pgs_cons (pg_name (i := 12) nd rfl (.inl rfl)) pgs_nil))))
              (pss_one (ps_set (i := 10) nd rfl (.inl rfl) (pe_op op_add pe_int (pe_call GD hr1 (by rfl) T.g__law_dip D.F__law_dip.kp (b__law_dip D) .nil pass0 (pa_cons (pv 0) (pa_cons pe_int pa_nil))))))) pss_nil)
        (pss_one (ps_if (PW.pt (pw_and (pt_cmpR op_ne (pv 12) pe_str (nomark _)) (pw_and1 (pt_cmpR op_le (pe_op op_add (pe_callB call_len_str (by rfl) T.z_len PySem.boot_len (pa_cons (pv 3) pa_nil)) (pe_op op_mul (pv 10) (pe_callB call_len_str (by rfl) T.z_len PySem.boot_len (pa_cons (pv 12) pa_nil)))) (pv 4) (nomark _)))))
            (pss_cons (ps_set (i := 3) nd rfl (.inl rfl) (pe_op op_add_str (pv 3) (pe_op op_mulS (pv 12) (pv 10))))
            (pss_one (ps_if (PW.pt (pw_and (pt_cmpR op_eq (pv 9) pe_int (nomark _)) (pw_and1 (pt_cmpR op_gt (pv 1) pe_int (nomark _)))))
              (pss_one (ps_set (i := 2) nd rfl (.inl rfl) (pe_op op_cat (pe_op op_cat (pe_op op_cat (pv 2) (pe_lst (pa_cons pe_str pa_nil))) (pv 11)) (pe_lst (pa_cons (pe_op op_add_str pe_str (pe_callTy call_str_int (by rfl) T.z_str (by decide +kernel) (pa_cons (pv 10) pa_nil))) pa_nil)))))
              (pss_one (ps_expr (pe_bm PySem.F.plainAttrs_list PySem.F.slot_list_append PySem.F.type_list_append mt_append (pv 2) (pa_cons (pe_op op_add_str (pv 8) (pe_op op_mulS (pe_callTy call_str_int (by rfl) T.z_str (by decide +kernel) (pa_cons (pv 10) pa_nil)) (pe_callTy call_int1 (by rfl) T.z_int (by decide +kernel) (pa_cons (pe_cmpR op_gt (pv 10) pe_int (nomark _)) pa_nil)))) pa_nil))))))) pss_nil)))))))
      (pss_one (ps_ret (pe_tup (pa_cons (pv 2) (pa_cons (pv 3) pa_nil))))))))), ?_⟩
    have pd : 1 ≤ 300 ^ d := Nat.pow_pos (by decide)
    have pd1 : 300 ^ (d + 1) = 300 ^ d * 300 := Nat.pow_succ ..
    have pd4 : 300 ^ d ≤ 300 ^ 4 := Nat.pow_le_pow_right (by decide) (by omega)
    have pd4' : (300 : Nat) ^ 4 = 8100000000 := by decide
    refine ⟨by show 0 ≤ sizeLine; decide, fun wl hwl => ?_⟩
    have sw := same_new (o := .lst []) hwl
    obtain ⟨A0, B0, et, _⟩ := id tk
    refine ⟨_, rfl, _, rfl, t, (m : Int), c, rfl, tk.same sw, by omega, by omega, by omega, fun v1 c1 H1 k1 t1 l1 u1 a1 b1 => ?_⟩
    refine ⟨_, _, rfl, rfl, _, rfl, by show 2 ≤ sizeLine; decide, fun gl hgl => ?_⟩
    obtain ⟨A1, B1, et1, _⟩ := id t1
    have sg := same_new (o := .lst [.int (1 + v1), .int (m : Int)]) hgl
    refine ⟨_, rfl, t, 2, c1, rfl, t1.same sg, by omega, by decide, by decide, fun v2 c2 H2 k2 t2 l2 u2 a2 b2 => ?_⟩
    obtain ⟨G, eG, hG⟩ := goal_at (b := 0) a2 b2 ⟨a1, b1⟩
    refine ⟨gl, _, v2, _, rfl, rfl, lstL (k2 gl _ (Ne.symm (ne_of_none et1 hgl)) upd_same), eG, _, _, _, rfl, ?_⟩
    refine ⟨_, rfl, t, 4, c2, rfl, t2, by omega, by decide, by decide, fun v3 c3 H3 k3 t3 l3 u3 a3 b3 => ?_⟩
    obtain ⟨S, eS, S1, S8, hS⟩ := pool_at a3 b3
    refine ⟨by show 4 ≤ sizeLine; decide, fun pl hpl => ?_⟩
    have sp := same_new (o := .lst [.str "fflr", .str "ffflbr", .str "fffflrud", .str "fbludr"]) hpl
    refine ⟨_, rfl, pl, _, v3, _, rfl, rfl, lstL upd_same, eS, ?_⟩
    have tn : t ≠ wl := ne_of_none et hwl
    have kH : Keep t H (upd H3 pl (.lst [.str "fflr", .str "ffflbr", .str "fffflrud", .str "fbludr"])) := (Same.keep sw).trans (k1.trans ((Same.keep sg).trans (k2.trans (k3.trans (Same.keep sp)))))
    have ew : upd H3 pl (.lst [.str "fflr", .str "ffflbr", .str "fffflrud", .str "fbludr"]) wl = some (.lst []) := sp _ _ (k3 _ _ (Ne.symm tn) (k2 _ _ (Ne.symm tn) (sg _ _ (k1 _ _ (Ne.symm tn) upd_same))))
    have tkS := t3.same sp
    refine ⟨_, rfl, _, _, rfl, rfl, ⟨by decide, by decide⟩, _, _, rfl, rfl, _, rfl, by omega, by omega, ?_⟩
    refine for_range (lo := 0) (fun i σ H' => ∃ (wl : Addr) (p : Ps) (c' : Nat) (z7 z8 z9 z10 z11 z12 : Option V), Keep t H H' ∧ Tk H' t c' ∧ c ≤ c' ∧ c' ≤ c + 3 + i * (3 + 300 ^ d) ∧ p.ok ∧ p.lev ≤ d + 1 ∧ p.size ≤ G ∧ H wl = none ∧ H' wl = some (.lst (wstrs p.words)) ∧
        σ = [some (.ref t), some (.int (m : Int)), some (.ref wl), some (.str (stS p)), some (.int (G : Int)), some (.int v3), some (.str S), z7, z8, z9, z10, z11, z12])
      ⟨wl, .nil, c3, none, none, none, none, none, none, kH, tkS, by omega, by omega, trivial, Nat.zero_le _, Nat.zero_le _, hwl, ew, rfl⟩ (fun i σ' H' hi hp => ?_) fun σ' H' hp => ?_
    · obtain ⟨wl, p, c', z7, z8, z9, z10, z11, z12, kH', tk', lc, uc, ok, lv, sz, hw, ew', rfl⟩ := hp
      have hi56 : i < 56 := by
        have : ((6 : Int) + (m : Int) / 20).toNat ≤ 56 := by omega
        exact Nat.lt_of_lt_of_le hi this
      have uc2 : c' ≤ c + 3 + 56 * (3 + 300 ^ d) := by
        have : i * (3 + 300 ^ d) ≤ 56 * (3 + 300 ^ d) := Nat.mul_le_mul_right _ (by omega)
        omega
      have ui : (i + 1) * (3 + 300 ^ d) = i * (3 + 300 ^ d) + (3 + 300 ^ d) := Nat.succ_mul ..
      -- the letter, the way
      refine ⟨_, rfl, _, rfl, _, rfl, _, rfl, Nat.le_trans S8 (by decide), t, (S.length : Int), c', rfl, tk', by omega, by omega, by omega, fun v4 c4 H4 k4 t4 l4 u4 a4 b4 => ?_⟩
      obtain ⟨j, rfl⟩ := Int.eq_ofNat_of_zero_le a4
      obtain ⟨ch, hch, ej⟩ := hS j (by omega)
      refine ⟨S, _, ch, rfl, rfl, Nat.le_trans S8 (by decide), atI_nat ej, ?_⟩
      refine ⟨_, rfl, t, 4, c4, rfl, t4, by omega, by decide, by decide, fun v5 c5 H5 k5 t5 l5 u5 a5 b5 => ⟨_, _, _, rfl, ?_⟩⟩
      dsimp only [List.set_cons_zero, List.set_cons_succ]
      refine ⟨_, rfl, by show 1 ≤ sizeLine; decide, fun il hil => ⟨_, rfl, _, _, rfl, ?_⟩⟩
      dsimp only [List.set_cons_zero, List.set_cons_succ]
      have si := same_new (o := .lst [.str ⟨#[ch]⟩]) hil
      obtain ⟨A', B', et', _⟩ := id tk'
      have wt : wl ≠ t := Ne.symm (ne_of_none et hw)
      have ew5 := si _ _ (k5 _ _ wt (k4 _ _ wt ew'))
      have t5' := t5.same si
      have k5' : Keep t H _ := kH'.trans (k4.trans (k5.trans (Same.keep si)))
      by_cases w1 : v5 = 1
      · subst w1
        refine ⟨_, rfl, rfl, true, rfl, iteT ⟨_, rfl, t, 5, c5, rfl, t5', by omega, by decide, by decide, fun v6 c6 H6 k6 t6 l6 u6 a6 b6 => ⟨_, _, rfl, rfl, ?_⟩⟩⟩
        obtain ⟨n6, rfl⟩ := Int.eq_ofNat_of_zero_le a6
        dsimp only [List.set_cons_zero, List.set_cons_succ]
        rw [show (2 : Int) + (n6 : Int) = ((2 + n6 : Nat) : Int) by omega]
        refine ⟨_, rfl, rfl, false, rfl, iteF ?_⟩
        have ew6 := k6 _ _ wt ew5
        have k6' := k5'.trans k6
        have clen : (⟨#[ch]⟩ : Str).length = 1 := rfl
        have hpl2 : (stS p).length = p.size := st_len p
        have zl : 100000 ≤ sizeLine := by decide
        refine ⟨_, rfl, rfl, true, ?_, iteT ?_⟩
        · exact congrArg (fun b => V.bl (!b)) (decide_eq_false fun z => by injection z with z; exact absurd (congrArg Str.length z) (by show ¬ (1 : Nat) = 0; decide))
        refine ⟨_, rfl, _, rfl, by omega, _, rfl, _, rfl, _, rfl, by omega, _, _, rfl, rfl, .inl ⟨by omega, by omega⟩, _, _, rfl, rfl, _, rfl, _, _, rfl, rfl, _, rfl, ite2 (fun e => ?_) (fun e => ?_)⟩
        · have e2 := of_decide_eq_true e
          have fit : p.size + (2 + n6) ≤ G := by
            rw [hpl2, clen] at e2
            omega
          refine ⟨_, rfl, _, rfl, _, rfl, _, _, rfl, rfl, mul_ok (by omega) (by omega) (by omega), _, _, rfl, rfl, ?_, ?_⟩
          · have h1 := st_len (p.app (.lf ch (2 + n6) .nil))
            rw [← st_lf, strLen_append] at h1
            have h2 : (p.app (.lf ch (2 + n6) .nil)).size = p.size + (2 + n6) := by rw [← steps_len, app_steps, List.length_append, steps_len]; simp [Ps.steps]
            omega
          rw [st_lf]
          refine ⟨_, rfl, rfl, false, congrArg V.bl (decide_eq_false fun z => by injection z with z; omega), iteF ?_⟩
          refine ⟨_, rfl, .inl ⟨rfl, _, lstL ew6⟩, _, rfl, _, rfl, _, rfl, ?_, _, rfl, _, _, rfl, rfl, .inr ⟨_, rfl, _, _, rfl, rfl, mul_ok ?_ ?_ ?_, _, _, rfl, rfl, ?_, ?_⟩⟩
          · exact log20 (by omega)
          · exact Nat.le_trans (num_len (by omega)) (by decide)
          · split <;> decide
          · split <;> decide
          · have h2 := congrArg Str.length (word_lf ch (2 + n6) (by omega))
            rw [strLen_append] at h2
            refine Nat.le_trans (Nat.le_of_eq h2) ?_
            rw [WM.len_tl]
            exact Nat.le_trans (cps_len (x := .lt ch (2 + n6)) (lt_ok hch (by omega) (by omega))) (by decide)
          have wd := word_lf ch (2 + n6) (by omega)
          rw [show ((⟨#[ch]⟩ : Str) ++ Txt.mul (Str.ofString (toString (((2 + n6 : Nat)) : Int))) (if decide (1 < (((2 + n6 : Nat)) : Int)) = true then 1 else 0)) = (Wd.lt ch (2 + n6)).str from wd]
          have fewp := words_few ok
          have wl1 : (wstrs p.words).length < sizeLine := by
            have e1 : (wstrs p.words).length = p.words.length := List.length_map ..
            rcases fewp with h | h
            · omega
            · rw [e1, h]
              decide
          have okn : (p.app (.lf ch (2 + n6) .nil)).ok := app_ok ok ⟨lt_ok hch (by omega) (by omega), trivial⟩
          have szn : (p.app (.lf ch (2 + n6) .nil)).size = p.size + (2 + n6) := by rw [← steps_len, app_steps, List.length_append, steps_len]; simp [Ps.steps]
          have lvn : (p.app (.lf ch (2 + n6) .nil)).lev = p.lev := by
            rw [app_lev]
            exact Nat.max_zero _
          refine ⟨wl, wstrs p.words, .str (Wd.lt ch (2 + n6)).str, rfl, rfl, ew6, wl1, wl, p.app (.lf ch (2 + n6) .nil), c6, _, _, _, _, _, _, fun b o hb h => ?_, ?_, by omega, by omega, okn, by omega, by omega, hw, ?_, rfl⟩
          · rw [upd_ne (ne_of_none h hw)]
            exact k6' b o hb h
          · obtain ⟨X1, X2, ex, hx⟩ := t6
            exact ⟨X1, X2, (upd_ne (Ne.symm wt)).trans ex, hx⟩
          · rw [upd_same, app_words]
            show some (HO.lst (wstrs p.words ++ [V.str (Wd.lt ch (2 + n6)).str])) = some (HO.lst (wstrs (p.words ++ [Wd.lt ch (2 + n6)])))
            unfold wstrs
            rw [List.map_append]
            rfl
        · exact ⟨wl, p, c6, _, _, _, _, _, _, k6', t6, by omega, by omega, ok, lv, sz, hw, ew6, rfl⟩
      · refine ⟨_, rfl, rfl, false, congrArg V.bl (decide_eq_false fun z => by injection z with z; omega), iteF ?_⟩
        by_cases w2 : v5 = 2
        · subst w2
          by_cases w7 : 7 < m
          · refine ⟨_, rfl, rfl, true, rfl, iteT ⟨_, rfl, _, _, rfl, rfl, true, congrArg V.bl (decide_eq_true (by omega)), iteT ?_⟩⟩
            have p4 : 4 ^ (d + 1) = 4 ^ d * 4 := Nat.pow_succ ..
            have d0 : 0 < d := Nat.pos_of_ne_zero fun z => by
              subst z
              have : m < 2 * 4 := hmd
              omega
            refine ⟨_, rfl, _, rfl, _, _, rfl, rfl, ⟨by decide, by decide⟩, t, c5, m / 4, ?_, t5', by omega, by omega, by omega, d0, by omega, by omega, fun r2 wl2 b c6 H6 k6 t6 l6 u6 okb lvb szb n2 er ewl => ?_⟩
            · show [V.ref t, V.int ((m : Int) / 4)] ++ [] = [V.ref t, V.int ((m / 4 : Nat) : Int)]
              rw [show (m : Int) / 4 = ((m / 4 : Nat) : Int) by omega]
              rfl
            refine ⟨r2, _, rfl, tupT er, rfl, _, _, rfl, _, _, rfl, rfl, ?_⟩
            dsimp only [List.set_cons_zero, List.set_cons_succ]
            refine ⟨_, rfl, t, 4, c6, rfl, t6, by omega, by decide, by decide, fun v7 c7 H7 k7 t7 l7 u7 a7 b7 => ⟨_, _, rfl, rfl, ?_⟩⟩
            obtain ⟨n7, rfl⟩ := Int.eq_ofNat_of_zero_le a7
            dsimp only [List.set_cons_zero, List.set_cons_succ]
            rw [show (2 : Int) + (n7 : Int) = ((2 + n7 : Nat) : Int) by omega]
            obtain ⟨A6, B6, et6, _⟩ := id t5'
            have w2t : wl2 ≠ t := Ne.symm (ne_of_none et6 n2)
            have ew7 := k7 _ _ wt (k6 _ _ wt ew5)
            have ei7 := k7 _ _ w2t ewl
            have k7' := k5'.trans (k6.trans k7)
            have hpl2 : (stS p).length = p.size := st_len p
            have hbl2 : (stS b).length = b.size := st_len b
            have zl : 100000 ≤ sizeLine := by decide
            by_cases hb0 : b = .nil
            · subst hb0
              refine ⟨_, rfl, rfl, false, rfl, iteF ?_⟩
              exact ⟨wl, p, c7, _, _, _, _, _, _, k7', t7, by omega, by omega, ok, lv, sz, hw, ew7, rfl⟩
            have bpos := size_pos okb hb0
            refine ⟨_, rfl, rfl, true, ?_, iteT ?_⟩
            · exact congrArg (fun b => V.bl (!b)) (decide_eq_false fun z => by injection z with z; have := congrArg Str.length z; rw [hbl2] at this; have e0 : ("" : Str).length = 0 := rfl; omega)
            refine ⟨_, rfl, _, rfl, by omega, _, rfl, _, rfl, _, rfl, by omega, _, _, rfl, rfl, .inl ⟨by omega, by omega⟩, _, _, rfl, rfl, _, rfl, _, _, rfl, rfl, _, rfl, ite2 (fun e => ?_) (fun e => ?_)⟩
            · have e2 := of_decide_eq_true e
              have szn : (p.app (.rp b (2 + n7) .nil)).size = p.size + b.size * (2 + n7) := by
                rw [← steps_len, app_steps, List.length_append, steps_len]
                show p.size + (Ps.rp b (2 + n7) .nil).steps.length = _
                rw [steps_len]
                rfl
              have fit : p.size + b.size * (2 + n7) ≤ G := by
                rw [hpl2, hbl2] at e2
                have e3 : (((2 + n7 : Nat)) : Int) * (b.size : Int) = ((b.size * (2 + n7) : Nat) : Int) := by rw [Nat.mul_comm]; exact (Int.natCast_mul ..).symm
                rw [e3] at e2
                omega
              refine ⟨_, rfl, _, rfl, _, rfl, _, _, rfl, rfl, mul_ok (by omega) (by omega) (by omega), _, _, rfl, rfl, ?_, ?_⟩
              · have h1 := st_len (p.app (.rp b (2 + n7) .nil))
                rw [← st_rp, strLen_append] at h1
                omega
              rw [st_rp]
              refine ⟨_, rfl, rfl, true, rfl, iteT ⟨_, rfl, _, _, rfl, rfl, true, congrArg V.bl (decide_eq_true (by omega)), iteT ?_⟩⟩
              have fp := few_len ok (by omega)
              have fb := few_len okb (by omega)
              refine ⟨_, rfl, by show 1 ≤ sizeLine; decide, fun a1 y1 => ?_⟩
              have z1 := same_new (o := .lst [.str "("]) y1
              refine ⟨_, _, _, _, rfl, rfl, z1 _ _ ew7, upd_same, Nat.le_trans (Nat.add_le_add_right fp 1) (by decide), fun a2 y2 => ?_⟩
              have z2 := same_new (o := .lst (wstrs p.words ++ [.str "("])) y2
              refine ⟨_, rfl, _, _, _, _, rfl, rfl, upd_same, z2 _ _ (z1 _ _ ei7), ?_, fun a3 y3 => ?_⟩
              · rw [List.length_append]
                show (wstrs p.words).length + 1 + _ ≤ _
                omega
              have z3 := same_new (o := .lst ((wstrs p.words ++ [.str "("]) ++ wstrs b.words)) y3
              refine ⟨_, rfl, _, rfl, log20 (by omega), _, _, rfl, rfl, ?_, by show 1 ≤ sizeLine; decide, fun a4 y4 => ?_⟩
              · have := num_len (n := 2 + n7) (by omega)
                have e1 : (")" : Str).length = 1 := rfl
                omega
              have z4 := same_new (o := .lst [.str ((")" : Str) ++ Str.ofString (toString (((2 + n7 : Nat)) : Int)))]) y4
              refine ⟨_, _, _, _, rfl, rfl, z4 _ _ upd_same, upd_same, ?_, fun a5 y5 => ?_⟩
              · rw [List.length_append, List.length_append]
                show (wstrs p.words).length + 1 + _ + 1 ≤ _
                omega
              have z5 := same_new (o := .lst (((wstrs p.words ++ [.str "("]) ++ wstrs b.words) ++ [.str ((")" : Str) ++ Str.ofString (toString (((2 + n7 : Nat)) : Int)))])) y5
              have t8 := (((t7.same z1).same z2).same z3).same z4
              obtain ⟨A8, B8, et8, _⟩ := id t8
              have k8 : Keep t H _ := k7'.trans ((Same.keep z1).trans ((Same.keep z2).trans ((Same.keep z3).trans (Same.keep z4))))
              have okn : (p.app (.rp b (2 + n7) .nil)).ok := app_ok ok ⟨hb0, okb, ⟨by omega, Nat.le_trans (show 2 + n7 ≤ 20 by omega) (by decide)⟩, trivial⟩
              have lvn : (p.app (.rp b (2 + n7) .nil)).lev ≤ d + 1 := by
                rw [app_lev]
                show max p.lev (max (1 + b.lev) 0) ≤ d + 1
                omega
              refine ⟨a5, p.app (.rp b (2 + n7) .nil), c7, _, _, _, _, _, _, k8.trans (Same.keep z5), t8.same z5, by omega, by omega, okn, lvn, by omega, Keep.freeJ k8 y5 (Ne.symm (ne_of_none et8 y5)), ?_, rfl⟩
              rw [upd_same, app_words]
              show some (HO.lst (((wstrs p.words ++ [.str "("]) ++ wstrs b.words) ++ [.str ((")" : Str) ++ Str.ofString (toString (((2 + n7 : Nat)) : Int)))])) = some (HO.lst (wstrs (p.words ++ (.op :: (b.words ++ [.cl (2 + n7)])))))
              rw [word_cl]
              unfold wstrs
              simp only [List.map_append, List.map_cons, List.map_nil, List.append_assoc, List.cons_append, List.nil_append]
              rfl
            · exact ⟨wl, p, c7, _, _, _, _, _, _, k7', t7, by omega, by omega, ok, lv, sz, hw, ew7, rfl⟩
          · refine ⟨_, rfl, rfl, true, rfl, iteT ⟨_, rfl, _, _, rfl, rfl, false, congrArg V.bl (decide_eq_false (by omega)), iteF ?_⟩⟩
            rw [show V.int 1 = V.int ((1 : Nat) : Int) from rfl]
            have clen : (⟨#[ch]⟩ : Str).length = 1 := rfl
            have hpl2 : (stS p).length = p.size := st_len p
            have zl : 100000 ≤ sizeLine := by decide
            refine ⟨_, rfl, rfl, true, ?_, iteT ?_⟩
            · exact congrArg (fun b => V.bl (!b)) (decide_eq_false fun z => by injection z with z; exact absurd (congrArg Str.length z) (by show ¬ (1 : Nat) = 0; decide))
            refine ⟨_, rfl, _, rfl, by omega, _, rfl, _, rfl, _, rfl, by omega, _, _, rfl, rfl, .inl ⟨by omega, by omega⟩, _, _, rfl, rfl, _, rfl, _, _, rfl, rfl, _, rfl, ite2 (fun e => ?_) (fun e => ?_)⟩
            · have e2 := of_decide_eq_true e
              have fit : p.size + 1 ≤ G := by
                rw [hpl2, clen] at e2
                omega
              refine ⟨_, rfl, _, rfl, _, rfl, _, _, rfl, rfl, mul_ok (by omega) (by omega) (by omega), _, _, rfl, rfl, ?_, ?_⟩
              · have h1 := st_len (p.app (.lf ch 1 .nil))
                rw [← st_lf, strLen_append] at h1
                have h2 : (p.app (.lf ch 1 .nil)).size = p.size + 1 := by rw [← steps_len, app_steps, List.length_append, steps_len]; simp [Ps.steps]
                omega
              rw [st_lf]
              refine ⟨_, rfl, rfl, true, rfl, iteT ⟨_, rfl, _, _, rfl, rfl, false, congrArg V.bl (decide_eq_false (by omega)), iteF ?_⟩⟩
              refine ⟨_, rfl, .inl ⟨rfl, _, lstL ew5⟩, _, rfl, _, rfl, _, rfl, ?_, _, rfl, _, _, rfl, rfl, .inr ⟨_, rfl, _, _, rfl, rfl, mul_ok ?_ ?_ ?_, _, _, rfl, rfl, ?_, ?_⟩⟩
              · exact log20 (by omega)
              · exact Nat.le_trans (num_len (by omega)) (by decide)
              · split <;> decide
              · split <;> decide
              · have h2 := congrArg Str.length (word_lf ch 1 (by omega))
                rw [strLen_append] at h2
                refine Nat.le_trans (Nat.le_of_eq h2) ?_
                rw [WM.len_tl]
                exact Nat.le_trans (cps_len (x := .lt ch 1) (lt_ok hch (by omega) (by omega))) (by decide)
              have wd := word_lf ch 1 (by omega)
              rw [show ((⟨#[ch]⟩ : Str) ++ Txt.mul (Str.ofString (toString (((1 : Nat)) : Int))) (if decide ((((1 : Nat)) : Int) < (((1 : Nat)) : Int)) = true then 1 else 0)) = (Wd.lt ch 1).str from wd]
              have fewp := words_few ok
              have wl1 : (wstrs p.words).length < sizeLine := by
                have e1 : (wstrs p.words).length = p.words.length := List.length_map ..
                rcases fewp with h | h
                · omega
                · rw [e1, h]
                  decide
              have okn : (p.app (.lf ch 1 .nil)).ok := app_ok ok ⟨lt_ok hch (by omega) (by omega), trivial⟩
              have szn : (p.app (.lf ch 1 .nil)).size = p.size + 1 := by rw [← steps_len, app_steps, List.length_append, steps_len]; simp [Ps.steps]
              have lvn : (p.app (.lf ch 1 .nil)).lev = p.lev := by
                rw [app_lev]
                exact Nat.max_zero _
              refine ⟨wl, wstrs p.words, .str (Wd.lt ch 1).str, rfl, rfl, ew5, wl1, wl, p.app (.lf ch 1 .nil), c5, _, _, _, _, _, _, fun b o hb h => ?_, ?_, by omega, by omega, okn, by omega, by omega, hw, ?_, rfl⟩
              · rw [upd_ne (ne_of_none h hw)]
                exact k5' b o hb h
              · obtain ⟨X1, X2, ex, hx⟩ := t5'
                exact ⟨X1, X2, (upd_ne (Ne.symm wt)).trans ex, hx⟩
              · rw [upd_same, app_words]
                show some (HO.lst (wstrs p.words ++ [V.str (Wd.lt ch 1).str])) = some (HO.lst (wstrs (p.words ++ [Wd.lt ch 1])))
                unfold wstrs
                rw [List.map_append]
                rfl
            · exact ⟨wl, p, c5, _, _, _, _, _, _, k5', t5', by omega, by omega, ok, lv, sz, hw, ew5, rfl⟩
        · refine ⟨_, rfl, rfl, false, congrArg V.bl (decide_eq_false fun z => by injection z with z; omega), iteF ?_⟩
          rw [show V.int 1 = V.int ((1 : Nat) : Int) from rfl]
          have clen : (⟨#[ch]⟩ : Str).length = 1 := rfl
          have hpl2 : (stS p).length = p.size := st_len p
          have zl : 100000 ≤ sizeLine := by decide
          refine ⟨_, rfl, rfl, true, ?_, iteT ?_⟩
          · exact congrArg (fun b => V.bl (!b)) (decide_eq_false fun z => by injection z with z; exact absurd (congrArg Str.length z) (by show ¬ (1 : Nat) = 0; decide))
          refine ⟨_, rfl, _, rfl, by omega, _, rfl, _, rfl, _, rfl, by omega, _, _, rfl, rfl, .inl ⟨by omega, by omega⟩, _, _, rfl, rfl, _, rfl, _, _, rfl, rfl, _, rfl, ite2 (fun e => ?_) (fun e => ?_)⟩
          · have e2 := of_decide_eq_true e
            have fit : p.size + 1 ≤ G := by
              rw [hpl2, clen] at e2
              omega
            refine ⟨_, rfl, _, rfl, _, rfl, _, _, rfl, rfl, mul_ok (by omega) (by omega) (by omega), _, _, rfl, rfl, ?_, ?_⟩
            · have h1 := st_len (p.app (.lf ch 1 .nil))
              rw [← st_lf, strLen_append] at h1
              have h2 : (p.app (.lf ch 1 .nil)).size = p.size + 1 := by rw [← steps_len, app_steps, List.length_append, steps_len]; simp [Ps.steps]
              omega
            rw [st_lf]
            refine ⟨_, rfl, rfl, false, congrArg V.bl (decide_eq_false fun z => by injection z with z; omega), iteF ?_⟩
            refine ⟨_, rfl, .inl ⟨rfl, _, lstL ew5⟩, _, rfl, _, rfl, _, rfl, ?_, _, rfl, _, _, rfl, rfl, .inr ⟨_, rfl, _, _, rfl, rfl, mul_ok ?_ ?_ ?_, _, _, rfl, rfl, ?_, ?_⟩⟩
            · exact log20 (by omega)
            · exact Nat.le_trans (num_len (by omega)) (by decide)
            · split <;> decide
            · split <;> decide
            · have h2 := congrArg Str.length (word_lf ch 1 (by omega))
              rw [strLen_append] at h2
              refine Nat.le_trans (Nat.le_of_eq h2) ?_
              rw [WM.len_tl]
              exact Nat.le_trans (cps_len (x := .lt ch 1) (lt_ok hch (by omega) (by omega))) (by decide)
            have wd := word_lf ch 1 (by omega)
            rw [show ((⟨#[ch]⟩ : Str) ++ Txt.mul (Str.ofString (toString (((1 : Nat)) : Int))) (if decide ((((1 : Nat)) : Int) < (((1 : Nat)) : Int)) = true then 1 else 0)) = (Wd.lt ch 1).str from wd]
            have fewp := words_few ok
            have wl1 : (wstrs p.words).length < sizeLine := by
              have e1 : (wstrs p.words).length = p.words.length := List.length_map ..
              rcases fewp with h | h
              · omega
              · rw [e1, h]
                decide
            have okn : (p.app (.lf ch 1 .nil)).ok := app_ok ok ⟨lt_ok hch (by omega) (by omega), trivial⟩
            have szn : (p.app (.lf ch 1 .nil)).size = p.size + 1 := by rw [← steps_len, app_steps, List.length_append, steps_len]; simp [Ps.steps]
            have lvn : (p.app (.lf ch 1 .nil)).lev = p.lev := by
              rw [app_lev]
              exact Nat.max_zero _
            refine ⟨wl, wstrs p.words, .str (Wd.lt ch 1).str, rfl, rfl, ew5, wl1, wl, p.app (.lf ch 1 .nil), c5, _, _, _, _, _, _, fun b o hb h => ?_, ?_, by omega, by omega, okn, by omega, by omega, hw, ?_, rfl⟩
            · rw [upd_ne (ne_of_none h hw)]
              exact k5' b o hb h
            · obtain ⟨X1, X2, ex, hx⟩ := t5'
              exact ⟨X1, X2, (upd_ne (Ne.symm wt)).trans ex, hx⟩
            · rw [upd_same, app_words]
              show some (HO.lst (wstrs p.words ++ [V.str (Wd.lt ch 1).str])) = some (HO.lst (wstrs (p.words ++ [Wd.lt ch 1])))
              unfold wstrs
              rw [List.map_append]
              rfl
          · exact ⟨wl, p, c5, _, _, _, _, _, _, k5', t5', by omega, by omega, ok, lv, sz, hw, ew5, rfl⟩
    · obtain ⟨wl, p, c', z7, z8, z9, z10, z11, z12, kH', tk', lc, uc, ok, lv, sz, hw, ew', rfl⟩ := hp
      refine ⟨_, rfl, _, rfl, by show 2 ≤ sizeLine; decide, fun r hr2 => ?_⟩
      have sr := same_new (o := .tup [.ref wl, .str (stS p)]) hr2
      refine q r wl p c' _ (kH'.trans (Same.keep sr)) (tk'.same sr) lc ?_ ok lv (Nat.le_trans sz hG) hw upd_same (sr _ _ ew')
      have h56 : ((6 : Int) + (m : Int) / 20).toNat ≤ 56 := by omega
      have : ((6 : Int) + (m : Int) / 20).toNat * (3 + 300 ^ d) ≤ 56 * (3 + 300 ^ d) := Nat.mul_le_mul_right _ h56
      have uc' : c' ≤ c + 3 + ((6 : Int) + (m : Int) / 20).toNat * (3 + 300 ^ d) := uc
      omega
end
end K15M

set_option Elab.async false
set_option linter.all false
set_option maxRecDepth 100000
set_option maxHeartbeats 4000000
namespace K15P
open PySem PySem.Spec PyProof.Rows L2 RT WM K15
section
variable {P : Program} {w : World} {K : PySem.W.Frag} {mg : Str → Option Value} {base : Heap}
theorem kit_ss {K : PySem.W.Frag} : PySem.W.kitOne K (.type "str") (.type "str") = some true := kit_ty (by decide +kernel)
def spLetter : Sp := fun vs H Q _ => ∃ x : Str, vs = [.str x] ∧ Q (.bl (sixB x)) H
theorem ok_letter (D : Ds K) (T : Tx K mg) : FnOk P w K mg base CX0 1 (dis_letter.adr K) D.fd_is_letter ["value"] spLetter := by
  refine D.F_is_letter.ok scis_letter (fun vs H Q E h => ?_) (fun cdv A outer s H vs Q E hr h => ?_)
  · obtain ⟨x, rfl, _⟩ := h
    rfl
  · obtain ⟨x, rfl, q⟩ := h
    refine ⟨_, PSs.nox (pss_one (ps_ret (pe_and (pe_callB call_isiY (by rfl) T.z_isinstance (by decide +kernel) (pa_cons (pv 0) (pa_cons (pe_bltn (v := .ty "str") (by rfl) T.z_str (by decide +kernel) rfl) pa_nil)))
      (pe_one (pe_cmpR op_in_seq (pv 0) (pe_glob (v := .ref (He.ga K "LETTERS")) rfl T.g_LETTERS rfl) (by rfl)))))), ?_⟩
    refine ⟨_, rfl, _, .ty "str", _, _, true, rfl, .ty "str", .base (.base (.str x)), kit_ss, true, rfl, iteT ?_⟩
    exact ⟨_, rfl, _, _, rfl, .inr (T.l_LETTERS H), rfl, rfl, q⟩
def spDec : Sp := fun vs H Q _ => ∃ n : Nat, vs = [.str (dgS n)] ∧ 2 ≤ n ∧ n ≤ T30 ∧ Q (.bl true) H
theorem dg_ne0 {n : Nat} (h : 2 ≤ n) : dgS n ≠ "0" := fun z => by
  have h1 := dg_no0 (n := n) (by omega)
  rw [z] at h1
  revert h1
  decide
theorem ok_dec (D : Ds K) (T : Tx K mg) : FnOk P w K mg base CX0 1 (dis_decimal.adr K) D.fd_is_decimal ["word"] spDec := by
  refine D.F_is_decimal.ok scis_decimal (fun vs H Q E h => ?_) (fun cdv A outer s H vs Q E hr h => ?_)
  · obtain ⟨n, rfl, _⟩ := h
    rfl
  · obtain ⟨n, rfl, h2, h30, q⟩ := h
    obtain ⟨tD, vD⟩ := T.v_MOST_DIGITS
    refine ⟨_, PSs.nox (pss_cons (ps_if (PW.pt (pw_or (pt_cmpR op_gt (pe_callB call_len_str (by rfl) T.z_len PySem.boot_len (pa_cons (pv 0) pa_nil)) (pe_glob (v := .int 31) rfl vD ⟨_, rfl⟩) (nomark _))
        (pw_or (pt_not (pt_val (pe_m0 PySem.F.slot_str_isascii PySem.F.type_str_isascii mt_isascii (pv 0)))) (pw_or1 (pt_not (pt_val (pe_m0 PySem.F.slot_str_isdigit PySem.F.type_str_isdigit mt_isdigit (pv 0))))))))
        (pss_one (ps_ret pe_bl)) pss_nil)
      (pss_one (ps_ret (pe_or (pe_cmpR op_eq (pv 0) pe_str (nomark _)) (pe_one (pe_not (pe_m1 PySem.F.slot_str_startswith PySem.F.type_str_startswith mt_startswith (pv 0) pe_str))))))), ?_⟩
    have hl := dg_len h30
    have h31 : ((dgS n).length : Int) ≤ 31 := by omega
    have hz : (dgS n).length ≤ sizeLine := Nat.le_trans hl (by decide)
    refine ⟨_, rfl, _, rfl, hz, _, _, rfl, rfl, _, rfl, ?_⟩
    rw [decide_eq_false (show ¬ ((dgS n).length : Int) > 31 by omega)]
    refine iteF ⟨_, rfl, ⟨_, rfl⟩, _, rfl, rfl, trivial, true, by rw [dg_ascii], iteF ⟨_, rfl, ⟨_, rfl⟩, _, rfl, rfl, trivial, true, by rw [dg_digit], iteF ?_⟩⟩
    refine ⟨_, rfl, rfl, false, congrArg V.bl (decide_eq_false fun z => by injection z with z; exact dg_ne0 h2 z), iteF ?_⟩
    refine ⟨_, rfl, ⟨_, rfl⟩, _, _, rfl, rfl, false, by rw [show Txt.startswith (dgS n) ("0" : Str) = false from dg_no0 (by omega)], q⟩
def spNumb : Sp := fun vs H Q _ => ∃ n : Nat, vs = [.str (dgS n)] ∧ 2 ≤ n ∧ n ≤ T30 ∧ Q (.bl true) H
theorem ok_numb (D : Ds K) (T : Tx K mg) : FnOk P w K mg base CX0 2 (d_is_number.adr K) D.fd__is_number ["digits"] spNumb := by
  have GD : FnOk P w K mg base CX0 1 _ _ _ spDec := ok_dec D T
  refine D.F__is_number.ok sc_is_number (fun vs H Q E h => ?_) (fun cdv A outer s H vs Q E hr h => ?_)
  · obtain ⟨n, rfl, _⟩ := h
    rfl
  · obtain ⟨n, rfl, h2, h30, q⟩ := h
    obtain ⟨tM, vM⟩ := T.v_MOST_TIMES
    refine ⟨_, PSs.nox (pss_one (ps_ret (pe_and (pe_call GD hr (by rfl) T.g_is_decimal D.F_is_decimal.kp (b_is_decimal D) .nil pass0 (pa_cons (pv 0) pa_nil))
        (pe_one (pe_chain op_le op_le pe_int (pe_callTy call_int_str (by rfl) T.z_int (by decide +kernel) (pa_cons (pv 0) pa_nil)) (pe_glob (v := .int 1000000000000000000000000000000) rfl vM ⟨_, rfl⟩)))))), ?_⟩
    have hl := dg_len h30
    have h30' : (n : Int) ≤ 1000000000000000000000000000000 := by
      have : n ≤ 1000000000000000000000000000000 := h30
      omega
    refine ⟨_, rfl, n, rfl, h2, h30, true, rfl, iteT ?_⟩
    refine ⟨_, rfl, _, _, rfl, dg_int h30, Nat.le_trans hl (by decide), _, _, rfl, rfl, true, by show V.bl (decide ((2 : Int) ≤ (n : Int))) = _; rw [decide_eq_true (show (2 : Int) ≤ (n : Int) by omega)], iteT ⟨_, _, rfl, rfl, ?_⟩⟩
    show Q (.bl (decide ((n : Int) ≤ 1000000000000000000000000000000))) H
    rw [decide_eq_true h30']
    exact q
def spCounted : Sp := fun vs H Q _ => ∃ x : Wd, vs = [.str x.str] ∧ x.ok ∧ x ≠ .op ∧ Q (.bl true) H
theorem ok_counted (D : Ds K) (T : Tx K mg) : FnOk P w K mg base CX0 3 (d_is_counted.adr K) D.fd__is_counted ["word"] spCounted := by
  have GL : FnOk P w K mg base CX0 1 _ _ _ spLetter := ok_letter D T
  have GN : FnOk P w K mg base CX0 2 _ _ _ spNumb := ok_numb D T
  refine D.F__is_counted.ok sc_is_counted (fun vs H Q E h => ?_) (fun cdv A outer s H vs Q E hr h => ?_)
  · obtain ⟨x, rfl, _⟩ := h
    rfl
  · obtain ⟨x, rfl, hx, hn, q⟩ := h
    have hz : x.str.length ≤ sizeLine := by
      rw [len_tl]
      exact Nat.le_trans (cps_len hx) (by decide)
    refine ⟨_, PSs.nox (pss_cons (ps_if (pt_val (pe_call GL (hr.mono (by decide)) (by rfl) T.g_is_letter D.F_is_letter.kp (b_is_letter D) .nil pass0 (pa_cons (pv 0) pa_nil))) (pss_one (ps_ret pe_bl)) pss_nil)
      (pss_one (ps_ret (pe_and (pe_or (pe_call GL (hr.mono (by decide)) (by rfl) T.g_is_letter D.F_is_letter.kp (b_is_letter D) .nil pass0 (pa_cons (pe_slice sl_str (pv 0) po_none (po_some pe_int)) pa_nil)) (pe_one (pe_m1 PySem.F.slot_str_startswith PySem.F.type_str_startswith mt_startswith (pv 0) pe_str)))
        (pe_one (pe_call GN hr (by rfl) T.g__is_number D.F__is_number.kp (b__is_number D) .nil pass0 (pa_cons (pe_slice sl_str (pv 0) (po_some pe_int) po_none) pa_nil))))))), ?_⟩
    refine ⟨_, rfl, _, rfl, _, rfl, ?_⟩
    cases x with
    | op => exact absurd rfl hn
    | cl n =>
      rw [six_cl]
      refine iteF ⟨_, rfl, 1, rfl, _, rfl, hz, _, rfl, ?_⟩
      rw [(cl_cut n).1, six_41]
      refine ⟨false, rfl, iteF ⟨_, rfl, ⟨_, rfl⟩, _, _, rfl, rfl, true, by rw [show Txt.startswith (Wd.cl n).str (")" : Str) = true from cl_starts n], iteT ?_⟩⟩
      exact ⟨_, rfl, 1, rfl, _, rfl, hz, n, by rw [(cl_cut n).2]; rfl, hx.1, hx.2, q⟩
    | lt c n =>
      by_cases h1 : n = 1
      · subst h1
        rw [show sixB (Wd.lt c 1).str = true from six_one hx.1]
        exact iteT q
      · rw [six_lt c h1]
        refine iteF ⟨_, rfl, 1, rfl, _, rfl, hz, _, rfl, ?_⟩
        rw [(lt_cut c h1).1, six_one hx.1]
        refine ⟨true, rfl, iteT ?_⟩
        refine ⟨true, rfl, iteT ?_⟩
        exact ⟨_, rfl, 1, rfl, _, rfl, hz, n, by rw [(lt_cut c h1).2]; rfl, by have := hx.2.1; omega, hx.2.2, q⟩
end
end K15P

set_option Elab.async false
set_option linter.all false
set_option maxRecDepth 100000
set_option maxHeartbeats 4000000
namespace K15P
open PySem PySem.Spec PyProof.Rows L2 RT WM K15 TL
theorem same_new {H : Hp} {p : Addr} {o : HO} (h : H p = none) : Same H (upd H p o) := fun b x e => by
  rw [upd_ne (ne_of_none e h)]
  exact e
theorem Same.sql {K : PySem.W.Frag} {H H' : Hp} {a : Addr} {xs : List V} (e : Same H H') (h : SqL K H a xs) : SqL K H' a xs := by
  rcases h with (h | ⟨o, h⟩) | h
  · exact .inl (.inl (e _ _ h))
  · exact .inl (.inr ⟨o, e _ _ h⟩)
  · exact .inr h
theorem Same.sqt {K : PySem.W.Frag} {H H' : Hp} {a : Addr} {xs : List V} (e : Same H H') (h : SqT K H a xs) : SqT K H' a xs := by
  rcases h with (h | ⟨o, h⟩) | h
  · exact .inl (.inl (e _ _ h))
  · exact .inl (.inr ⟨o, e _ _ h⟩)
  · exact .inr h
theorem tupT {K : PySem.W.Frag} {H : Hp} {a : Addr} {xs : List V} (h : H a = some (.tup xs)) : SqT K H a xs := .inl (.inl h)
theorem lstL {K : PySem.W.Frag} {H : Hp} {a : Addr} {xs : List V} (h : H a = some (.lst xs)) : SqL K H a xs := .inl (.inl h)
section
variable {P : Program} {w : World} {K : PySem.W.Frag} {mg : Str → Option Value} {base : Heap}
def spWords : Sp := fun vs H Q _ => ∃ ws, vs = [.str (textOf ws)] ∧ OkW ws ∧ ∀ r H', Same H H' → H r = none → H' r = some (.lst (wstrs ws)) → Q (.ref r) H'
theorem ok_words (D : Ds K) (T : Tx K mg) : FnOk P w K mg base CX0 1 (dwords_of.adr K) D.fd_words_of ["text"] spWords := by
  refine D.F_words_of.ok scwords_of (fun vs H Q E h => ?_) (fun cdv A outer s H vs Q E hr h => ?_)
  · obtain ⟨x, rfl, _⟩ := h
    rfl
  · obtain ⟨ws, rfl, ok, q⟩ := h
    refine ⟨_, PSs.nox (pss_cons (ps_if (pt_cmpR op_eq (pv 0) pe_str (nomark _)) (pss_one (ps_ret (pe_lst pa_nil))) pss_nil)
      (pss_one (ps_ret (pe_split (pv 0) pe_str)))), ?_⟩
    have hl := text_len ok
    by_cases hn : ws = []
    · subst hn
      refine ⟨_, rfl, rfl, true, rfl, iteT ⟨by show 0 ≤ sizeLine; decide, fun l hl => q l _ (same_new hl) hl upd_same⟩⟩
    · refine ⟨_, rfl, rfl, false, by rw [decide_eq_false]; intro z; injection z with z; exact text_ne hn z, iteF ?_⟩
      refine ⟨_, rfl, ⟨_, rfl⟩, _, _, rfl, rfl, rfl, Nat.le_trans (Nat.add_le_add_right hl 2) (by decide), fun l hl => ?_⟩
      refine q l _ (same_new hl) hl ?_
      rw [upd_same, split_text ok hn, List.map_map]
      rfl
def numOf : Wd → Nat
  | .op => 1
  | .cl n => n
  | .lt _ n => n
def spNumOf : Sp := fun vs H Q _ => ∃ x : Wd, vs = [.str x.str] ∧ x.ok ∧ Q (.int (numOf x : Int)) H
theorem ok_numof (D : Ds K) (T : Tx K mg) : FnOk P w K mg base CX0 1 (dnumber_of.adr K) D.fd_number_of ["word"] spNumOf := by
  refine D.F_number_of.ok scnumber_of (fun vs H Q E h => ?_) (fun cdv A outer s H vs Q E hr h => ?_)
  · obtain ⟨x, rfl, _⟩ := h
    rfl
  · obtain ⟨x, rfl, hx, q⟩ := h
    have hz : x.str.length ≤ sizeLine := by
      rw [WM.len_tl]
      exact Nat.le_trans (cps_len hx) (by decide)
    refine ⟨_, PSs.nox (pss_cons (ps_if (pt_cmpR op_eq (pe_callB call_len_str (by rfl) T.z_len PySem.boot_len (pa_cons (pv 0) pa_nil)) pe_int (nomark _)) (pss_one (ps_ret pe_int)) pss_nil)
      (pss_one (ps_ret (pe_callTy call_int_str (by rfl) T.z_int (by decide +kernel) (pa_cons (pe_slice sl_str (pv 0) (po_some pe_int) po_none) pa_nil))))), ?_⟩
    refine ⟨_, rfl, _, rfl, hz, rfl, ?_⟩
    have big : ∀ n : Nat, (numL n).length ≠ 0 := fun n z => numL_ne n (List.length_eq_zero_iff.mp z)
    cases x with
    | op => exact ⟨true, rfl, iteT q⟩
    | cl n =>
      refine ⟨false, ?_, iteF ⟨_, rfl, 1, rfl, _, rfl, hz, _, n, rfl, ?_, ?_, q⟩⟩
      · rw [decide_eq_false]
        intro z
        injection z with z
        have z : (((numL n).length + 1 : Nat) : Int) = 1 := z
        have := big n
        omega
      · rw [(cl_cut n).2]
        exact dg_int hx.2
      · rw [(cl_cut n).2]
        exact Nat.le_trans (dg_len hx.2) (by decide)
    | lt c n =>
      by_cases h1 : n = 1
      · subst h1
        exact ⟨true, rfl, iteT q⟩
      · refine ⟨false, ?_, iteF ⟨_, rfl, 1, rfl, _, rfl, hz, _, n, rfl, ?_, ?_, q⟩⟩
        · rw [decide_eq_false]
          intro z
          injection z with z
          have e : (Wd.lt c n).str = ⟨(c :: numL n).toArray⟩ := by
            show (⟨(if n = 1 then [c] else c :: numL n).toArray⟩ : Str) = _
            rw [if_neg h1]
          rw [e] at z
          have z : (((numL n).length + 1 : Nat) : Int) = 1 := z
          have := big n
          omega
        · rw [(lt_cut c h1).2]
          exact dg_int hx.2.2
        · rw [(lt_cut c h1).2]
          exact Nat.le_trans (dg_len hx.2.2) (by decide)
def spWrong (K : PySem.W.Frag) : Sp := fun vs H Q _ => ∃ a b ws, vs = [.ref a, .ref b] ∧ SqL K H a (wstrs ws) ∧ SqT K H b [] ∧ OkW ws ∧ ∀ H', Same H H' → Q .non H'
theorem ok_wrong (D : Ds K) (T : Tx K mg) : FnOk P w K mg base CX0 4 (dwrong_word.adr K) D.fd_wrong_word ["words", "names"] (spWrong K) := by
  have GC : FnOk P w K mg base CX0 3 _ _ _ spCounted := ok_counted D T
  refine D.F_wrong_word.ok scwrong_word (fun vs H Q E h => ?_) (fun cdv A outer s H vs Q E hr h => ?_)
  · obtain ⟨a, b, ws, rfl, _⟩ := h
    rfl
  · obtain ⟨a, b, ws, rfl, ha, hb, ok, q⟩ := h
    have nd := scwrong_word.nd
    obtain ⟨tD, vD⟩ := T.v_MOST_DEPTH
    obtain ⟨tW, vW⟩ := T.v_MOST_WORDS
    refine ⟨_, PSs.nox (pss_cons (ps_set (i := 2) nd rfl (.inl rfl) pe_int)
      (pss_cons (ps_for PassesOwn.never rfl (pi_enum (by rfl) T.z_enumerate (pa_cons (pv 0) pa_nil)) (pg_tup (by rfl) (pgs_cons (pg_name (i := 3) nd rfl (.inl rfl)) (pgs_cons (pg_name (i := 4) nd rfl (.inl rfl)) pgs_nil)))
        (pss_cons (ps_set (i := 5) nd rfl (.inl rfl) (pe_cmpR op_eq (pv 4) pe_str (nomark _)))
        (pss_cons (ps_set (i := 6) nd rfl (.inl rfl) (pe_m1 PySem.F.slot_str_startswith PySem.F.type_str_startswith mt_startswith (pv 4) pe_str))
        (pss_cons (ps_if (pt_not (PW.pt (pw_or (pt_val (pv 5)) (pw_or (pt_cmpR op_in_seq (pv 4) (pv 1) (by rfl)) (pw_or1 (pt_val (pe_call GC hr (by rfl) T.g__is_counted D.F__is_counted.kp (b__is_counted D) .nil pass0 (pa_cons (pv 4) pa_nil)))))))) (pss_one (ps_ret (pv 3))) pss_nil)
        (pss_cons (ps_if (PW.pt (pw_and (pt_val (pv 6)) (pw_and1 (PW.pt (pw_or (pt_cmpR op_eq (pv 2) pe_int (nomark _)) (pw_or1 (pt_cmpR op_eq (pe_ix ix_list (pv 0) (pe_op op_sub (pv 3) pe_int) (fun _ _ => rfl)) pe_str (nomark _)))))))) (pss_one (ps_ret (pv 3))) pss_nil)
        (pss_cons (ps_set (i := 2) nd rfl (.inl rfl) (pe_op op_sub (pe_op op_add (pv 2) (pe_callTy call_int1 (by rfl) T.z_int (by decide +kernel) (pa_cons (pv 5) pa_nil))) (pe_callTy call_int1 (by rfl) T.z_int (by decide +kernel) (pa_cons (pv 6) pa_nil))))
        (pss_cons (ps_set (i := 7) nd rfl (.inl rfl) (pe_op op_add (pv 2) (pe_callTy call_int1 (by rfl) T.z_int (by decide +kernel) (pa_cons (pv 5) pa_nil))))
        (pss_one (ps_if (PW.pt (pw_or (pt_cmpR op_gt (pv 2) (pe_glob (v := .int 12) rfl vD ⟨_, rfl⟩) (nomark _)) (pw_or1 (pt_cmpR op_gt (pe_op op_add (pe_op op_add (pv 3) pe_int) (pv 7)) (pe_glob (v := .int 1000) rfl vW ⟨_, rfl⟩) (nomark _))))) (pss_one (ps_ret (pv 3))) pss_nil)))))))))
      (pss_cons (ps_if (pt_cmpR op_gt (pv 2) pe_int (nomark _)) (pss_one (ps_ret (pe_callB call_len_seq (by rfl) T.z_len PySem.boot_len (pa_cons (pv 0) pa_nil)))) pss_nil)
      (pss_one (ps_ret pe_non))))), ?_⟩
    have len : (wstrs ws).length = ws.length := List.length_map ..
    refine ⟨_, rfl, a, _, rfl, ha, ?_⟩
    refine for_enum (xs := wstrs ws) (fun i σ H' => ∃ z3 z4 z5 z6 z7, Same H H' ∧ σ = [some (.ref a), some (.ref b), some (.int (dep ws i)), z3, z4, z5, z6, z7]) ⟨none, none, none, none, none, fun _ _ e => e, rfl⟩
      (fun i σ H' hi hp => by obtain ⟨_, _, _, _, _, sm, _⟩ := hp; exact Same.sql sm ha) (fun i x σ H1 Tp hx hp hT => ?_) fun σ H' hp => ?_
    · obtain ⟨z3, z4, z5, z6, z7, sm, rfl⟩ := hp
      obtain ⟨y, hy, rfl⟩ : ∃ y, ws[i]? = some y ∧ x = .str y.str := by
        unfold wstrs at hx
        rw [List.getElem?_map] at hx
        cases e : ws[i]? with
        | none => rw [e] at hx; cases hx
        | some y =>
          rw [e] at hx
          injection hx with hx
          exact ⟨y, rfl, hx.symm⟩
      have hyo := ok.ok y (List.mem_of_getElem? hy)
      have sm1 := sm.trans (same_new (o := .tup [.int (i : Nat), .str y.str]) hT)
      have il : i < ws.length := (List.getElem?_eq_some_iff.mp hy).1
      refine ⟨Tp, _, rfl, tupT upd_same, rfl, _, _, rfl, _, _, rfl, rfl, ?_⟩
      have ho : decide (V.str y.str = V.str "(") = isOp y := by
        have e := is_op y hyo
        cases y with
        | op => exact decide_eq_true rfl
        | cl n => exact decide_eq_false fun z => by injection z with z; cases e.mp z
        | lt c n => exact decide_eq_false fun z => by injection z with z; cases e.mp z
      have hc : Txt.startswith y.str (")" : Str) = isCl y := by
        cases y with
        | op => exact op_starts
        | cl n => exact cl_starts n
        | lt c n => exact lt_starts hyo.1
      refine ⟨_, rfl, rfl, ?_⟩
      rw [ho]
      refine ⟨_, rfl, ⟨_, rfl⟩, _, _, rfl, rfl, ?_⟩
      rw [hc]
      dsimp only [List.set_cons_zero, List.set_cons_succ]
      have hd := dep_succ hy
      have hup := ok.up (i + 1) il
      have hne := ok.need i y hy
      have b1 : b2 (isOp y) = if isOp y = true then 1 else 0 := rfl
      have b2' : b2 (isCl y) = if isCl y = true then 1 else 0 := rfl
      cases y with
      | op =>
        refine ⟨_, rfl, true, rfl, iteT (iteF ?_)⟩
        refine ⟨_, rfl, false, rfl, iteF ?_⟩
        refine ⟨_, rfl, _, rfl, .inr ⟨_, rfl, _, _, rfl, rfl, _, rfl, .inr ⟨_, rfl, _, _, rfl, rfl, ?_⟩⟩⟩
        dsimp only [List.set_cons_zero, List.set_cons_succ]
        rw [← b1, ← b2', ← hd]
        refine ⟨_, rfl, _, rfl, .inr ⟨_, rfl, _, _, rfl, rfl, ?_⟩⟩
        dsimp only [List.set_cons_zero, List.set_cons_succ]
        rw [← b1]
        refine ⟨_, rfl, _, _, rfl, rfl, false, ?_, iteF ⟨_, rfl, _, _, rfl, rfl, _, rfl, _, _, rfl, rfl, _, _, rfl, rfl, false, ?_, iteF ⟨_, _, _, _, _, sm1, rfl⟩⟩⟩
        · exact congrArg V.bl (decide_eq_false (by omega))
        · exact congrArg V.bl (decide_eq_false (by omega))
      | cl n =>
        refine ⟨_, rfl, false, rfl, iteF ⟨_, rfl, _, rfl, b, _, rfl, .inr (Same.sqt sm1 hb), rfl, rfl, false, rfl, iteF ⟨_, rfl, _, rfl, hyo, nofun, true, rfl, iteF ?_⟩⟩⟩
        obtain ⟨hd0, hpre⟩ := ok.cl i n hy
        have i0 : i ≠ 0 := by
          intro z
          rw [z] at hd0
          exact absurd hd0 (by show ¬ (0 : Int) < 0; decide)
        obtain ⟨j, rfl⟩ : ∃ j, i = j + 1 := ⟨i - 1, by omega⟩
        obtain ⟨u, hu⟩ : ∃ u, ws[j]? = some u := ⟨_, List.getElem?_eq_getElem (by omega)⟩
        have hun : u ≠ .op := fun z => hpre j rfl (by rw [hu, z])
        have huo := ok.ok u (List.mem_of_getElem? hu)
        have gx : (wstrs ws)[j]? = some (.str u.str) := by
          unfold wstrs
          rw [List.getElem?_map, hu]
          rfl
        refine ⟨_, rfl, true, rfl, iteT ⟨_, rfl, rfl, false, ?_, iteF ⟨_, rfl, _, rfl, _, _, rfl, rfl, a, _, _, .str u.str, rfl, rfl, Same.sql sm1 ha, ?_, rfl, false, ?_, iteF ?_⟩⟩⟩
        · exact congrArg V.bl (decide_eq_false fun z => by injection z with z; omega)
        · show atI (wstrs ws) (((j + 1 : Nat) : Int) - 1) = _
          rw [show ((j + 1 : Nat) : Int) - 1 = (j : Int) by omega]
          exact atI_nat gx
        · exact congrArg V.bl (decide_eq_false fun z => by injection z with z; exact hun ((is_op u huo).mp z))
        refine ⟨_, rfl, _, rfl, .inr ⟨_, rfl, _, _, rfl, rfl, _, rfl, .inr ⟨_, rfl, _, _, rfl, rfl, ?_⟩⟩⟩
        dsimp only [List.set_cons_zero, List.set_cons_succ]
        rw [← b1, ← b2', ← hd]
        refine ⟨_, rfl, _, rfl, .inr ⟨_, rfl, _, _, rfl, rfl, ?_⟩⟩
        dsimp only [List.set_cons_zero, List.set_cons_succ]
        rw [← b1]
        refine ⟨_, rfl, _, _, rfl, rfl, false, ?_, iteF ⟨_, rfl, _, _, rfl, rfl, _, rfl, _, _, rfl, rfl, _, _, rfl, rfl, false, ?_, iteF ⟨_, _, _, _, _, sm1, rfl⟩⟩⟩
        · exact congrArg V.bl (decide_eq_false (by omega))
        · exact congrArg V.bl (decide_eq_false (by omega))
      | lt c n =>
        refine ⟨_, rfl, false, rfl, iteF ⟨_, rfl, _, rfl, b, _, rfl, .inr (Same.sqt sm1 hb), rfl, rfl, false, rfl, iteF ⟨_, rfl, _, rfl, hyo, nofun, true, rfl, iteF ?_⟩⟩⟩
        refine ⟨_, rfl, false, rfl, iteF ?_⟩
        refine ⟨_, rfl, _, rfl, .inr ⟨_, rfl, _, _, rfl, rfl, _, rfl, .inr ⟨_, rfl, _, _, rfl, rfl, ?_⟩⟩⟩
        dsimp only [List.set_cons_zero, List.set_cons_succ]
        rw [← b1, ← b2', ← hd]
        refine ⟨_, rfl, _, rfl, .inr ⟨_, rfl, _, _, rfl, rfl, ?_⟩⟩
        dsimp only [List.set_cons_zero, List.set_cons_succ]
        rw [← b1]
        refine ⟨_, rfl, _, _, rfl, rfl, false, ?_, iteF ⟨_, rfl, _, _, rfl, rfl, _, rfl, _, _, rfl, rfl, _, _, rfl, rfl, false, ?_, iteF ⟨_, _, _, _, _, sm1, rfl⟩⟩⟩
        · exact congrArg V.bl (decide_eq_false (by omega))
        · exact congrArg V.bl (decide_eq_false (by omega))
    · obtain ⟨z3, z4, z5, z6, z7, sm, rfl⟩ := hp
      have h0 : dep ws (wstrs ws).length = 0 := by rw [len]; exact ok.shut
      refine ⟨_, rfl, _, _, rfl, rfl, false, ?_, iteF (q H' sm)⟩
      show V.bl (decide (dep ws (wstrs ws).length > 0)) = _
      rw [h0]
      rfl
end
end K15P

set_option Elab.async false
set_option linter.all false
set_option maxRecDepth 100000
set_option maxHeartbeats 4000000
namespace K15P
open PySem PySem.Spec PyProof.Rows L2 RT WM K15 TL
abbrev NSz : List Str := Nsize_of ++ [("part" : Str)]
theorem scSz : FnScope NSz ["parts"] (defScope ssize_of) := ⟨rfl, rfl, rfl, by decide +kernel, rfl, by decide +kernel, by decide +kernel⟩
abbrev NLv : List Str := Nlevels_of ++ [("part" : Str)]
theorem scLv : FnScope NLv ["parts"] (defScope slevels_of) := ⟨rfl, rfl, rfl, by decide +kernel, rfl, by decide +kernel, by decide +kernel⟩
section
variable {P : Program} {w : World} {K : PySem.W.Frag} {mg : Str → Option Value} {base : Heap}
def spSize (K : PySem.W.Frag) : Sp := fun vs H Q _ => ∃ a us p, vs = [.ref a] ∧ SqT K H a us ∧ PartsAt (He.ga K "Part") H us p ∧ p.sizes.length ≤ 1000 ∧ ∀ H', Same H H' → Q (.int (p.size : Int)) H'
theorem ok_size (D : Ds K) (T : Tx K mg) : FnOk P w K mg base CX0 1 (dsize_of.adr K) D.fd_size_of ["parts"] (spSize K) := by
  refine D.F_size_of.ok scSz (fun vs H Q E h => ?_) (fun cdv A outer s H vs Q E hr h => ?_)
  · obtain ⟨a, us, p, rfl, _⟩ := h
    rfl
  · obtain ⟨a, us, p, rfl, ha, hp, hl, q⟩ := h
    have nd := scSz.nd
    refine ⟨_, PSs.nox (pss_one (ps_ret (pe_callB (cr_sum rfl) (by rfl) T.z_sum (by decide +kernel) (pa_cons (pe_lc (own := [(("part" : Str), 1)]) (g := gName 1) (tt := tYes) (te := tFld K (tVar 1) "size") rfl nd (pi_tup (pv 0)) (blkOk_by (own := [(("part" : Str), 1)]) (N := NSz) (sc := defScope ssize_of) (by decide +kernel))
      (fun _ _ _ _ _ => pg_name (i := 1) nd rfl (Or.inl rfl)) (fun _ _ _ _ _ => pts_nil) (fun _ _ _ _ _ => pe_fld (pv 1) rfl)) pa_nil)))), ?_⟩
    refine ⟨_, rfl, a, rfl, ⟨_, ha⟩, fun Dd hD => ?_⟩
    have s0 := same_new (o := .lst []) hD
    have lz : p.sizes.length ≤ sizeLine := Nat.le_trans hl (by decide)
    refine lc_tup (K := K) (a := a) (xs := us) (fun i H' => Same H H' ∧ H' Dd = some (.lst ((p.sizes.take i).map V.int))) ⟨s0, upd_same⟩ (fun i H' hi hp' => Same.sqt hp'.1 ha) (fun i x H' hx hp' => ?_) fun H' hp' => ?_
    · obtain ⟨sm, eD⟩ := hp'
      obtain ⟨b, d, fs, z, l, rfl, eb, ez, gz, _, _⟩ := hp.get i x hx
      refine ⟨rfl, _, rfl, b, _, d, fs, .int z, rfl, sm _ _ eb, T.c_Part, T.n_Part_size, ez, _, eD, ?_, ?_, ?_⟩
      · rw [List.length_map, List.length_take]
        have : i < p.sizes.length := (List.getElem?_eq_some_iff.mp gz).1
        omega
      · intro b' o' e'
        have := sm _ _ e'
        rw [upd_ne (ne_of_none e' hD)]
        exact this
      · rw [upd_same, List.take_succ, gz, List.map_append]
        rfl
    · obtain ⟨sm, eD⟩ := hp'
      have e : us.length = p.sizes.length := hp.len
      rw [e, List.take_length] at eD
      refine ⟨Dd, p.sizes, rfl, lstL eD, ?_⟩
      rw [sizes_sum]
      exact q _ sm
def spLevs (K : PySem.W.Frag) : Sp := fun vs H Q _ => ∃ a us p, vs = [.ref a] ∧ SqT K H a us ∧ PartsAt (He.ga K "Part") H us p ∧ p.sizes.length ≤ 1000 ∧ ∀ H', Same H H' → Q (.int (p.lev : Int)) H'
theorem ok_levs (D : Ds K) (T : Tx K mg) : FnOk P w K mg base CX0 1 (dlevels_of.adr K) D.fd_levels_of ["parts"] (spLevs K) := by
  refine D.F_levels_of.ok scLv (fun vs H Q E h => ?_) (fun cdv A outer s H vs Q E hr h => ?_)
  · obtain ⟨a, us, p, rfl, _⟩ := h
    rfl
  · obtain ⟨a, us, p, rfl, ha, hp, hl, q⟩ := h
    have nd := scLv.nd
    refine ⟨_, PSs.nox (pss_one (ps_ret (pe_callBK (crk_maxD rfl hr.units) (by rfl) T.z_max (by decide +kernel) (pa_cons (pe_lc (own := [(("part" : Str), 1)]) (g := gName 1) (tt := tYes) (te := tFld K (tVar 1) "levels") rfl nd (pi_tup (pv 0)) (blkOk_by (own := [(("part" : Str), 1)]) (N := NLv) (sc := defScope slevels_of) (by decide +kernel))
      (fun _ _ _ _ _ => pg_name (i := 1) nd rfl (Or.inl rfl)) (fun _ _ _ _ _ => pts_nil) (fun _ _ _ _ _ => pe_fld (pv 1) rfl)) pa_nil) (pk_cons pe_int pk_nil)))), ?_⟩
    refine ⟨_, rfl, a, rfl, ⟨_, ha⟩, fun Dd hD => ?_⟩
    have s0 := same_new (o := .lst []) hD
    have lz : p.sizes.length ≤ sizeLine := Nat.le_trans hl (by decide)
    refine lc_tup (K := K) (a := a) (xs := us) (fun i H' => Same H H' ∧ H' Dd = some (.lst ((p.levs.take i).map V.int))) ⟨s0, upd_same⟩ (fun i H' hi hp' => Same.sqt hp'.1 ha) (fun i x H' hx hp' => ?_) fun H' hp' => ?_
    · obtain ⟨sm, eD⟩ := hp'
      obtain ⟨b, d, fs, z, l, rfl, eb, _, _, ez, gz⟩ := hp.get i x hx
      refine ⟨rfl, _, rfl, b, _, d, fs, .int l, rfl, sm _ _ eb, T.c_Part, T.n_Part_levels, ez, _, eD, ?_, ?_, ?_⟩
      · rw [List.length_map, List.length_take]
        have : i < p.levs.length := (List.getElem?_eq_some_iff.mp gz).1
        rw [sizes_len] at lz
        omega
      · intro b' o' e'
        have := sm _ _ e'
        rw [upd_ne (ne_of_none e' hD)]
        exact this
      · rw [upd_same, List.take_succ, gz, List.map_append]
        rfl
    · obtain ⟨sm, eD⟩ := hp'
      have e : us.length = p.levs.length := hp.len.trans (sizes_len p)
      rw [e, List.take_length] at eD
      refine ⟨Dd, p.levs, 0, rfl, rfl, lstL eD, ?_⟩
      rw [levs_max]
      exact q _ sm
end
end K15P

set_option Elab.async false
set_option linter.all false
set_option maxRecDepth 100000
set_option maxHeartbeats 4000000
set_option exponentiation.threshold 3000
namespace K15P
open PySem PySem.Spec PyProof.Rows L2 RT WM K15 TL
def unitOf : Ps → Nat
  | .nil => 1
  | p => p.size
def levOf : Ps → Nat
  | .nil => 0
  | p => 1 + p.lev
theorem partsKeep {C a d : Addr} {H H' : Hp} {us : List V} {p : Ps} (h : PartsAt C H us p) (ea : H a = some (.ins C d [])) (k : ∀ b o, b ≠ a → H b = some o → H' b = some o) : PartsAt C H' us p := by
  induction h with
  | nil => exact .nil
  | lf h1 h2 _ ih =>
    refine .lf (k _ _ (fun z => ?_) h1) (k _ _ (fun z => ?_) h2) ih
    · rw [z, ea] at h1; cases h1
    · rw [z, ea] at h2; cases h2
  | rp h1 h2 _ _ ih1 ih2 =>
    refine .rp (k _ _ (fun z => ?_) h1) (k _ _ (fun z => ?_) h2) ih1 ih2
    · rw [z, ea] at h1; cases h1
    · rw [z, ea] at h2; cases h2
theorem isE_false {us : List V} {C : Addr} {H : Hp} {p : Ps} (h : PartsAt C H us p) : (!us.isEmpty) = (match p with | .nil => false | _ => true) := by
  cases h <;> rfl
section
variable {P : Program} {w : World} {K : PySem.W.Frag} {mg : Str → Option Value} {base : Heap}
def spPart (K : PySem.W.Frag) : Sp := fun vs H Q _ => ∃ (a d e : Addr) (l : Str) (n : Nat) (us : List V) (b : Ps), vs = [.ref a, .str l, .int (n : Int), .ref e] ∧ n ≤ T30 ∧ H a = some (.ins (He.ga K "Part") d []) ∧ H e = some (.tup us) ∧ PartsAt (He.ga K "Part") H us b ∧ b.sizes.length ≤ 1000 ∧ b.size < 2 ^ 2000 ∧
  ∀ H', (∀ x o, x ≠ a → H x = some o → H' x = some o) → H' a = some (.ins (He.ga K "Part") d [("letter", .str l), ("times", .int (n : Int)), ("inner", .ref e), ("unit", .int (unitOf b : Int)), ("size", .int ((unitOf b * n : Nat) : Int)), ("levels", .int (levOf b : Int))]) → Q .non H'
theorem ok_part (D : Ds K) (T : Tx K mg) : FnOk P w K mg base CX0 2 (dPart_init.adr K) D.fd_Part_init ["self", "letter", "times", "inner"] (spPart K) := by
  have GS : FnOk P w K mg base CX0 1 _ _ _ (spSize K) := ok_size D T
  have GL : FnOk P w K mg base CX0 1 _ _ _ (spLevs K) := ok_levs D T
  refine D.F_Part_init.ok scPart_init (fun vs H Q E h => ?_) (fun cdv A outer s H vs Q E hr h => ?_)
  · obtain ⟨a, d, e, l, n, us, b, rfl, _⟩ := h
    rfl
  · obtain ⟨a, d, e, l, n, us, b, rfl, hn, ea, ee, hp, hl, hs, q⟩ := h
    refine ⟨_, PSs.nox (pss_cons (ps_fld (pv 0) (pv 1) rfl) (pss_cons (ps_fld (pv 0) (pv 2) rfl) (pss_cons (ps_fld (pv 0) (pv 3) rfl)
      (pss_cons (ps_fld (pv 0) (pe_ifExp (pt_truth (pv 3) (by intro _; rfl)) (pe_call GS hr (by rfl) T.g_size_of D.F_size_of.kp (b_size_of D) .nil pass0 (pa_cons (pv 3) pa_nil)) pe_int) rfl)
      (pss_cons (ps_fld (pv 0) (pe_op op_mulW (pe_fld (pv 0) rfl) (pv 2)) rfl)
      (pss_one (ps_fld (pv 0) (pe_ifExp (pt_truth (pv 3) (by intro _; rfl)) (pe_op op_add pe_int (pe_call GL hr (by rfl) T.g_levels_of D.F_levels_of.kp (b_levels_of D) .nil pass0 (pa_cons (pv 3) pa_nil))) pe_int) rfl))))))), ?_⟩
    have nea : e ≠ a := fun z => by
      rw [z, ea] at ee
      cases ee
    refine ⟨_, rfl, _, rfl, a, _, d, _, rfl, ea, T.c_Part, T.n_Part_letter, by show 0 < 1000; decide, ?_⟩
    refine ⟨_, rfl, _, rfl, a, _, d, _, rfl, upd_same, T.c_Part, T.n_Part_times, by show 1 < 1000; decide, ?_⟩
    refine ⟨_, rfl, _, rfl, a, _, d, _, rfl, upd_same, T.c_Part, T.n_Part_inner, by show 2 < 1000; decide, ?_⟩
    have k3 : ∀ x o, x ≠ a → H x = some o → (upd (upd (upd H a (.ins (He.ga K "Part") d [("letter", .str l)])) a (.ins (He.ga K "Part") d [("letter", .str l), ("times", .int (n : Int))])) a (.ins (He.ga K "Part") d [("letter", .str l), ("times", .int (n : Int)), ("inner", .ref e)])) x = some o := fun x o hx h => by
      rw [upd_ne hx, upd_ne hx, upd_ne hx]
      exact h
    have a3 : (upd (upd (upd H a (.ins (He.ga K "Part") d [("letter", .str l)])) a (.ins (He.ga K "Part") d [("letter", .str l), ("times", .int (n : Int))])) a (.ins (He.ga K "Part") d [("letter", .str l), ("times", .int (n : Int)), ("inner", .ref e)])) a = some (.ins (He.ga K "Part") d [("letter", .str l), ("times", .int (n : Int)), ("inner", .ref e)]) := upd_same
    have p3 := partsKeep hp ea k3
    have e3 := k3 e _ nea ee
    have n100 : ((n : Int)).natAbs < 2 ^ 101 := by
      have t : T30 ≤ 2 ^ 100 := by decide
      have t2 : (2 : Nat) ^ 100 < 2 ^ 101 := by decide
      omega
    have isE := isE_false p3
    by_cases hb : b = .nil
    · subst hb
      have ie : (!us.isEmpty) = false := isE
      refine ⟨_, rfl, false, .inr (.inl ⟨us, tupT e3, ie.symm⟩), iteF ⟨_, rfl, a, _, d, _, rfl, upd_same, T.c_Part, T.n_Part_unit, by show 3 < 1000; decide, ?_⟩⟩
      refine ⟨_, rfl, a, _, d, _, .int 1, rfl, upd_same, T.c_Part, T.n_Part_unit, rfl, _, rfl, _, _, rfl, rfl, wide_mul (a := 10) (b := 101) (by decide) n100 (by decide) (by decide) (by decide), _, rfl, a, _, d, _, rfl, upd_same, T.c_Part, T.n_Part_size, by show 4 < 1000; decide, ?_⟩
      have e5 : ∀ o4 o5, upd (upd (upd (upd (upd H a (.ins (He.ga K "Part") d [("letter", .str l)])) a (.ins (He.ga K "Part") d [("letter", .str l), ("times", .int (n : Int))])) a (.ins (He.ga K "Part") d [("letter", .str l), ("times", .int (n : Int)), ("inner", .ref e)])) a o4) a o5 e = some (.tup us) := fun o4 o5 => by
        rw [upd_ne nea, upd_ne nea]
        exact e3
      refine ⟨_, rfl, false, .inr (.inl ⟨us, tupT (e5 _ _), ie.symm⟩), iteF ⟨_, rfl, a, _, d, _, rfl, upd_same, T.c_Part, T.n_Part_levels, by show 5 < 1000; decide, ?_⟩⟩
      refine q _ (fun x o hx h => ?_) ?_
      · rw [upd_ne hx, upd_ne hx, upd_ne hx]
        exact k3 x o hx h
      · rw [upd_same]
        show some (HO.ins _ d [_, _, _, _, ("size", .int (1 * (n : Int))), _]) = some (HO.ins _ d [_, _, _, _, ("size", .int ((1 * n : Nat) : Int)), _])
        rw [Int.one_mul, Nat.one_mul]
        rfl
    · have ie : (!us.isEmpty) = true := by
        rw [isE]
        cases b with
        | nil => exact absurd rfl hb
        | lf c m r => rfl
        | rp b m r => rfl
      have hu : unitOf b = b.size := by
        cases b with
        | nil => exact absurd rfl hb
        | lf c m r => rfl
        | rp b m r => rfl
      have hv : levOf b = 1 + b.lev := by
        cases b with
        | nil => exact absurd rfl hb
        | lf c m r => rfl
        | rp b m r => rfl
      refine ⟨_, rfl, true, .inr (.inl ⟨us, tupT e3, ie.symm⟩), iteT ⟨_, rfl, e, us, b, rfl, tupT e3, p3, hl, fun H4 s4 => ?_⟩⟩
      have a4 := s4 _ _ a3
      refine ⟨_, rfl, a, _, d, _, rfl, a4, T.c_Part, T.n_Part_unit, by show 3 < 1000; decide, ?_⟩
      refine ⟨_, rfl, a, _, d, _, .int (b.size : Int), rfl, upd_same, T.c_Part, T.n_Part_unit, rfl, _, rfl, _, _, rfl, rfl, wide_mul (a := 2000) (b := 101) (by omega) n100 (by decide) (by decide) (by decide), _, rfl, a, _, d, _, rfl, upd_same, T.c_Part, T.n_Part_size, by show 4 < 1000; decide, ?_⟩
      have k5 : ∀ o4 o5 x o, x ≠ a → H x = some o → upd (upd H4 a o4) a o5 x = some o := fun o4 o5 x o hx h => by
        rw [upd_ne hx, upd_ne hx]
        exact s4 _ _ (k3 x o hx h)
      refine ⟨_, rfl, true, .inr (.inl ⟨us, tupT (k5 _ _ e _ nea ee), ie.symm⟩), iteT ⟨_, rfl, e, us, b, rfl, tupT (k5 _ _ e _ nea ee), partsKeep hp ea (k5 _ _), hl, fun H6 s6 => ?_⟩⟩
      refine ⟨_, _, rfl, rfl, _, rfl, a, _, d, _, rfl, s6 _ _ upd_same, T.c_Part, T.n_Part_levels, by show 5 < 1000; decide, ?_⟩
      refine q _ (fun x o hx h => ?_) ?_
      · rw [upd_ne hx]
        exact s6 _ _ (k5 _ _ x o hx h)
      · rw [upd_same, hu, hv]
        show some (HO.ins _ d [_, _, _, _, ("size", .int ((b.size : Int) * (n : Int))), ("levels", .int (1 + (b.lev : Int)))]) = some (HO.ins _ d [_, _, _, _, ("size", .int ((b.size * n : Nat) : Int)), ("levels", .int ((1 + b.lev : Nat) : Int))])
        rw [Int.natCast_mul, Int.natCast_add]
        rfl
end
end K15P

set_option Elab.async false
set_option linter.all false
set_option maxRecDepth 100000
set_option maxHeartbeats 4000000
set_option exponentiation.threshold 3000
namespace K15P
open PySem PySem.Spec PyProof.Rows L2 RT WM K15 TL
theorem getAt {A B t : List Wd} {y : Wd} (h : B = y :: t) : (wstrs (A ++ B))[A.length]? = some (.str y.str) := by
  subst h
  unfold wstrs
  rw [List.getElem?_map, List.getElem?_append_right (Nat.le_refl _), Nat.sub_self]
  rfl
theorem lt_head (c n : Nat) : ((Wd.lt c n).str.cps.toList)[0]? = some c := by
  show (if n = 1 then [c] else c :: numL n)[0]? = some c
  split <;> rfl
theorem partsUpd {C l : Addr} {H : Hp} {us ys : List V} {o : HO} {p : Ps} (h : PartsAt C H us p) (el : H l = some (.lst ys)) : PartsAt C (upd H l o) us p := by
  have k : ∀ b u, (∀ zs, u ≠ .lst zs) → H b = some u → upd H l o b = some u := fun b u hu h => by
    rw [upd_ne]
    · exact h
    · intro z
      rw [z, el] at h
      exact hu ys (Option.some.inj h).symm
  induction h with
  | nil => exact .nil
  | lf h1 h2 _ ih => exact .lf (k _ _ (fun _ => nofun) h1) (k _ _ (fun _ => nofun) h2) ih
  | rp h1 h2 _ _ ih1 ih2 => exact .rp (k _ _ (fun _ => nofun) h1) (k _ _ (fun _ => nofun) h2) ih1 ih2
theorem app_ok {p q : Ps} (hp : p.ok) (hq : q.ok) : (p.app q).ok := by
  induction p with
  | nil => exact hq
  | lf c n r ih => exact ⟨hp.1, ih hp.2⟩
  | rp b n r _ ih => exact ⟨hp.1, hp.2.1, hp.2.2.1, ih hp.2.2.2⟩
theorem app_lev (p q : Ps) : (p.app q).lev = max p.lev q.lev := by
  induction p with
  | nil => exact (Nat.zero_max _).symm
  | lf c n r ih => exact ih
  | rp b n r _ ih =>
    show max (1 + b.lev) (r.app q).lev = max (max (1 + b.lev) r.lev) q.lev
    rw [ih, Nat.max_assoc]
theorem size_bd {p : Ps} (h : p.ok) (hl : p.lev ≤ 12) (hw : p.words.length ≤ 1000) : p.size < 2 ^ 2000 := by
  have h1 := size_le p h
  have h2 : (2 : Nat) ^ (100 * (p.lev + 1)) ≤ 2 ^ 1300 := Nat.pow_le_pow_right (by decide) (by omega)
  have h3 : p.words.length * 2 ^ (100 * (p.lev + 1)) ≤ 1000 * 2 ^ 1300 := Nat.mul_le_mul hw h2
  have h4 : 1000 * (2 : Nat) ^ 1300 < 2 ^ 2000 := by decide +kernel
  omega
section
variable {P : Program} {w : World} {K : PySem.W.Frag} {mg : Str → Option Value} {base : Heap}
def spPF (K : PySem.W.Frag) (d : Nat) : Sp := fun vs H Q _ => ∃ (a : Addr) (pre rest : List Wd) (p : Ps), vs = [.ref a, .int (pre.length : Int)] ∧ SqT K H a (wstrs (pre ++ p.words ++ rest)) ∧ p.ok ∧ p.lev < d ∧ p.lev ≤ 12 ∧ (pre ++ p.words ++ rest).length ≤ 1000 ∧ (∀ x ∈ rest.head?, ∃ n, x = .cl n ∧ x.ok) ∧
  ∀ r t us H', Same H H' → H' r = some (.tup [.ref t, .int ((pre.length + p.words.length : Nat) : Int)]) → H' t = some (.tup us) → PartsAt (He.ga K "Part") H' us p → Q (.ref r) H'
theorem ok_pf (D : Ds K) (T : Tx K mg) : ∀ d, FnOk P w K mg base CX0 (4 + d) (d_parts_from.adr K) D.fd__parts_from ["words", "start"] (spPF K d) := by
  have GN : FnOk P w K mg base CX0 1 _ _ _ spNumOf := ok_numof D T
  have GP : FnOk P w K mg base CX0 2 _ _ _ (spPart K) := ok_part D T
  intro d
  induction d with
  | zero =>
    refine D.F__parts_from.ok sc_parts_from (fun vs H Q E h => ?_) (fun cdv A outer s H vs Q E hr h => ?_)
    · obtain ⟨a, pre, rest, p, rfl, _⟩ := h
      rfl
    · obtain ⟨a, pre, rest, p, rfl, ha, hp, hd, _⟩ := h
      exact absurd hd (Nat.not_lt_zero _)
  | succ d ih =>
  refine D.F__parts_from.ok sc_parts_from (fun vs H Q E h => ?_) (fun cdv A outer s H vs Q E hr h => ?_)
  · obtain ⟨a, pre, rest, p, rfl, _⟩ := h
    rfl
  · obtain ⟨a, pre, rest, p, rfl, ha, hp, hd, hd12, hlen, hrest, q⟩ := h
    have nd := sc_parts_from.nd
    have hr' : Room (4 + d) _ := hr
    refine ⟨_, PSs.nox (pss_cons (ps_set (i := 2) nd rfl (.inl rfl) (pe_lst pa_nil))
      (pss_cons (ps_set (i := 3) nd rfl (.inl rfl) (pv 1))
      (pss_cons (ps_while PassesOwn.never (PW.pt (pw_and (pt_cmpR op_lt (pv 3) (pe_callB call_len_seq (by rfl) T.z_len PySem.boot_len (pa_cons (pv 0) pa_nil)) (nomark _))
            (pw_and1 (pt_not (pt_val (pe_m1 PySem.F.slot_str_startswith PySem.F.type_str_startswith mt_startswith (pe_ix ix_tup (pv 0) (pv 3) (fun _ _ => rfl)) pe_str))))))
        (pss_cons (ps_if (pt_cmpR op_eq (pe_ix ix_tup (pv 0) (pv 3) (fun _ _ => rfl)) pe_str (nomark _))
            (pss_cons (ps_asg (pe_call ih (hr'.mono (by omega)) (by rfl) T.g__parts_from D.F__parts_from.kp (b__parts_from D) .nil pass0 (pa_cons (pv 0) (pa_cons (pe_op op_add (pv 3) pe_int) pa_nil))) (pg_tup (by rfl) (pgs_cons (pg_name (i := 4) nd rfl (.inl rfl)) (pgs_cons (pg_name (i := 3) nd rfl (.inl rfl)) pgs_nil))))
              (pss_one (ps_expr (pe_bm PySem.F.plainAttrs_list PySem.F.slot_list_append PySem.F.type_list_append mt_append (pv 2) (pa_cons (pe_make T.k_Part GP (hr'.mono (by omega)) (by rfl) T.g_Part (b_Part_init D) .nil pass0 (pa_cons pe_str (pa_cons (pe_call GN (hr'.mono (by omega)) (by rfl) T.g_number_of D.F_number_of.kp (b_number_of D) .nil pass0 (pa_cons (pe_ix ix_tup (pv 0) (pv 3) (fun _ _ => rfl)) pa_nil)) (pa_cons (pv 4) pa_nil)))) pa_nil)))))
            (pss_one (ps_expr (pe_bm PySem.F.plainAttrs_list PySem.F.slot_list_append PySem.F.type_list_append mt_append (pv 2) (pa_cons (pe_make T.k_Part GP (hr'.mono (by omega)) (by rfl) T.g_Part (b_Part_init D) .nil pass0 (pa_cons (pe_ix ix_str (pe_ix ix_tup (pv 0) (pv 3) (fun _ _ => rfl)) pe_int (fun _ _ => rfl)) (pa_cons (pe_call GN (hr'.mono (by omega)) (by rfl) T.g_number_of D.F_number_of.kp (b_number_of D) .nil pass0 (pa_cons (pe_ix ix_tup (pv 0) (pv 3) (fun _ _ => rfl)) pa_nil)) (pa_cons (pe_tup pa_nil) pa_nil)))) pa_nil)))))
          (pss_one (ps_set (i := 3) nd rfl (.inl rfl) (pe_op op_add (pv 3) pe_int)))))
      (pss_one (ps_ret (pe_tup (pa_cons (pe_callTy call_tuple_of (by rfl) T.z_tuple (by decide +kernel) (pa_cons (pv 2) pa_nil)) (pa_cons (pv 3) pa_nil)))))))), ?_⟩
    refine ⟨by show 0 ≤ sizeLine; decide, fun l hl => ⟨_, rfl, ?_⟩⟩
    have sl := same_new (o := .lst []) hl
    refine ⟨fun m σ H' => ∃ p1 p2 us z4, p = p1.app p2 ∧ p1.ok ∧ p2.ok ∧ m = p2.words.length ∧ Same H H' ∧ H' l = some (.lst us) ∧ PartsAt (He.ga K "Part") H' us p1 ∧ σ = [some (.ref a), some (.int (pre.length : Int)), some (.ref l), some (.int (((pre ++ p1.words).length : Nat) : Int)), z4],
      ⟨_, .nil, p, [], none, rfl, trivial, hp, rfl, sl, upd_same, .nil, by rw [show pre ++ Ps.words .nil = pre from List.append_nil _]; rfl⟩, fun m σ H' h => ?_⟩
    obtain ⟨p1, p2, us, z4, rfl, ok1, ok2, rfl, sm, el, hP, rfl⟩ := h
    have full : pre ++ (p1.app p2).words ++ rest = (pre ++ p1.words) ++ (p2.words ++ rest) := by
      rw [app_words]
      simp only [List.append_assoc]
    rw [full] at ha hlen
    have ha' := Same.sqt sm ha
    have l1000 : (wstrs ((pre ++ p1.words) ++ (p2.words ++ rest))).length = (pre ++ p1.words).length + (p2.words ++ rest).length := by
      unfold wstrs
      rw [List.length_map, List.length_append]
    have exit : ∀ z, p2 = .nil → (tRet (tTup (tCons (tCB (fun xs H Q => ∃ p ys, xs = [.ref p] ∧ ((SqL K H p ys ∧ ∀ l, H l = none → Q (.ref l) (upd H l (.tup ys))) ∨ (SqT K H p ys ∧ Q (.ref p) H))) (tCons (tVar 2) tNil)) (tCons (tVar 3) tNil)))) { nx := fun x H' => Q V.non H', rt := Q } [some (.ref a), some (.int (pre.length : Int)), some (.ref l), some (.int (((pre ++ p1.words).length : Nat) : Int)), z] H' := by
      intro z e
      subst e
      refine ⟨_, rfl, l, us, rfl, .inl ⟨lstL el, fun t ht => ⟨_, rfl, by show 2 ≤ sizeLine; decide, fun r hr2 => ?_⟩⟩⟩
      have st := same_new (o := .tup us) ht
      have sr := same_new (o := .tup [.ref t, .int (((pre ++ p1.words).length : Nat) : Int)]) hr2
      rw [app_nil] at q
      refine q r t us _ (sm.trans (st.trans sr)) ?_ (sr _ _ upd_same) (hP.same (st.trans sr))
      rw [upd_same, List.length_append]
    cases p2 with
    | nil =>
      cases rest with
      | nil =>
        refine ⟨_, rfl, _, rfl, a, _, rfl, .inr ha', _, _, rfl, rfl, false, ?_, iteF (iteF (exit _ rfl))⟩
        rw [l1000]
        exact congrArg V.bl (decide_eq_false (by simp [Ps.words]))
      | cons x rest =>
        obtain ⟨n, rfl, hx⟩ := hrest x rfl
        have g := getAt (A := pre ++ p1.words) (B := Ps.words .nil ++ .cl n :: rest) rfl
        refine ⟨_, rfl, _, rfl, a, _, rfl, .inr ha', _, _, rfl, rfl, true, ?_, iteT ⟨_, rfl, _, rfl, a, _, _, .str (Wd.cl n).str, rfl, rfl, ha', atI_nat g, ⟨_, rfl⟩, _, _, rfl, rfl, true, ?_, iteF (exit _ rfl)⟩⟩
        · rw [l1000]
          exact congrArg V.bl (decide_eq_true (by simp [Ps.words]; omega))
        · exact congrArg V.bl (cl_starts n)
    | lf c n r =>
      have g := getAt (A := pre ++ p1.words) (B := Ps.words (.lf c n r) ++ rest) rfl
      have hyo : (Wd.lt c n).ok := ok2.1
      have hz : (Wd.lt c n).str.length ≤ sizeLine := by
        rw [WM.len_tl]
        exact Nat.le_trans (cps_len hyo) (by decide)
      refine ⟨_, rfl, _, rfl, a, _, rfl, .inr ha', _, _, rfl, rfl, true, ?_, iteT ⟨_, rfl, _, rfl, a, _, _, .str (Wd.lt c n).str, rfl, rfl, ha', atI_nat g, ⟨_, rfl⟩, _, _, rfl, rfl, false, ?_, ?_⟩⟩
      · rw [l1000]
        exact congrArg V.bl (decide_eq_true (by simp [Ps.words]; omega))
      · exact congrArg V.bl (lt_starts hyo.1)
      refine ⟨_, fun σ' H'' h => ⟨r.words.length, by show r.words.length < r.words.length + 1; omega, h⟩, ?_⟩
      refine ⟨_, rfl, _, rfl, a, _, _, .str (Wd.lt c n).str, rfl, rfl, ha', atI_nat g, rfl, false, ?_, iteF ?_⟩
      · exact congrArg V.bl (decide_eq_false fun z => by injection z with z; cases (is_op _ hyo).mp z)
      refine ⟨_, rfl, .inl ⟨rfl, _, lstL el⟩, ?_⟩
      refine ⟨_, rfl, _, rfl, a, _, _, .str (Wd.lt c n).str, rfl, rfl, ha', atI_nat g, (Wd.lt c n).str, _, c, rfl, rfl, hz, ?_, ?_⟩
      · exact atI_nat (j := 0) (lt_head c n)
      refine ⟨_, rfl, _, rfl, a, _, _, .str (Wd.lt c n).str, rfl, rfl, ha', atI_nat g, Wd.lt c n, rfl, hyo, by show 0 ≤ sizeLine; decide, fun e0 he0 x dx nx ndx hne => ?_⟩
      have s0 := same_new (o := .tup []) he0
      have ex : e0 ≠ x := ne_of_none upd_same nx
      have ed : e0 ≠ dx := ne_of_none upd_same ndx
      refine ⟨x, dx, e0, ⟨#[c]⟩, n, [], .nil, rfl, hyo.2.2, upd_same, (upd_ne ex).trans ((upd_ne ed).trans upd_same), .nil, by decide, by decide, fun H3 k3 a3 => ⟨rfl, ?_⟩⟩
      have up : Same H' H3 := fun b o h => k3 b o (ne_of_none (s0 b o h) nx) (by
        rw [upd_ne (ne_of_none (s0 b o h) nx), upd_ne (ne_of_none (s0 b o h) ndx)]
        exact s0 b o h)
      have e3 : H3 e0 = some (.tup []) := k3 e0 _ ex ((upd_ne ex).trans ((upd_ne ed).trans upd_same))
      have hP3 : PartsAt (He.ga K "Part") H3 (us ++ [.ref x]) (p1.app (.lf c n .nil)) := (hP.same up).app (.lf (by
        rw [a3]
        show some (HO.ins _ dx [_, _, _, _, ("size", .int ((1 * n : Nat) : Int)), _]) = some (HO.ins _ dx [_, _, _, _, ("size", .int (n : Int)), _])
        rw [Nat.one_mul]
        rfl) e3 .nil)
      have lus : us.length < 1000 := by
        have h1 := hP.len
        have h2 := sizes_le p1
        simp only [List.length_append, Ps.words, List.length_cons] at hlen
        omega
      refine ⟨l, us, .ref x, rfl, rfl, up _ _ el, Nat.lt_of_lt_of_le lus (by decide), ?_⟩
      have el3 := up _ _ el
      refine ⟨_, rfl, _, _, rfl, rfl, p1.app (.lf c n .nil), r, us ++ [.ref x], z4, by rw [app_assoc]; rfl, app_ok ok1 ⟨ok2.1, trivial⟩, ok2.2, rfl, fun b o h => ?_, upd_same, partsUpd hP3 el3, ?_⟩
      · rw [upd_ne (ne_of_none h hl)]
        exact up _ _ (sm _ _ h)
      · rw [app_words]
        show [_, _, _, some (V.int (((pre ++ p1.words).length : Int) + 1)), z4] = [_, _, _, some (V.int (((pre ++ (p1.words ++ [Wd.lt c n])).length : Nat) : Int)), z4]
        rw [show (((pre ++ (p1.words ++ [Wd.lt c n])).length : Nat) : Int) = (((pre ++ p1.words).length : Nat) : Int) + 1 by simp only [List.length_append, List.length_cons, List.length_nil]; omega]
    | rp b n r =>
      have g := getAt (A := pre ++ p1.words) (B := Ps.words (.rp b n r) ++ rest) rfl
      obtain ⟨hbn, hb, hn, hr2⟩ := ok2
      refine ⟨_, rfl, _, rfl, a, _, rfl, .inr ha', _, _, rfl, rfl, true, ?_, iteT ⟨_, rfl, _, rfl, a, _, _, .str Wd.op.str, rfl, rfl, ha', atI_nat g, ⟨_, rfl⟩, _, _, rfl, rfl, false, ?_, ?_⟩⟩
      · rw [l1000]
        exact congrArg V.bl (decide_eq_true (by simp [Ps.words]; omega))
      · exact congrArg V.bl op_starts
      refine ⟨_, fun σ' H'' h => ⟨r.words.length, ?_, h⟩, ?_⟩
      · simp only [Ps.words, List.length_cons, List.length_append]
        omega
      refine ⟨_, rfl, _, rfl, a, _, _, .str Wd.op.str, rfl, rfl, ha', atI_nat g, rfl, true, ?_, iteT ?_⟩
      · exact congrArg V.bl (decide_eq_true rfl)
      have full2 : (pre ++ p1.words) ++ (Ps.words (.rp b n r) ++ rest) = (pre ++ p1.words ++ [.op]) ++ b.words ++ (.cl n :: (r.words ++ rest)) := by
        simp only [Ps.words, List.append_assoc, List.cons_append, List.nil_append]
      have lv : 1 + b.lev ≤ (p1.app (.rp b n r)).lev := by
        rw [app_lev]
        show 1 + b.lev ≤ max p1.lev (max (1 + b.lev) r.lev)
        omega
      rw [full2] at ha' hlen
      refine ⟨_, rfl, _, rfl, _, _, rfl, rfl, a, pre ++ p1.words ++ [.op], .cl n :: (r.words ++ rest), b, ?_, ha', hb, by omega, by omega, hlen, fun x hx => ⟨n, (Option.some.inj hx).symm, by cases hx; exact hn⟩, fun r1 t1 us1 H1 s1 er et pt => ?_⟩
      · show [V.ref a, V.int (((pre ++ p1.words).length : Int) + 1)] ++ [] = [V.ref a, V.int (((pre ++ p1.words ++ [Wd.op]).length : Nat) : Int)]
        rw [show (((pre ++ p1.words ++ [Wd.op]).length : Nat) : Int) = (((pre ++ p1.words).length : Nat) : Int) + 1 by simp only [List.length_append, List.length_cons, List.length_nil]; omega]
        rfl
      have g2 := getAt (A := (pre ++ p1.words ++ [.op]) ++ b.words) (B := .cl n :: (r.words ++ rest)) rfl
      rw [List.length_append] at g2
      refine ⟨r1, _, rfl, tupT er, rfl, _, _, rfl, _, _, rfl, rfl, ?_⟩
      dsimp only [List.set_cons_zero, List.set_cons_succ]
      have ha1 := Same.sqt s1 ha'
      refine ⟨_, rfl, .inl ⟨rfl, _, lstL (s1 _ _ el)⟩, ?_⟩
      refine ⟨_, rfl, _, rfl, a, _, _, .str (Wd.cl n).str, rfl, rfl, ha1, atI_nat g2, Wd.cl n, rfl, hn, _, rfl, fun x dx nx ndx hne => ?_⟩
      have tx : t1 ≠ x := ne_of_none et nx
      have td : t1 ≠ dx := ne_of_none et ndx
      have up1 : ∀ o1 o2, Same H1 (upd (upd H1 dx o1) x o2) := fun o1 o2 b o h => by
        rw [upd_ne (ne_of_none h nx), upd_ne (ne_of_none h ndx)]
        exact h
      have bw : b.words.length ≤ 1000 := by
        simp only [List.length_append] at hlen
        omega
      have bs := sizes_le b
      refine ⟨x, dx, t1, "", n, us1, b, rfl, hn.2, upd_same, up1 _ _ _ _ et, pt.same (up1 _ _), by omega, size_bd hb (by omega) bw, fun H3 k3 a3 => ⟨rfl, ?_⟩⟩
      have up : Same H' H3 := fun b' o h => k3 b' o (ne_of_none (s1 _ _ h) nx) (up1 _ _ _ _ (s1 _ _ h))
      have up2 : Same H1 H3 := fun b' o h => k3 b' o (ne_of_none h nx) (up1 _ _ _ _ h)
      have hu : unitOf b = b.size := by
        cases b with
        | nil => exact absurd rfl hbn
        | lf c m r => rfl
        | rp b m r => rfl
      have hv : levOf b = 1 + b.lev := by
        cases b with
        | nil => exact absurd rfl hbn
        | lf c m r => rfl
        | rp b m r => rfl
      rw [hu, hv] at a3
      have hP3 : PartsAt (He.ga K "Part") H3 (us ++ [.ref x]) (p1.app (.rp b n .nil)) := (hP.same up).app (.rp a3 (up2 _ _ et) (pt.same up2) .nil)
      have lus : us.length < 1000 := by
        have h1 := hP.len
        have h2 := sizes_le p1
        simp only [List.length_append, List.length_cons, List.length_nil] at hlen
        omega
      have el3 := up _ _ el
      refine ⟨l, us, .ref x, rfl, rfl, el3, Nat.lt_of_lt_of_le lus (by decide), ?_⟩
      refine ⟨_, rfl, _, _, rfl, rfl, p1.app (.rp b n .nil), r, us ++ [.ref x], some (.ref t1), by rw [app_assoc]; rfl, app_ok ok1 ⟨hbn, hb, hn, trivial⟩, hr2, rfl, fun b' o h => ?_, upd_same, partsUpd hP3 el3, ?_⟩
      · rw [upd_ne (ne_of_none h hl)]
        exact up _ _ (sm _ _ h)
      · rw [app_words]
        show [_, _, _, some (V.int ((((pre ++ p1.words ++ [Wd.op]).length + b.words.length : Nat) : Int) + 1)), some (V.ref t1)] = [_, _, _, some (V.int (((pre ++ (p1.words ++ (Wd.op :: (b.words ++ [Wd.cl n])))).length : Nat) : Int)), some (V.ref t1)]
        rw [show (((pre ++ (p1.words ++ (Wd.op :: (b.words ++ [Wd.cl n])))).length : Nat) : Int) = ((((pre ++ p1.words ++ [Wd.op]).length + b.words.length : Nat) : Int) + 1) by simp only [List.length_append, List.length_cons, List.length_nil]; omega]
end
end K15P

set_option Elab.async false
set_option linter.all false
set_option maxRecDepth 100000
set_option maxHeartbeats 4000000
namespace K15P
open PySem PySem.Spec PyProof.Rows L2 RT WM K15 TL
/-- a Program at a -/
def IsP (K : PySem.W.Frag) (H : Hp) (a : Addr) (p : Ps) : Prop := p.ok ∧ p.lev ≤ 12 ∧ p.words.length ≤ 1000 ∧ ∃ d w t us, H a = some (.ins (He.ga K "Program") d [("_text", .str (textOf p.words)), ("_words", .ref w), ("_parts", .ref t), ("_length", .int (p.size : Int)), ("_depth", .int (p.lev : Int))]) ∧
  H w = some (.tup (wstrs p.words)) ∧ H t = some (.tup us) ∧ PartsAt (He.ga K "Part") H us p
theorem IsP.same {K : PySem.W.Frag} {H H' : Hp} {a : Addr} {p : Ps} (h : IsP K H a p) (s : Same H H') : IsP K H' a p := by
  obtain ⟨h1, h2, h3, d, w, t, us, e1, e2, e3, e4⟩ := h
  exact ⟨h1, h2, h3, d, w, t, us, s _ _ e1, s _ _ e2, s _ _ e3, e4.same s⟩
theorem partsUpdA {C C' a d : Addr} {H : Hp} {us : List V} {p : Ps} {o : HO} {v : V} {fs : List (Str × V)} (h : PartsAt C H us p) (ea : H a = some (.ins C' d (("_text", v) :: fs))) : PartsAt C (upd H a o) us p := by
  have n1 : ∀ {b d' : Addr} {u : V} {gs : List (Str × V)}, H b = some (.ins C d' (("letter", u) :: gs)) → b ≠ a := fun h z => by
    rw [z, ea] at h
    injection h with h
    injection h with _ _ h
    injection h with h _
    injection h with h _
    exact absurd h (by decide)
  have n2 : ∀ {b : Addr} {us : List V}, H b = some (.tup us) → b ≠ a := fun h z => by
    rw [z, ea] at h
    cases h
  induction h with
  | nil => exact .nil
  | lf h1 h2 _ ih => exact .lf ((upd_ne (n1 h1)).trans h1) ((upd_ne (n2 h2)).trans h2) ih
  | rp h1 h2 _ _ ih1 ih2 => exact .rp ((upd_ne (n1 h1)).trans h1) ((upd_ne (n2 h2)).trans h2) ih1 ih2
section
variable {P : Program} {w : World} {K : PySem.W.Frag} {mg : Str → Option Value} {base : Heap}
def spParts (K : PySem.W.Frag) : Sp := fun vs H Q _ => ∃ (a : Addr) (p : Ps), vs = [.ref a] ∧ SqT K H a (wstrs p.words) ∧ p.ok ∧ p.lev ≤ 12 ∧ p.words.length ≤ 1000 ∧ ∀ t us H', Same H H' → H' t = some (.tup us) → PartsAt (He.ga K "Part") H' us p → Q (.ref t) H'
theorem ok_parts (D : Ds K) (T : Tx K mg) : FnOk P w K mg base CX0 18 (dparts_of_words.adr K) D.fd_parts_of_words ["words"] (spParts K) := by
  have G : FnOk P w K mg base CX0 (4 + 13) _ _ _ (spPF K 13) := ok_pf D T 13
  refine D.F_parts_of_words.ok scparts_of_words (fun vs H Q E h => ?_) (fun cdv A outer s H vs Q E hr h => ?_)
  · obtain ⟨a, p, rfl, _⟩ := h
    rfl
  · obtain ⟨a, p, rfl, ha, hp, hl, hw, q⟩ := h
    have nd := scparts_of_words.nd
    refine ⟨_, PSs.nox (pss_cons (ps_asg (pe_call G hr (by rfl) T.g__parts_from D.F__parts_from.kp (b__parts_from D) .nil pass0 (pa_cons (pv 0) (pa_cons pe_int pa_nil))) (pg_tup (by rfl) (pgs_cons (pg_name (i := 1) nd rfl (.inl rfl)) (pgs_cons (pg_name (i := 2) nd rfl (.inl rfl)) pgs_nil))))
      (pss_one (ps_ret (pv 1)))), ?_⟩
    refine ⟨_, rfl, a, [], [], p, rfl, by rw [List.nil_append, List.append_nil]; exact ha, hp, by omega, hl, by rw [List.nil_append, List.append_nil]; exact hw, nofun, fun r t us H1 s1 er et pt => ?_⟩
    exact ⟨r, _, rfl, tupT er, rfl, _, _, rfl, _, _, rfl, rfl, _, rfl, q t us H1 s1 et pt⟩
def spCheckT : Sp := fun vs H Q _ => ∃ p : Ps, vs = [.str (textOf p.words)] ∧ p.ok ∧ p.lev ≤ 12 ∧ p.words.length ≤ 1000 ∧ ∀ H', Same H H' → Q .non H'
theorem ok_checkT (D : Ds K) (T : Tx K mg) : FnOk P w K mg base CX0 5 (dcheck_text.adr K) D.fd_check_text ["text"] spCheckT := by
  have GW : FnOk P w K mg base CX0 4 _ _ _ (spWrong K) := ok_wrong D T
  have GT : FnOk P w K mg base CX0 1 _ _ _ spWords := ok_words D T
  refine D.F_check_text.ok sccheck_text (fun vs H Q E h => ?_) (fun cdv A outer s H vs Q E hr h => ?_)
  · obtain ⟨p, rfl, _⟩ := h
    rfl
  · obtain ⟨p, rfl, hp, hl, hw, q⟩ := h
    have nd := sccheck_text.nd
    refine ⟨_, PSs.nox (pss_cons (ps_if (pt_not (pt_val (pe_callB call_isiY (by rfl) T.z_isinstance (by decide +kernel) (pa_cons (pv 0) (pa_cons (pe_bltn (v := .ty "str") (by rfl) T.z_str (by decide +kernel) rfl) pa_nil))))) (pss_one ps_never) pss_nil)
      (pss_cons (ps_set (i := 1) nd rfl (.inl rfl) (pe_call GW hr (by rfl) T.g_wrong_word D.F_wrong_word.kp (b_wrong_word D) .nil pass0 (pa_cons (pe_call GT (hr.mono (by decide)) (by rfl) T.g_words_of D.F_words_of.kp (b_words_of D) .nil pass0 (pa_cons (pv 0) pa_nil)) (pa_cons (pe_tup pa_nil) pa_nil))))
      (pss_one (ps_if (pt_cmpR op_notN (pv 1) pe_non (nomark _)) (pss_one ps_never) pss_nil)))), ?_⟩
    have ow := okW_of hp hw hl
    refine ⟨_, rfl, _, .ty "str", _, _, true, rfl, .ty "str", .base (.base (.str _)), kit_ss, true, rfl, iteF ?_⟩
    refine ⟨_, rfl, p.words, rfl, ow, fun r H1 s1 n1 e1 => ⟨by show 0 ≤ sizeLine; decide, fun e he => ?_⟩⟩
    have se := same_new (o := .tup []) he
    refine ⟨r, e, p.words, rfl, lstL (se _ _ e1), tupT upd_same, ow, fun H2 s2 => ?_⟩
    exact ⟨_, rfl, rfl, false, rfl, iteF (q H2 (s1.trans (se.trans s2)))⟩
def spProg (K : PySem.W.Frag) : Sp := fun vs H Q _ => ∃ (a d : Addr) (p : Ps), vs = [.ref a, .str (textOf p.words)] ∧ H a = some (.ins (He.ga K "Program") d []) ∧ p.ok ∧ p.lev ≤ 12 ∧ p.words.length ≤ 1000 ∧
  ∀ H', (∀ b o, b ≠ a → H b = some o → H' b = some o) → IsP K H' a p → Q .non H'
theorem ok_prog (D : Ds K) (T : Tx K mg) : FnOk P w K mg base CX0 19 (dProgram_init.adr K) D.fd_Program_init ["self", "text"] (spProg K) := by
  have GC : FnOk P w K mg base CX0 5 _ _ _ spCheckT := ok_checkT D T
  have GT : FnOk P w K mg base CX0 1 _ _ _ spWords := ok_words D T
  have GP : FnOk P w K mg base CX0 18 _ _ _ (spParts K) := ok_parts D T
  have GS : FnOk P w K mg base CX0 1 _ _ _ (spSize K) := ok_size D T
  have GL : FnOk P w K mg base CX0 1 _ _ _ (spLevs K) := ok_levs D T
  refine D.F_Program_init.ok scProgram_init (fun vs H Q E h => ?_) (fun cdv A outer s H vs Q E hr h => ?_)
  · obtain ⟨a, d, p, rfl, _⟩ := h
    rfl
  · obtain ⟨a, d, p, rfl, ea, hp, hl, hw, q⟩ := h
    refine ⟨_, PSs.nox (pss_cons (ps_expr (pe_call GC (hr.mono (by decide)) (by rfl) T.g_check_text D.F_check_text.kp (b_check_text D) .nil pass0 (pa_cons (pv 1) pa_nil)))
      (pss_cons (ps_fld (pv 0) (pv 1) rfl)
      (pss_cons (ps_fld (pv 0) (pe_callTy call_tuple_of (by rfl) T.z_tuple (by decide +kernel) (pa_cons (pe_call GT (hr.mono (by decide)) (by rfl) T.g_words_of D.F_words_of.kp (b_words_of D) .nil pass0 (pa_cons (pv 1) pa_nil)) pa_nil)) rfl)
      (pss_cons (ps_fld (pv 0) (pe_call GP hr (by rfl) T.g_parts_of_words D.F_parts_of_words.kp (b_parts_of_words D) .nil pass0 (pa_cons (pe_fld (pv 0) rfl) pa_nil)) rfl)
      (pss_cons (ps_fld (pv 0) (pe_call GS (hr.mono (by decide)) (by rfl) T.g_size_of D.F_size_of.kp (b_size_of D) .nil pass0 (pa_cons (pe_fld (pv 0) rfl) pa_nil)) rfl)
      (pss_one (ps_fld (pv 0) (pe_call GL (hr.mono (by decide)) (by rfl) T.g_levels_of D.F_levels_of.kp (b_levels_of D) .nil pass0 (pa_cons (pe_fld (pv 0) rfl) pa_nil)) rfl))))))), ?_⟩
    have ow := okW_of hp hw hl
    have zl : p.sizes.length ≤ 1000 := Nat.le_trans (sizes_le p) hw
    refine ⟨_, rfl, p, rfl, hp, hl, hw, fun H1 s1 => ?_⟩
    refine ⟨_, rfl, _, rfl, a, _, d, _, rfl, s1 _ _ ea, T.c_Program, T.n_Program__text, by show 0 < 1000; decide, ?_⟩
    refine ⟨_, rfl, p.words, rfl, ow, fun r H2 s2 n2 e2 => ⟨r, _, rfl, .inl ⟨lstL e2, fun wd nw => ?_⟩⟩⟩
    have sw := same_new (o := .tup (wstrs p.words)) nw
    have a2 := sw _ _ (s2 _ _ upd_same)
    refine ⟨_, rfl, a, _, d, _, rfl, a2, T.c_Program, T.n_Program__words, by show 1 < 1000; decide, ?_⟩
    have wa : wd ≠ a := fun z => by
      have h := s2 _ _ (upd_same (H := H1) (a := a))
      rw [← z, nw] at h
      cases h
    refine ⟨_, rfl, a, _, d, _, _, rfl, upd_same, T.c_Program, T.n_Program__words, rfl, wd, p, rfl, tupT ((upd_ne wa).trans upd_same), hp, hl, hw, fun t us H4 s4 et pt => ?_⟩
    have a4 := s4 _ _ upd_same
    have w4 := s4 _ _ ((upd_ne wa).trans upd_same)
    refine ⟨_, rfl, a, _, d, _, rfl, a4, T.c_Program, T.n_Program__parts, by show 2 < 1000; decide, ?_⟩
    have ta : t ≠ a := fun z => by
      rw [z, a4] at et
      cases et
    have p5 := partsUpdA (o := .ins (He.ga K "Program") d [("_text", .str (textOf p.words)), ("_words", .ref wd), ("_parts", .ref t)]) pt a4
    refine ⟨_, rfl, a, _, d, _, _, rfl, upd_same, T.c_Program, T.n_Program__parts, rfl, t, us, p, rfl, tupT ((upd_ne ta).trans et), p5, zl, fun H6 s6 => ?_⟩
    have a6 := s6 _ _ upd_same
    have t6 := s6 _ _ ((upd_ne ta).trans et)
    have w6 := s6 _ _ ((upd_ne wa).trans w4)
    have p6 := p5.same s6
    refine ⟨_, rfl, a, _, d, _, rfl, a6, T.c_Program, T.n_Program__length, by show 3 < 1000; decide, ?_⟩
    have p7 := partsUpdA (o := .ins (He.ga K "Program") d [("_text", .str (textOf p.words)), ("_words", .ref wd), ("_parts", .ref t), ("_length", .int (p.size : Int))]) p6 a6
    refine ⟨_, rfl, a, _, d, _, _, rfl, upd_same, T.c_Program, T.n_Program__parts, rfl, t, us, p, rfl, tupT ((upd_ne ta).trans t6), p7, zl, fun H8 s8 => ?_⟩
    have a8 := s8 _ _ upd_same
    have t8 := s8 _ _ ((upd_ne ta).trans t6)
    have w8 := s8 _ _ ((upd_ne wa).trans w6)
    have p8 := p7.same s8
    refine ⟨_, rfl, a, _, d, _, rfl, a8, T.c_Program, T.n_Program__depth, by show 4 < 1000; decide, ?_⟩
    refine q _ (fun b o hb h => ?_) ⟨hp, hl, hw, d, wd, t, us, upd_same, (upd_ne wa).trans w8, (upd_ne ta).trans t8, partsUpdA p8 a8⟩
    have h1 := s2 _ _ ((upd_ne (o := .ins (He.ga K "Program") d [("_text", .str (textOf p.words))]) hb).trans (s1 _ _ h))
    have h2 := s4 _ _ ((upd_ne hb).trans (sw _ _ h1))
    have h3 := s6 _ _ ((upd_ne hb).trans h2)
    have h4 := s8 _ _ ((upd_ne hb).trans h3)
    exact (upd_ne hb).trans h4
end
end K15P

set_option Elab.async false
set_option linter.all false
set_option maxRecDepth 100000
set_option maxHeartbeats 4000000
namespace K15P
open PySem PySem.Spec PyProof.Rows L2 RT WM K15 TL
section
variable {P : Program} {w : World} {K : PySem.W.Frag} {mg : Str → Option Value} {base : Heap}
def spText (K : PySem.W.Frag) : Sp := fun vs H Q _ => ∃ a p, vs = [.ref a] ∧ IsP K H a p ∧ Q (.str (textOf p.words)) H
theorem ok_text (D : Ds K) (T : Tx K mg) : FnOk P w K mg base CX0 1 (dProgram_text.adr K) D.fd_Program_text ["self"] (spText K) := by
  refine D.F_Program_text.ok scProgram_text (fun vs H Q E h => ?_) (fun cdv A outer s H vs Q E hr h => ?_)
  · obtain ⟨a, p, rfl, _⟩ := h
    rfl
  · obtain ⟨a, p, rfl, ⟨_, _, _, d, wd, t, us, ea, ew, et, pt⟩, q⟩ := h
    exact ⟨_, PSs.nox (pss_one (ps_ret (pe_fld (pv 0) rfl))), _, rfl, a, _, d, _, _, rfl, ea, T.c_Program, T.n_Program__text, rfl, q⟩
def spLength (K : PySem.W.Frag) : Sp := fun vs H Q _ => ∃ a p, vs = [.ref a] ∧ IsP K H a p ∧ Q (.int (p.size : Int)) H
theorem ok_length (D : Ds K) (T : Tx K mg) : FnOk P w K mg base CX0 1 (dProgram_length.adr K) D.fd_Program_length ["self"] (spLength K) := by
  refine D.F_Program_length.ok scProgram_length (fun vs H Q E h => ?_) (fun cdv A outer s H vs Q E hr h => ?_)
  · obtain ⟨a, p, rfl, _⟩ := h
    rfl
  · obtain ⟨a, p, rfl, ⟨_, _, _, d, wd, t, us, ea, ew, et, pt⟩, q⟩ := h
    exact ⟨_, PSs.nox (pss_one (ps_ret (pe_fld (pv 0) rfl))), _, rfl, a, _, d, _, _, rfl, ea, T.c_Program, T.n_Program__length, rfl, q⟩
def spDepth (K : PySem.W.Frag) : Sp := fun vs H Q _ => ∃ a p, vs = [.ref a] ∧ IsP K H a p ∧ Q (.int (p.lev : Int)) H
theorem ok_depth (D : Ds K) (T : Tx K mg) : FnOk P w K mg base CX0 1 (dProgram_depth.adr K) D.fd_Program_depth ["self"] (spDepth K) := by
  refine D.F_Program_depth.ok scProgram_depth (fun vs H Q E h => ?_) (fun cdv A outer s H vs Q E hr h => ?_)
  · obtain ⟨a, p, rfl, _⟩ := h
    rfl
  · obtain ⟨a, p, rfl, ⟨_, _, _, d, wd, t, us, ea, ew, et, pt⟩, q⟩ := h
    exact ⟨_, PSs.nox (pss_one (ps_ret (pe_fld (pv 0) rfl))), _, rfl, a, _, d, _, _, rfl, ea, T.c_Program, T.n_Program__depth, rfl, q⟩
def spLenP (K : PySem.W.Frag) : Sp := fun vs H Q _ => ∃ a p, vs = [.ref a] ∧ IsP K H a p ∧ Q (.int (p.words.length : Int)) H
theorem ok_lenP (D : Ds K) (T : Tx K mg) : FnOk P w K mg base CX0 1 (dProgram_len.adr K) D.fd_Program_len ["self"] (spLenP K) := by
  refine D.F_Program_len.ok scProgram_len (fun vs H Q E h => ?_) (fun cdv A outer s H vs Q E hr h => ?_)
  · obtain ⟨a, p, rfl, _⟩ := h
    rfl
  · obtain ⟨a, p, rfl, ⟨_, _, _, d, wd, t, us, ea, ew, et, pt⟩, q⟩ := h
    refine ⟨_, PSs.nox (pss_one (ps_ret (pe_callB call_len_seq (by rfl) T.z_len PySem.boot_len (pa_cons (pe_fld (pv 0) rfl) pa_nil)))), ?_⟩
    refine ⟨_, rfl, a, _, d, _, _, rfl, ea, T.c_Program, T.n_Program__words, rfl, wd, _, rfl, .inr (tupT ew), ?_⟩
    have e : (wstrs p.words).length = p.words.length := List.length_map ..
    rw [e]
    exact q
def spCheckP (K : PySem.W.Frag) : Sp := fun vs H Q _ => ∃ a p, vs = [.ref a] ∧ IsP K H a p ∧ Q .non H
theorem ok_checkP (D : Ds K) (T : Tx K mg) : FnOk P w K mg base CX0 1 (dcheck_program.adr K) D.fd_check_program ["program"] (spCheckP K) := by
  refine D.F_check_program.ok sccheck_program (fun vs H Q E h => ?_) (fun cdv A outer s H vs Q E hr h => ?_)
  · obtain ⟨a, p, rfl, _⟩ := h
    rfl
  · obtain ⟨a, p, rfl, ⟨_, _, _, d, wd, t, us, ea, ew, et, pt⟩, q⟩ := h
    refine ⟨_, PSs.nox (pss_one (ps_if (pt_not (pt_val (pe_callB call_isiY (by rfl) T.z_isinstance (by decide +kernel) (pa_cons (pv 0) (pa_cons (pe_glob (v := .ref (He.ga K "Program")) rfl T.g_Program rfl) pa_nil))))) (pss_one ps_never) pss_nil)), ?_⟩
    exact ⟨_, rfl, _, .ref (He.ga K "Program"), _, _, true, rfl, .own _, .base (.base (.ins ea T.c_Program T.i_Program.ha T.i_Program.hn T.i_Program.ht T.i_Program.hm)), T.t_Program, true, rfl, iteF q⟩
end
end K15P

set_option Elab.async false
set_option linter.all false
set_option maxRecDepth 100000
set_option maxHeartbeats 4000000
namespace K15P
open PySem PySem.Spec PyProof.Rows L2 RT WM K15 TL
theorem wstrs_map (ws : List Wd) : wstrs ws = (ws.map Wd.str).map V.str := by
  unfold wstrs
  rw [List.map_map]
  rfl
theorem lens_le : ∀ {ws : List Wd}, (∀ x ∈ ws, x.ok) → ((ws.map Wd.str).map (·.length)).sum ≤ ws.length * 32
  | [], _ => Nat.le_refl _
  | x :: ws, h => by
    have h1 := lens_le fun z hz => h z (List.mem_cons_of_mem _ hz)
    have h2 := cps_len (h x (List.mem_cons_self ..))
    have h3 : x.str.length = x.cps.length := WM.len_tl x.str
    simp only [List.map_cons, List.sum_cons, List.length_cons] at h1 ⊢
    omega
section
variable {P : Program} {w : World} {K : PySem.W.Frag} {mg : Str → Option Value} {base : Heap}
theorem make_p {H : Hp} {p : Ps} {t : Str} {Q : VK} {E : XK} {x d : Addr} (hx : H x = none) (hd : H d = none) (et : t = textOf p.words) (hp : p.ok) (hl : p.lev ≤ 12) (hw : p.words.length ≤ 1000) (q : ∀ H', Same H H' → IsP K H' x p → Q .non H') :
    spProg K (.ref x :: ([.str t] ++ [])) (upd (upd H d (.own x)) x (.ins (He.ga K "Program") d [])) Q E := by
  subst et
  exact ⟨x, d, p, rfl, upd_same, hp, hl, hw, fun H' k m => q H' (fun b o e => k b o (ne_of_none e hx) (by rw [upd_ne (ne_of_none e hx), upd_ne (ne_of_none e hd)]; exact e)) m⟩
def spAddP (K : PySem.W.Frag) : Sp := fun vs H Q _ => ∃ a b p q, vs = [.ref a, .ref b] ∧ IsP K H a p ∧ IsP K H b q ∧ p.words.length + q.words.length ≤ 1000 ∧ ∀ r H', Same H H' → IsP K H' r (p.app q) → Q (.ref r) H'
theorem ok_addP (D : Ds K) (T : Tx K mg) : FnOk P w K mg base CX0 21 (dProgram_add.adr K) D.fd_Program_add ["self", "other"] (spAddP K) := by
  have GC : FnOk P w K mg base CX0 1 _ _ _ (spCheckP K) := ok_checkP D T
  have GI : FnOk P w K mg base CX0 19 _ _ _ (spProg K) := ok_prog D T
  refine D.F_Program_add.ok scProgram_add (fun vs H Q E h => ?_) (fun cdv A outer s H vs Q E hr h => ?_)
  · obtain ⟨a, b, p, q, rfl, _⟩ := h
    rfl
  · obtain ⟨a, b, p, q, rfl, ha, hb, hle, k⟩ := h
    obtain ⟨tW, vW⟩ := T.v_MOST_WORDS
    refine ⟨_, PSs.nox (pss_cons (ps_expr (pe_call GC (hr.mono (by decide)) (by rfl) T.g_check_program D.F_check_program.kp (b_check_program D) .nil pass0 (pa_cons (pv 1) pa_nil)))
      (pss_cons (ps_if (pt_cmpR op_gt (pe_op op_add (pe_callB call_len_seq (by rfl) T.z_len PySem.boot_len (pa_cons (pe_fld (pv 0) rfl) pa_nil)) (pe_callB call_len_seq (by rfl) T.z_len PySem.boot_len (pa_cons (pe_fld (pv 1) rfl) pa_nil))) (pe_glob (v := .int 1000) rfl vW ⟨_, rfl⟩) (nomark _)) (pss_one ps_never) pss_nil)
      (pss_one (ps_ret (pe_make T.k_Program GI hr (by rfl) T.g_Program (b_Program_init D) .nil pass0 (pa_cons (pe_join pe_str (pe_op op_catA (pe_fld (pv 0) rfl) (pe_fld (pv 1) rfl))) pa_nil)))))), ?_⟩
    obtain ⟨op, lp, wp, d1, wd1, t1, us1, ea, ew1, et1, pt1⟩ := id ha
    obtain ⟨oq, lq, wq, d2, wd2, t2, us2, eb, ew2, et2, pt2⟩ := id hb
    have e1 : (wstrs p.words).length = p.words.length := List.length_map ..
    have e2 : (wstrs q.words).length = q.words.length := List.length_map ..
    refine ⟨_, rfl, b, q, rfl, hb, ?_⟩
    refine ⟨_, rfl, a, _, d1, _, _, rfl, ea, T.c_Program, T.n_Program__words, rfl, wd1, _, rfl, .inr (tupT ew1), _, rfl, b, _, d2, _, _, rfl, eb, T.c_Program, T.n_Program__words, rfl, wd2, _, rfl, .inr (tupT ew2), _, _, rfl, rfl, _, _, rfl, rfl, false, ?_, iteF ?_⟩
    · rw [e1, e2]
      exact congrArg V.bl (decide_eq_false (by omega))
    have aw : (p.app q).words = p.words ++ q.words := app_words p q
    have aok := app_ok op oq
    have al : (p.app q).lev ≤ 12 := by
      rw [app_lev]
      omega
    have alen : (p.app q).words.length ≤ 1000 := by
      rw [aw, List.length_append]
      exact hle
    have sums : (((p.app q).words.map Wd.str).map (·.length)).sum + ((p.app q).words.map Wd.str).length * (" " : Str).length ≤ 16777216 := by
      have h1 := lens_le (words_ok _ aok)
      have h2 : (" " : Str).length = 1 := rfl
      rw [List.length_map, h2]
      omega
    have fin : ∀ (z : Addr) (H1 : Hp), Same H H1 → H1 z = some (.tup (wstrs (p.app q).words)) → ∀ {R : Addr → Hp → Prop}, (∀ r H', Same H1 H' → IsP K H' r (p.app q) → R r H') → ∀ {t : Str}, t = textOf (p.app q).words → ∀ x dx, H1 x = none → H1 dx = none → dx ≠ x → spProg K (.ref x :: ([.str t] ++ [])) (upd (upd H1 dx (.own x)) x (.ins (He.ga K "Program") dx [])) (fun v H2 => v = .non ∧ R x H2) E0 :=
      fun z H1 s1 ez R hR t et x dx nx nd _ => make_p nx nd et aok al alen fun H2 s2 hp2 => ⟨rfl, hR x H2 s2 hp2⟩
    refine ⟨⟨_, rfl⟩, ?_⟩
    refine ⟨_, rfl, a, _, d1, _, _, rfl, ea, T.c_Program, T.n_Program__words, rfl, _, rfl, b, _, d2, _, _, rfl, eb, T.c_Program, T.n_Program__words, rfl, wd1, wd2, _, _, rfl, rfl, tupT ew1, tupT ew2, ?_, fun z => ?_, fun z1 z2 => ?_, fun z1 z2 y ny => ?_⟩
    · rw [e1, e2]
      exact Nat.le_trans hle (by decide)
    · have z : p.words = [] := List.map_eq_nil_iff.mp z
      have ew : (p.app q).words = q.words := by rw [aw, z]; rfl
      refine ⟨_, wd2, (p.app q).words.map Wd.str, rfl, rfl, .inr (tupT (by rw [← wstrs_map, ew]; exact ew2)), sums, ?_⟩
      exact fin wd2 H (fun _ _ e => e) (by rw [ew]; exact ew2) (fun r H' s h => k r H' s h) (join_eq _ _)
    · have z2 : q.words = [] := List.map_eq_nil_iff.mp z2
      have ew : (p.app q).words = p.words := by rw [aw, z2, List.append_nil]
      refine ⟨_, wd1, (p.app q).words.map Wd.str, rfl, rfl, .inr (tupT (by rw [← wstrs_map, ew]; exact ew1)), sums, ?_⟩
      exact fin wd1 H (fun _ _ e => e) (by rw [ew]; exact ew1) (fun r H' s h => k r H' s h) (join_eq _ _)
    · have sy := same_new (o := .tup (wstrs p.words ++ wstrs q.words)) ny
      have ey : upd H y (.tup (wstrs p.words ++ wstrs q.words)) y = some (.tup (wstrs (p.app q).words)) := by
        rw [upd_same, aw]
        unfold wstrs
        rw [List.map_append]
      refine ⟨_, y, (p.app q).words.map Wd.str, rfl, rfl, .inr (tupT (by rw [← wstrs_map]; exact ey)), sums, ?_⟩
      exact fin y _ sy ey (fun r H' s h => k r H' (sy.trans s) h) (join_eq _ _)
end
end K15P

set_option Elab.async false
set_option linter.all false
set_option maxRecDepth 100000
set_option maxHeartbeats 4000000
namespace K15P
open PySem PySem.Spec PyProof.Rows L2 RT WM K15 TL
theorem joinL_cons (S x : List Nat) {l : List (List Nat)} (h : l ≠ []) : joinL S (x :: l) = x ++ (S ++ joinL S l) := by
  cases l with
  | nil => exact absurd rfl h
  | cons y l => rfl
theorem joinL_snoc (S y : List Nat) : ∀ {l : List (List Nat)}, l ≠ [] → joinL S (l ++ [y]) = joinL S l ++ (S ++ y)
  | [], h => absurd rfl h
  | [x], _ => rfl
  | x :: z :: l, _ => by
    rw [List.cons_append, joinL_cons S x (by simp), joinL_snoc S y (l := z :: l) (by simp), joinL_cons S x (by simp)]
    simp only [List.append_assoc]
theorem text_rep {p : Ps} (hp : p.words ≠ []) (n : Nat) : (((Str.empty ++ ("( " : Str)) ++ textOf p.words) ++ (" )" : Str)) ++ Str.ofString (toString ((n : Nat) : Int)) = textOf (.op :: (p.words ++ [.cl n])) := by
  refine ext_tl ?_
  have hne : ((p.words.map Wd.str).map tl) ≠ [] := by
    intro e
    exact hp (List.map_eq_nil_iff.mp (List.map_eq_nil_iff.mp e))
  unfold textOf
  rw [tl_append, tl_append, tl_append, tl_append, tl_num, tl_join, tl_join, List.map_cons, List.map_cons, List.map_append, List.map_append, joinL_cons _ _ (by simp)]
  show _ = [40] ++ ([32] ++ joinL [32] ((p.words.map Wd.str).map tl ++ [41 :: numL n]))
  rw [joinL_snoc _ _ hne]
  show ((([] ++ [40, 32]) ++ joinL [32] _) ++ [32, 41]) ++ numL n = _
  simp only [List.append_assoc, List.cons_append, List.nil_append]
section
variable {P : Program} {w : World} {K : PySem.W.Frag} {mg : Str → Option Value} {base : Heap}
theorem kit_ii {K : PySem.W.Frag} : PySem.W.kitOne K (.type "int") (.type "int") = some true := kit_ty (by decide +kernel)
theorem kit_ib {K : PySem.W.Frag} : PySem.W.kitOne K (.type "int") (.type "bool") = some false := kit_ty (by decide +kernel)
def spIsInt : Sp := fun vs H Q _ => ∃ v : Int, vs = [.int v] ∧ Q (.bl true) H
theorem ok_isint (D : Ds K) (T : Tx K mg) : FnOk P w K mg base CX0 1 (dis_integer.adr K) D.fd_is_integer ["value"] spIsInt := by
  refine D.F_is_integer.ok scis_integer (fun vs H Q E h => ?_) (fun cdv A outer s H vs Q E hr h => ?_)
  · obtain ⟨v, rfl, _⟩ := h
    rfl
  · obtain ⟨v, rfl, q⟩ := h
    refine ⟨_, PSs.nox (pss_one (ps_ret (pe_and (pe_callB call_isiY (by rfl) T.z_isinstance (by decide +kernel) (pa_cons (pv 0) (pa_cons (pe_bltn (v := .ty "int") (by rfl) T.z_int (by decide +kernel) rfl) pa_nil)))
      (pe_one (pe_not (pe_callB call_isiY (by rfl) T.z_isinstance (by decide +kernel) (pa_cons (pv 0) (pa_cons (pe_bltn (v := .ty "bool") (by rfl) T.z_bool (by decide +kernel) rfl) pa_nil)))))))), ?_⟩
    refine ⟨_, rfl, _, .ty "int", _, _, true, rfl, .ty "int", .base (.base (.int v)), kit_ii, true, rfl, iteT ?_⟩
    exact ⟨_, rfl, _, .ty "bool", _, _, false, rfl, .ty "bool", .base (.base (.int v)), kit_ib, false, rfl, q⟩
def spWithin : Sp := fun vs H Q _ => ∃ v l m : Int, vs = [.int v, .int l, .int m] ∧ Q (.bl (decide (l ≤ v) && decide (v ≤ m))) H
theorem ok_within (D : Ds K) (T : Tx K mg) : FnOk P w K mg base CX0 2 (dis_integer_within.adr K) D.fd_is_integer_within ["value", "least", "most"] spWithin := by
  have G1 : FnOk P w K mg base CX0 1 _ _ _ spIsInt := ok_isint D T
  refine D.F_is_integer_within.ok scis_integer_within (fun vs H Q E h => ?_) (fun cdv A outer s H vs Q E hr h => ?_)
  · obtain ⟨v, l, m, rfl, _⟩ := h
    rfl
  · obtain ⟨v, l, m, rfl, q⟩ := h
    refine ⟨_, PSs.nox (pss_one (ps_ret (pe_and (pe_call G1 hr (by rfl) T.g_is_integer D.F_is_integer.kp (b_is_integer D) .nil pass0 (pa_cons (pv 0) pa_nil))
      (pe_one (pe_chain op_le op_le (pv 1) (pv 0) (pv 2)))))), ?_⟩
    refine ⟨_, rfl, v, rfl, true, rfl, iteT ?_⟩
    refine ⟨_, rfl, _, rfl, l, v, rfl, rfl, _, rfl, ?_⟩
    by_cases h1 : l ≤ v
    · rw [decide_eq_true h1] at q ⊢
      exact iteT ⟨_, rfl, v, m, rfl, rfl, q⟩
    · rw [decide_eq_false h1] at q ⊢
      exact iteF q
def spTimes : Sp := fun vs H Q _ => ∃ n : Nat, vs = [.int (n : Int)] ∧ n ≤ T30 ∧ Q .non H
theorem ok_times (D : Ds K) (T : Tx K mg) : FnOk P w K mg base CX0 3 (dcheck_times.adr K) D.fd_check_times ["times"] spTimes := by
  have G : FnOk P w K mg base CX0 2 _ _ _ spWithin := ok_within D T
  refine D.F_check_times.ok sccheck_times (fun vs H Q E h => ?_) (fun cdv A outer s H vs Q E hr h => ?_)
  · obtain ⟨n, rfl, _⟩ := h
    rfl
  · obtain ⟨n, rfl, hn, q⟩ := h
    obtain ⟨tM, vM⟩ := T.v_MOST_TIMES
    refine ⟨_, PSs.nox (pss_one (ps_if (pt_not (pt_val (pe_call G hr (by rfl) T.g_is_integer_within D.F_is_integer_within.kp (b_is_integer_within D) .nil pass0 (pa_cons (pv 0) (pa_cons pe_int (pa_cons (pe_glob (v := .int 1000000000000000000000000000000) rfl vM ⟨_, rfl⟩) pa_nil)))))) (pss_one ps_never) pss_nil)), ?_⟩
    refine ⟨_, rfl, (n : Int), 0, 1000000000000000000000000000000, rfl, true, ?_, iteF q⟩
    have h2 : (n : Int) ≤ 1000000000000000000000000000000 := by
      have : n ≤ 1000000000000000000000000000000 := hn
      omega
    rw [decide_eq_true (show (0 : Int) ≤ (n : Int) by omega), decide_eq_true h2]
    rfl
def rep (p : Ps) (n : Nat) : Ps := if n = 0 then .nil else if n = 1 then p else match p with
  | .nil => .nil
  | p => .rp p n .nil
def spMulP (K : PySem.W.Frag) : Sp := fun vs H Q _ => ∃ (a : Addr) (p : Ps) (n : Nat), vs = [.ref a, .int (n : Int)] ∧ n ≤ T30 ∧ IsP K H a p ∧ (2 ≤ n → p ≠ .nil → p.words.length + 2 ≤ 1000 ∧ p.lev + 1 ≤ 12) ∧ ∀ r H', Same H H' → IsP K H' r (rep p n) → Q (.ref r) H'
theorem ok_mulP (D : Ds K) (T : Tx K mg) : FnOk P w K mg base CX0 21 (dProgram_mul.adr K) D.fd_Program_mul ["self", "other"] (spMulP K) := by
  have GC : FnOk P w K mg base CX0 3 _ _ _ spTimes := ok_times D T
  have GI : FnOk P w K mg base CX0 19 _ _ _ (spProg K) := ok_prog D T
  refine D.F_Program_mul.ok scProgram_mul (fun vs H Q E h => ?_) (fun cdv A outer s H vs Q E hr h => ?_)
  · obtain ⟨a, p, n, rfl, _⟩ := h
    rfl
  · obtain ⟨a, p, n, rfl, hn, ha, fit, k⟩ := h
    obtain ⟨tW, vW⟩ := T.v_MOST_WORDS
    obtain ⟨tD, vD⟩ := T.v_MOST_DEPTH
    refine ⟨_, PSs.nox (pss_cons (ps_expr (pe_call GC (hr.mono (by decide)) (by rfl) T.g_check_times D.F_check_times.kp (b_check_times D) .nil pass0 (pa_cons (pv 1) pa_nil)))
      (pss_cons (ps_if (pt_cmpR op_eq (pv 1) pe_int (nomark _)) (pss_one (ps_ret (pe_make T.k_Program GI hr (by rfl) T.g_Program (b_Program_init D) .nil pass0 (pa_cons pe_str pa_nil)))) pss_nil)
      (pss_cons (ps_if (PW.pt (pw_or (pt_cmpR op_eq (pv 1) pe_int (nomark _)) (pw_or1 (pt_not (pt_truth (pe_fld (pv 0) rfl) (by intro _; rfl)))))) (pss_one (ps_ret (pv 0))) pss_nil)
      (pss_cons (ps_if (pt_cmpR op_gt (pe_op op_add (pe_callB call_len_seq (by rfl) T.z_len PySem.boot_len (pa_cons (pe_fld (pv 0) rfl) pa_nil)) pe_int) (pe_glob (v := .int 1000) rfl vW ⟨_, rfl⟩) (nomark _)) (pss_one ps_never) pss_nil)
      (pss_cons (ps_if (pt_cmpR op_gt (pe_op op_add (pe_fld (pv 0) rfl) pe_int) (pe_glob (v := .int 12) rfl vD ⟨_, rfl⟩) (nomark _)) (pss_one ps_never) pss_nil)
      (pss_one (ps_ret (pe_make T.k_Program GI hr (by rfl) T.g_Program (b_Program_init D) .nil pass0 (pa_cons (pe_joined (.cons pe_str (.cons (pe_fmt0 (pe_fld (pv 0) rfl)) (.cons pe_str (.cons (pe_fmt0 (pv 1)) .nil))))) pa_nil))))))))), ?_⟩
    obtain ⟨op, lp, wp, d1, wd1, t1, us1, ea, ew1, et1, pt1⟩ := id ha
    refine ⟨_, rfl, n, rfl, hn, ?_⟩
    by_cases h0 : n = 0
    · subst h0
      refine ⟨_, rfl, rfl, true, rfl, iteT fun x dx nx nd _ => make_p nx nd (p := .nil) rfl trivial (Nat.zero_le _) (Nat.zero_le _) fun H2 s2 hp2 => ⟨rfl, k x H2 s2 hp2⟩⟩
    · refine ⟨_, rfl, rfl, false, congrArg V.bl (decide_eq_false fun z => by injection z with z; omega), iteF ?_⟩
      by_cases h1 : n = 1
      · subst h1
        exact ⟨_, rfl, rfl, true, rfl, iteT ⟨_, rfl, k a H (fun _ _ e => e) ha⟩⟩
      · refine ⟨_, rfl, rfl, false, congrArg V.bl (decide_eq_false fun z => by injection z with z; omega), iteF ?_⟩
        by_cases hpn : p = .nil
        · subst hpn
          refine ⟨_, rfl, a, _, d1, _, _, rfl, ea, T.c_Program, T.n_Program__words, rfl, false, .inr (.inl ⟨_, tupT ew1, rfl⟩), iteT ⟨_, rfl, k a H (fun _ _ e => e) ?_⟩⟩
          have e : rep .nil n = .nil := by
            unfold rep
            rw [if_neg h0, if_neg h1]
          rw [e]
          exact ha
        · have hw0 : p.words ≠ [] := by
            cases p with
            | nil => exact absurd rfl hpn
            | lf c n r => exact nofun
            | rp b n r => exact nofun
          obtain ⟨f1, f2⟩ := fit (by omega) hpn
          have e1 : (wstrs p.words).length = p.words.length := List.length_map ..
          have hrep : rep p n = .rp p n .nil := by
            unfold rep
            rw [if_neg h0, if_neg h1]
            cases p with
            | nil => exact absurd rfl hpn
            | lf c n r => rfl
            | rp b n r => rfl
          have okr : (Ps.rp p n .nil).ok := ⟨hpn, op, ⟨by omega, hn⟩, trivial⟩
          have lvr : (Ps.rp p n .nil).lev ≤ 12 := by
            show max (1 + p.lev) 0 ≤ 12
            omega
          have wr : (Ps.rp p n .nil).words = .op :: (p.words ++ [.cl n]) := rfl
          have wlr : (Ps.rp p n .nil).words.length ≤ 1000 := by
            rw [wr]
            simp only [List.length_cons, List.length_append, List.length_nil]
            omega
          have tl1 := text_len (okW_of op wp lp)
          have nl : (Str.ofString (toString (n : Int))).length ≤ 31 := by
            rw [dgS_eq]
            exact dg_len hn
          have nlog : ((n : Int)).natAbs.log2 < 1920 := by
            by_cases z : ((n : Int)).natAbs = 0
            · rw [z]; decide
            · have t : T30 < 2 ^ 100 := by decide
              have t2 : (2 : Nat) ^ 100 ≤ 2 ^ 1920 := Nat.pow_le_pow_right (by decide) (by decide)
              exact (Nat.log2_lt z).mpr (by omega)
          have L1 : ("( " : Str).length = 2 := rfl
          have L2' : (" )" : Str).length = 2 := rfl
          have L0 : Str.empty.length = 0 := rfl
          have zl : 40000 ≤ sizeLine := by decide
          refine ⟨_, rfl, a, _, d1, _, _, rfl, ea, T.c_Program, T.n_Program__words, rfl, true, .inr (.inl ⟨_, tupT ew1, ?_⟩), iteF ?_⟩
          · unfold wstrs
            cases hw : p.words with
            | nil => exact absurd hw hw0
            | cons x l => rfl
          refine ⟨_, rfl, a, _, d1, _, _, rfl, ea, T.c_Program, T.n_Program__words, rfl, wd1, _, rfl, .inr (tupT ew1), _, _, rfl, rfl, _, _, rfl, rfl, false, ?_, iteF ?_⟩
          · rw [e1]
            exact congrArg V.bl (decide_eq_false (by omega))
          refine ⟨_, rfl, a, _, d1, _, _, rfl, ea, T.c_Program, T.n_Program__depth, rfl, _, _, rfl, rfl, _, _, rfl, rfl, false, congrArg V.bl (decide_eq_false (by omega)), iteF ?_⟩
          refine ⟨_, rfl, ?_, _, rfl, a, _, d1, _, _, rfl, ea, T.c_Program, T.n_Program__text, rfl, .inl ⟨_, rfl, by omega, _, rfl, ?_, _, rfl, ?_, _, rfl, .inr (.inl ⟨_, rfl, nlog, _, rfl, ?_, ?_⟩)⟩⟩
          · rw [strLen_append]; omega
          · rw [strLen_append, strLen_append]; omega
          · rw [strLen_append, strLen_append, strLen_append]; omega
          · rw [strLen_append, strLen_append, strLen_append, strLen_append]; omega
          · refine fun x dx nx nd _ => make_p nx nd (p := .rp p n .nil) ((text_rep hw0 n).trans (by rw [wr])) okr lvr wlr fun H2 s2 hp2 => ⟨rfl, k x H2 s2 (by rw [hrep]; exact hp2)⟩
end
end K15P

set_option linter.all false
set_option maxRecDepth 100000
set_option maxHeartbeats 4000000
/-! the motion of the first steps of a tree -/
namespace WM
open M13
def letM (c : Nat) : M3 := if c = 102 then (0, 1, 0) else if c = 98 then (0, -1, 0) else if c = 108 then (1, 0, 0) else if c = 114 then (3, 0, 0) else idM
theorem letM_le (c : Nat) : (letM c).1 ≤ 3 := by
  unfold letM
  split
  · exact Nat.zero_le _
  · split
    · exact Nat.zero_le _
    · split
      · exact (by decide : 1 ≤ 3)
      · split
        · exact Nat.le_refl _
        · exact Nat.zero_le _
def Ps.motU : Ps → Nat → M3
  | .nil, _ => idM
  | .lf c n r, i => cmp (npow (letM c) (min i n)) (r.motU (i - n))
  | .rp b n r, i => cmp (cmp (npow (b.motU b.size) (min i (b.size * n) / b.size)) (b.motU (min i (b.size * n) % b.size))) (r.motU (i - b.size * n))
theorem motU_le (p : Ps) (i : Nat) : (p.motU i).1 ≤ 3 := by
  cases p with
  | nil => exact Nat.zero_le _
  | lf c n r => exact cmp_le _ _
  | rp b n r => exact cmp_le _ _
theorem npow_id : ∀ k, npow idM k = idM
  | 0 => rfl
  | k + 1 => by
    show cmp (npow idM k) idM = idM
    rw [npow_id k]
    rfl
theorem motU_zero (p : Ps) : p.motU 0 = idM := by
  induction p with
  | nil => rfl
  | lf c n r ih =>
    show cmp (npow (letM c) (min 0 n)) (r.motU (0 - n)) = idM
    rw [Nat.zero_min, Nat.zero_sub, ih]
    rfl
  | rp b n r ihb ihr =>
    show cmp (cmp (npow (b.motU b.size) (min 0 (b.size * n) / b.size)) (b.motU (min 0 (b.size * n) % b.size))) (r.motU (0 - b.size * n)) = idM
    rw [Nat.zero_min, Nat.zero_sub, Nat.zero_div, Nat.zero_mod, ihb, ihr]
    rfl
/-! ### how far -/
def nrm (m : M3) : Nat := max m.2.1.natAbs m.2.2.natAbs
theorem rot_nrm (n : Nat) (p : Int × Int) : max (rot n p).1.natAbs (rot n p).2.natAbs = max p.1.natAbs p.2.natAbs := by
  induction n with
  | zero => rfl
  | succ n ih =>
    show max (-(rot n p).2).natAbs (rot n p).1.natAbs = _
    rw [Int.natAbs_neg, Nat.max_comm, ih]
theorem nrm_cmp (m n : M3) : nrm (cmp m n) ≤ nrm m + nrm n := by
  have h := rot_nrm m.1 n.2
  unfold nrm
  show max (m.2.1 + (rot m.1 n.2).1).natAbs (m.2.2 + (rot m.1 n.2).2).natAbs ≤ _
  omega
theorem nrm_npow (m : M3) : ∀ k, nrm (npow m k) ≤ k * nrm m
  | 0 => Nat.zero_le _
  | k + 1 => by
    have h1 := nrm_npow m k
    have h2 := nrm_cmp (npow m k) m
    show nrm (cmp (npow m k) m) ≤ (k + 1) * nrm m
    rw [Nat.add_mul, Nat.one_mul]
    omega
theorem nrm_let (c : Nat) : nrm (letM c) ≤ 1 := by
  unfold letM
  split
  · decide
  · split
    · decide
    · split
      · decide
      · split <;> decide
theorem nrm_motU (p : Ps) : ∀ i, nrm (p.motU i) ≤ i := by
  induction p with
  | nil => intro i; exact Nat.zero_le _
  | lf c n r ih =>
    intro i
    have h1 := nrm_cmp (npow (letM c) (min i n)) (r.motU (i - n))
    have h2 := nrm_npow (letM c) (min i n)
    have h3 := nrm_let c
    have h4 := ih (i - n)
    have h5 : min i n * nrm (letM c) ≤ min i n * 1 := Nat.mul_le_mul_left _ h3
    show nrm (cmp _ _) ≤ i
    omega
  | rp b n r ihb ihr =>
    intro i
    have h1 := nrm_cmp (cmp (npow (b.motU b.size) (min i (b.size * n) / b.size)) (b.motU (min i (b.size * n) % b.size))) (r.motU (i - b.size * n))
    have h2 := nrm_cmp (npow (b.motU b.size) (min i (b.size * n) / b.size)) (b.motU (min i (b.size * n) % b.size))
    have h3 := nrm_npow (b.motU b.size) (min i (b.size * n) / b.size)
    have h4 := ihb b.size
    have h5 := ihb (min i (b.size * n) % b.size)
    have h6 := ihr (i - b.size * n)
    have h7 : (min i (b.size * n) / b.size) * nrm (b.motU b.size) ≤ (min i (b.size * n) / b.size) * b.size := Nat.mul_le_mul_left _ h4
    have h8 := Nat.div_add_mod (min i (b.size * n)) b.size
    rw [Nat.mul_comm] at h8
    show nrm (cmp _ _) ≤ i
    omega
/-! ### by steps -/
def stM (ss : List Nat) : M3 := ss.foldl (fun m c => cmp m (letM c)) idM
theorem stM_from (ss : List Nat) : ∀ m : M3, m.1 ≤ 3 → ss.foldl (fun m c => cmp m (letM c)) m = cmp m (stM ss) := by
  induction ss with
  | nil => intro m h; exact (cmp_id m h).symm
  | cons c ss ih =>
    intro m h
    show ss.foldl _ (cmp m (letM c)) = cmp m (ss.foldl _ (cmp idM (letM c)))
    rw [ih _ (cmp_le _ _), ih _ (cmp_le _ _), cmp_assoc, id_cmp _ (letM_le c)]
theorem stM_le (ss : List Nat) : (stM ss).1 ≤ 3 := by
  have : ∀ (ss : List Nat) (m : M3), m.1 ≤ 3 → (ss.foldl (fun m c => cmp m (letM c)) m).1 ≤ 3 := by
    intro ss
    induction ss with
    | nil => intro m h; exact h
    | cons c ss ih => intro m h; exact ih _ (cmp_le _ _)
  exact this ss idM (Nat.zero_le _)
theorem stM_app (a b : List Nat) : stM (a ++ b) = cmp (stM a) (stM b) := by
  unfold stM
  rw [List.foldl_append]
  exact stM_from b _ (stM_le a)
theorem stM_one (c : Nat) : stM [c] = letM c := id_cmp _ (letM_le c)
theorem stM_rep (c : Nat) : ∀ n, stM (List.replicate n c) = npow (letM c) n
  | 0 => rfl
  | n + 1 => by
    rw [List.replicate_succ', stM_app, stM_rep c n, stM_one]
    rfl
theorem stM_reps (ss : List Nat) : ∀ n, stM (List.replicate n ss).flatten = npow (stM ss) n
  | 0 => rfl
  | n + 1 => by
    rw [List.replicate_succ', List.flatten_append, stM_app, stM_reps ss n]
    show cmp (npow (stM ss) n) (stM (ss ++ [])) = _
    rw [List.append_nil]
    rfl
theorem motU_full {p : Ps} (ok : p.ok) : p.motU p.size = stM p.steps := by
  induction p with
  | nil => rfl
  | lf c n r ih =>
    show cmp (npow (letM c) (min (n + r.size) n)) (r.motU (n + r.size - n)) = stM (List.replicate n c ++ r.steps)
    rw [stM_app, stM_rep, Nat.min_eq_right (Nat.le_add_right _ _), Nat.add_sub_cancel_left, ih ok.2]
  | rp b n r ihb ihr =>
    obtain ⟨hbn, hb, hn, hr⟩ := ok
    have bp := size_pos hb hbn
    show cmp (cmp (npow (b.motU b.size) (min (b.size * n + r.size) (b.size * n) / b.size)) (b.motU (min (b.size * n + r.size) (b.size * n) % b.size))) (r.motU (b.size * n + r.size - b.size * n)) = stM ((List.replicate n b.steps).flatten ++ r.steps)
    rw [stM_app, stM_reps, Nat.min_eq_right (Nat.le_add_right _ _), Nat.add_sub_cancel_left, ihr hr, Nat.mul_div_cancel_left _ bp, Nat.mul_mod_right, motU_zero, cmp_id _ (npow_le _ _), ihb hb]
theorem motU_app {p : Ps} (q : Ps) : ∀ i, i ≤ p.size → (p.app q).motU i = p.motU i := by
  induction p with
  | nil =>
    intro i h
    have : i = 0 := Nat.le_zero.mp h
    subst this
    exact motU_zero q
  | lf c n r ih =>
    intro i h
    show cmp (npow (letM c) (min i n)) ((r.app q).motU (i - n)) = cmp (npow (letM c) (min i n)) (r.motU (i - n))
    rw [ih (i - n) (by have h : i ≤ n + r.size := h; omega)]
  | rp b n r _ ih =>
    intro i h
    show cmp _ ((r.app q).motU (i - b.size * n)) = cmp _ (r.motU (i - b.size * n))
    rw [ih (i - b.size * n) (by have h : i ≤ b.size * n + r.size := h; omega)]
theorem app_size (p q : Ps) : (p.app q).size = p.size + q.size := by
  rw [← steps_len, app_steps, List.length_append, steps_len, steps_len]
/-- whole repeats and some steps of the next one -/
theorem motU_rep {p : Ps} (ok : p.ok) (hn : p ≠ .nil) {n k r : Nat} (hk : k < n) (hr : r ≤ p.size) : (Ps.rp p n .nil).motU (k * p.size + r) = cmp (npow (p.motU p.size) k) (p.motU r) := by
  have bp := size_pos ok hn
  have h1 : (k + 1) * p.size ≤ n * p.size := Nat.mul_le_mul_right _ hk
  rw [Nat.add_mul, Nat.one_mul] at h1
  have h2 : n * p.size = p.size * n := Nat.mul_comm ..
  have hm : min (k * p.size + r) (p.size * n) = k * p.size + r := by omega
  show cmp (cmp (npow (p.motU p.size) (min (k * p.size + r) (p.size * n) / p.size)) (p.motU (min (k * p.size + r) (p.size * n) % p.size))) idM = _
  rw [hm, cmp_id _ (cmp_le _ _)]
  by_cases e : r = p.size
  · subst e
    rw [show k * p.size + p.size = (k + 1) * p.size by rw [Nat.add_mul, Nat.one_mul], Nat.mul_div_cancel _ bp, Nat.mul_mod_left, motU_zero, cmp_id _ (npow_le _ _)]
    rfl
  · have hl : r < p.size := by omega
    rw [Nat.mul_comm k, Nat.mul_add_div bp, Nat.mul_add_mod, Nat.div_eq_of_lt hl, Nat.mod_eq_of_lt hl, Nat.add_zero]
theorem motU_wide {p : Ps} (ok : p.ok) (hn : p ≠ .nil) (n : Nat) : (Ps.rp p n .nil).motU (Ps.rp p n .nil).size = npow (p.motU p.size) n := by
  have bp := size_pos ok hn
  show cmp (cmp (npow (p.motU p.size) (min (p.size * n + 0) (p.size * n) / p.size)) (p.motU (min (p.size * n + 0) (p.size * n) % p.size))) idM = _
  rw [cmp_id _ (cmp_le _ _), Nat.add_zero, Nat.min_self, Nat.mul_div_cancel_left _ bp, Nat.mul_mod_right, motU_zero, cmp_id _ (npow_le _ _)]
end WM

set_option Elab.async false
set_option linter.all false
set_option maxRecDepth 100000
set_option maxHeartbeats 4000000
set_option exponentiation.threshold 3000
namespace K15M
open PySem PySem.Spec PyProof.Rows L2 RT K15 M13
open WM (Ps PartsAt letM six)
/-- the two tables -/
def Tb (K : PySem.W.Frag) (w : World) : Prop := (∃ es n, KDict K w (He.ga K "MOVE_SHIFTS") es n) ∧ ∃ es n, KDict K w (He.ga K "TURNS") es n
section
variable {P : Program} {w : World} {K : PySem.W.Frag} {mg : Str → Option Value} {base : Heap}
def spIdx : Sp := fun vs H Q _ => ∃ v m : Int, vs = [.int v, .int m] ∧ 0 ≤ v ∧ v ≤ m ∧ Q .non H
theorem ok_idx (D : Ds K) (T : Tx K mg) : FnOk P w K mg base CX0 3 (dcheck_index.adr K) D.fd_check_index ["index", "most"] spIdx := by
  have G1 : FnOk P w K mg base CX0 2 _ _ _ spWithin := ok_within D T
  refine D.F_check_index.ok sccheck_index (fun vs H Q E h => ?_) (fun cdv A outer s H vs Q E hr h => ?_)
  · obtain ⟨v, m, rfl, _⟩ := h
    rfl
  · obtain ⟨v, m, rfl, h1, h2, q⟩ := h
    refine ⟨_, PSs.nox (pss_one (ps_if (pt_not (pt_val (pe_call G1 hr (by rfl) T.g_is_integer_within D.F_is_integer_within.kp (b_is_integer_within D) .nil pass0 (pa_cons (pv 0) (pa_cons pe_int (pa_cons (pv 1) pa_nil)))))) (pss_one ps_never) pss_nil)), ?_⟩
    refine ⟨_, rfl, _, rfl, v, 0, m, rfl, true, ?_, iteF q⟩
    rw [show (decide ((0 : Int) ≤ v) && decide (v ≤ m)) = true by rw [decide_eq_true h1, decide_eq_true h2]; rfl]
theorem shiftAt (T : Tx K mg) {c : Nat} (hc : c ∈ six) : (PySem.W.nsIn K (He.ga K "MOVE_SHIFTS") ⟨#[c]⟩ = some none ∧ (letM c).2 = (0, 0)) ∨
    ∃ u z, PySem.W.nsIn K (He.ga K "MOVE_SHIFTS") ⟨#[c]⟩ = some (some u) ∧ RelV (.ref z) u ∧ ∀ H : Hp, SqT K H z [.int (letM c).2.1, .int (letM c).2.2] := by
  have e1 : (⟨#[102]⟩ : Str) = "f" := by decide +kernel
  have e2 : (⟨#[98]⟩ : Str) = "b" := by decide +kernel
  have e3 : (⟨#[108]⟩ : Str) = "l" := by decide +kernel
  have e4 : (⟨#[114]⟩ : Str) = "r" := by decide +kernel
  have e5 : (⟨#[117]⟩ : Str) = "u" := by decide +kernel
  have e6 : (⟨#[100]⟩ : Str) = "d" := by decide +kernel
  simp only [six, List.mem_cons, List.not_mem_nil, or_false] at hc
  rcases hc with rfl | rfl | rfl | rfl | rfl | rfl
  · obtain ⟨u, h1, h2⟩ := T.has_MOVE_SHIFTS_f
    exact .inr ⟨u, _, by rw [e1]; exact h1, h2, T.tup_MOVE_SHIFTS_f⟩
  · obtain ⟨u, h1, h2⟩ := T.has_MOVE_SHIFTS_b
    exact .inr ⟨u, _, by rw [e2]; exact h1, h2, T.tup_MOVE_SHIFTS_b⟩
  · exact .inl ⟨by rw [e3]; exact T.mis_MOVE_SHIFTS_l, rfl⟩
  · exact .inl ⟨by rw [e4]; exact T.mis_MOVE_SHIFTS_r, rfl⟩
  · exact .inl ⟨by rw [e5]; exact T.mis_MOVE_SHIFTS_u, rfl⟩
  · exact .inl ⟨by rw [e6]; exact T.mis_MOVE_SHIFTS_d, rfl⟩
theorem turnAt (T : Tx K mg) {c : Nat} (hc : c ∈ six) : (PySem.W.nsIn K (He.ga K "TURNS") ⟨#[c]⟩ = some none ∧ (letM c).1 = 0) ∨
    ∃ u, PySem.W.nsIn K (He.ga K "TURNS") ⟨#[c]⟩ = some (some u) ∧ RelV (.int ((letM c).1 : Int)) u := by
  have e1 : (⟨#[102]⟩ : Str) = "f" := by decide +kernel
  have e2 : (⟨#[98]⟩ : Str) = "b" := by decide +kernel
  have e3 : (⟨#[108]⟩ : Str) = "l" := by decide +kernel
  have e4 : (⟨#[114]⟩ : Str) = "r" := by decide +kernel
  have e5 : (⟨#[117]⟩ : Str) = "u" := by decide +kernel
  have e6 : (⟨#[100]⟩ : Str) = "d" := by decide +kernel
  simp only [six, List.mem_cons, List.not_mem_nil, or_false] at hc
  rcases hc with rfl | rfl | rfl | rfl | rfl | rfl
  · exact .inl ⟨by rw [e1]; exact T.mis_TURNS_f, rfl⟩
  · exact .inl ⟨by rw [e2]; exact T.mis_TURNS_b, rfl⟩
  · obtain ⟨u, h1, h2⟩ := T.has_TURNS_l
    exact .inr ⟨u, by rw [e3]; exact h1, h2⟩
  · obtain ⟨u, h1, h2⟩ := T.has_TURNS_r
    exact .inr ⟨u, by rw [e4]; exact h1, h2⟩
  · exact .inl ⟨by rw [e5]; exact T.mis_TURNS_u, rfl⟩
  · exact .inl ⟨by rw [e6]; exact T.mis_TURNS_d, rfl⟩
def spLet (K : PySem.W.Frag) : Sp := fun vs H Q _ => ∃ c, vs = [.str ⟨#[c]⟩] ∧ c ∈ six ∧ ∀ r H', Same H H' → MoM K H' r (letM c) → Q (.ref r) H'
theorem ok_let (D : Ds K) (T : Tx K mg) (B : Tb K w) : FnOk P w K mg base CX0 5 (dmotion_of_letter.adr K) D.fd_motion_of_letter ["letter"] (spLet K) := by
  have GI : FnOk P w K mg base CX0 3 _ _ _ (spInit K) := ok_init D T
  obtain ⟨⟨es1, n1, B1⟩, es2, n2, B2⟩ := B
  refine D.F_motion_of_letter.ok scmotion_of_letter (fun vs H Q E h => ?_) (fun cdv A outer s H vs Q E hr h => ?_)
  · obtain ⟨c, rfl, _⟩ := h
    rfl
  · obtain ⟨c, rfl, hc, q⟩ := h
    have nd := scmotion_of_letter.nd
    refine ⟨_, PSs.nox (pss_cons (ps_asg (pe_kget2 (pe_glob (v := .ref (He.ga K "MOVE_SHIFTS")) rfl T.g_MOVE_SHIFTS rfl) (pv 0) (pe_tup (pa_cons pe_int (pa_cons pe_int pa_nil))) ⟨rfl, rfl, rfl, rfl⟩) (pg_tup (by rfl) (pgs_cons (pg_name (i := 1) nd rfl (.inl rfl)) (pgs_cons (pg_name (i := 2) nd rfl (.inl rfl)) pgs_nil))))
      (pss_one (ps_ret (pe_make T.k_Motion GI hr (by rfl) T.g_Motion (b_Motion_init D) .nil pass0 (pa_cons (pe_kget2 (pe_glob (v := .ref (He.ga K "TURNS")) rfl T.g_TURNS rfl) (pv 0) pe_int ⟨rfl, rfl, rfl, rfl⟩) (pa_cons (pv 1) (pa_cons (pv 2) pa_nil))))))), ?_⟩
    refine ⟨_, es1, n1, rfl, B1, _, rfl, big2, fun p hp => ⟨_, rfl, ?_⟩⟩
    have sp := same_new (o := .tup [.int 0, .int 0]) hp
    have hle := WM.letM_le c
    rcases shiftAt T hc with ⟨h1, h2⟩ | ⟨u, z, h1, h2, h3⟩
    · refine .inl ⟨h1, p, _, rfl, tupT upd_same, rfl, _, _, rfl, _, _, rfl, rfl, ?_⟩
      have hm : letM c = ((letM c).1, 0, 0) := by
        show ((letM c).1, (letM c).2) = _
        rw [h2]
      rcases turnAt T hc with ⟨k1, k2⟩ | ⟨v, k1, k2⟩
      · refine ⟨_, es2, n2, rfl, B2, _, rfl, _, rfl, .inl ⟨k1, _, rfl, _, rfl, fun x d nx ndx _ => make_i (t := (letM c).1) nx ndx hle (by rw [k2]; rfl) fun H2 s2 mc => ⟨rfl, q x H2 (sp.trans s2) ?_⟩⟩⟩
        rw [hm]
        exact mc
      · refine ⟨_, es2, n2, rfl, B2, _, rfl, _, rfl, .inr ⟨v, _, k1, k2, _, rfl, _, rfl, fun x d nx ndx _ => make_i (t := (letM c).1) nx ndx hle rfl fun H2 s2 mc => ⟨rfl, q x H2 (sp.trans s2) ?_⟩⟩⟩
        rw [hm]
        exact mc
    · refine .inr ⟨u, _, h1, h2, z, _, rfl, h3 _, rfl, _, _, rfl, _, _, rfl, rfl, ?_⟩
      rcases turnAt T hc with ⟨k1, k2⟩ | ⟨v, k1, k2⟩
      · refine ⟨_, es2, n2, rfl, B2, _, rfl, _, rfl, .inl ⟨k1, _, rfl, _, rfl, fun x d nx ndx _ => make_i (t := (letM c).1) nx ndx hle (by rw [k2]; rfl) fun H2 s2 mc => ⟨rfl, q x H2 (sp.trans s2) mc⟩⟩⟩
      · exact ⟨_, es2, n2, rfl, B2, _, rfl, _, rfl, .inr ⟨v, _, k1, k2, _, rfl, _, rfl, fun x d nx ndx _ => make_i (t := (letM c).1) nx ndx hle rfl fun H2 s2 mc => ⟨rfl, q x H2 (sp.trans s2) mc⟩⟩⟩
end
end K15M

set_option Elab.async false
set_option linter.all false
set_option maxRecDepth 100000
set_option maxHeartbeats 4000000
set_option exponentiation.threshold 3000
namespace K15M
open PySem PySem.Spec PyProof.Rows L2 RT K15 M13
open WM (Ps PartsAt letM six)
theorem _root_.WM.motU_id (p : Ps) (i : Nat) : cmp idM (p.motU i) = p.motU i := id_cmp _ (WM.motU_le p i)
/-- one part -/
inductive One : Ps → Prop
  | lf {c n : Nat} : One (.lf c n .nil)
  | rp {b : Ps} {n : Nat} : One (.rp b n .nil)
theorem split {C : Addr} {H : Hp} {x : V} {us : List V} {p : Ps} (h : PartsAt C H (x :: us) p) (ok : p.ok) : ∃ hd r b d fs, x = .ref b ∧ H b = some (.ins C d fs) ∧ fs.lookup ("size" : Str) = some (.int (hd.size : Int)) ∧ PartsAt C H [x] hd ∧ PartsAt C H us r ∧ hd.ok ∧ r.ok ∧
    hd.lev ≤ p.lev ∧ r.lev ≤ p.lev ∧ p.size = hd.size + r.size ∧ ∀ i, p.motU i = cmp (hd.motU (min i hd.size)) (r.motU (i - hd.size)) := by
  cases h with
  | lf h1 h2 h3 =>
    rename_i a d e c n r
    refine ⟨.lf c n .nil, r, a, d, _, rfl, h1, rfl, .lf h1 h2 .nil, h3, ⟨ok.1, trivial⟩, ok.2, Nat.zero_le _, Nat.le_refl _, rfl, fun i => ?_⟩
    show cmp (npow (letM c) (min i n)) (r.motU (i - n)) = cmp (cmp (npow (letM c) (min (min i n) n)) idM) (r.motU (i - n))
    rw [cmp_id _ (npow_le _ _), Nat.min_eq_left (Nat.min_le_right i n)]
  | rp h1 h2 h3 h4 =>
    rename_i a d e n us' b r
    refine ⟨.rp b n .nil, r, a, d, _, rfl, h1, rfl, .rp h1 h2 h3 .nil, h4, ⟨ok.1, ok.2.1, ok.2.2.1, trivial⟩, ok.2.2.2, ?_, Nat.le_max_right _ _, rfl, fun i => ?_⟩
    · show max (1 + b.lev) 0 ≤ max (1 + b.lev) r.lev
      omega
    · show cmp (cmp (npow (b.motU b.size) (min i (b.size * n) / b.size)) (b.motU (min i (b.size * n) % b.size))) (r.motU (i - b.size * n)) = cmp (cmp (cmp (npow (b.motU b.size) (min (min i (b.size * n)) (b.size * n) / b.size)) (b.motU (min (min i (b.size * n)) (b.size * n) % b.size))) idM) (r.motU (i - b.size * n))
      rw [cmp_id _ (cmp_le _ _), Nat.min_eq_left (Nat.min_le_right i _)]
theorem nrm_fit {m : M3} {n e : Nat} (h : WM.nrm m ≤ n) (hn : n < 2 ^ e) : m.2.1.natAbs < 2 ^ e ∧ m.2.2.natAbs < 2 ^ e := by
  have h1 : max m.2.1.natAbs m.2.2.natAbs ≤ n := h
  omega
theorem min_eq (i j : Nat) : (if (j : Int) < (i : Int) then (j : Int) else (i : Int)) = ((min i j : Nat) : Int) := by
  by_cases h : j < i
  · rw [if_pos (by omega), Nat.min_eq_right (by omega)]
  · rw [if_neg (by omega), Nat.min_eq_left (by omega)]
section
variable {P : Program} {w : World} {K : PySem.W.Frag} {mg : Str → Option Value} {base : Heap}
def spIn (K : PySem.W.Frag) (d : Nat) : Sp := fun vs H Q _ => ∃ (a : Addr) (p : Ps) (i : Nat), vs = [.ref a, .int (i : Int)] ∧ PartsAt (He.ga K "Part") H [.ref a] p ∧ p.ok ∧ i ≤ p.size ∧ p.size < 2 ^ 1400 ∧ p.lev < d ∧ ∀ r H', Same H H' → MoM K H' r (p.motU i) → Q (.ref r) H'
def spUntil (K : PySem.W.Frag) (d : Nat) : Sp := fun vs H Q _ => ∃ (a : Addr) (us : List V) (p : Ps) (i : Nat), vs = [.ref a, .int (i : Int)] ∧ SqT K H a us ∧ PartsAt (He.ga K "Part") H us p ∧ p.ok ∧ i ≤ p.size ∧ p.size < 2 ^ 1400 ∧ p.lev < d ∧ ∀ r H', Same H H' → MoM K H' r (p.motU i) → Q (.ref r) H'
theorem ok_until_of (D : Ds K) (T : Tx K mg) (d : Nat) (GP : FnOk P w K mg base CX0 (7 + 2 * d) (d_motion_in_part.adr K) D.fd__motion_in_part ["part", "index"] (spIn K d)) : FnOk P w K mg base CX0 (7 + 2 * d + 1) (d_motion_until.adr K) D.fd__motion_until ["parts", "index"] (spUntil K d) := by
  have GI : FnOk P w K mg base CX0 3 _ _ _ (spInit K) := ok_init D T
  have GA : FnOk P w K mg base CX0 5 _ _ _ (sAdd (MoM K)) := ok_add D T
  refine D.F__motion_until.ok sc_motion_until (fun vs H Q E h => ?_) (fun cdv A outer s H vs Q E hr h => ?_)
  · obtain ⟨a, us, p, i, rfl, _⟩ := h
    rfl
  · obtain ⟨a, us, p, i, rfl, ha, hp, ok, hi, hs, hd, q⟩ := h
    have nd := sc_motion_until.nd
    refine ⟨_, PSs.nox (pss_cons (ps_set (i := 2) nd rfl (.inl rfl) (pe_make T.k_Motion GI (hr.mono (by omega)) (by rfl) T.g_Motion (b_Motion_init D) .nil pass0 (pa_cons pe_int (pa_cons pe_int (pa_cons pe_int pa_nil)))))
      (pss_cons (ps_set (i := 3) nd rfl (.inl rfl) pe_int)
      (pss_cons (ps_while PassesOwn.never (pt_cmpR op_gt (pv 1) pe_int (nomark _))
        (pss_cons (ps_set (i := 4) nd rfl (.inl rfl) (pe_ix ix_tup (pv 0) (pv 3) (fun _ _ => rfl)))
        (pss_cons (ps_set (i := 5) nd rfl (.inl rfl) (pe_callB (call_min2 rfl) (by rfl) T.z_min (by decide +kernel) (pa_cons (pv 1) (pa_cons (pe_fld (pv 4) rfl) pa_nil))))
        (pss_cons (ps_set (i := 2) nd rfl (.inl rfl) (pe_op (op_binO T.f_Motion T.m_Motion_add GA (hr.mono (by omega)) (b_Motion_add D) pass0) (pv 2) (pe_call GP hr (by rfl) T.g__motion_in_part D.F__motion_in_part.kp (b__motion_in_part D) .nil pass0 (pa_cons (pv 4) (pa_cons (pv 5) pa_nil)))))
        (pss_cons (ps_set (i := 1) nd rfl (.inl rfl) (pe_op op_sub (pv 1) (pv 5)))
        (pss_one (ps_set (i := 3) nd rfl (.inl rfl) (pe_op op_add (pv 3) pe_int))))))))
      (pss_one (ps_ret (pv 2)))))), ?_⟩
    refine fun x dx nx ndx _ => make_i (t := 0) nx ndx (by decide) rfl fun H1 s1 m1 => ⟨rfl, ?_⟩
    have m1' : MoM K H1 x idM := m1
    refine ⟨fun m σ H' => ∃ us1 us2 p2 i2 mv r z4 z5, us = us1 ++ us2 ∧ m = us2.length ∧ PartsAt (He.ga K "Part") H' us2 p2 ∧ p2.ok ∧ i2 ≤ p2.size ∧ p2.size < 2 ^ 1400 ∧ p2.lev < d ∧ cmp mv (p2.motU i2) = p.motU i ∧ Same H H' ∧ MoM K H' r mv ∧
      σ = [some (.ref a), some (.int (i2 : Int)), some (.ref r), some (.int (us1.length : Int)), z4, z5], ⟨us.length, [], us, p, i, idM, x, none, none, rfl, rfl, hp.same s1, ok, hi, hs, hd, WM.motU_id p i, s1, m1', rfl⟩, fun m σ H' h => ?_⟩
    obtain ⟨us1, us2, p2, i2, mv, r, z4, z5, rfl, rfl, hp2, ok2, hi2, hs2, hd2, em, sm, mr, rfl⟩ := h
    have hmv : mv.1 ≤ 3 := mr.1
    by_cases h0 : i2 = 0
    · subst h0
      refine ⟨_, rfl, _, _, rfl, rfl, false, rfl, iteF ?_⟩
      rw [WM.motU_zero, cmp_id _ hmv] at em
      exact ⟨_, rfl, q r _ sm (em ▸ mr)⟩
    · refine ⟨_, rfl, _, _, rfl, rfl, true, congrArg V.bl (decide_eq_true (by omega)), iteT ?_⟩
      cases us2 with
      | nil =>
        cases hp2
        exact absurd (Nat.le_zero.mp hi2) h0
      | cons y us2 =>
        obtain ⟨hdp, r2, b, d3, fs, rfl, eb, ez, ph, pr, okh, okr, lh, lr, esz, emo⟩ := split hp2 ok2
        refine ⟨_, fun σ' H'' h => ⟨us2.length, by show us2.length < us2.length + 1; omega, h⟩, ?_⟩
        have g : (us1 ++ V.ref b :: us2)[us1.length]? = some (V.ref b) := by
          rw [List.getElem?_append_right (Nat.le_refl _), Nat.sub_self]
          rfl
        refine ⟨_, rfl, _, rfl, a, _, _, .ref b, rfl, rfl, Same.sqt sm ha, atI_nat g, ?_⟩
        refine ⟨_, rfl, _, rfl, b, _, d3, fs, .int (hdp.size : Int), rfl, eb, T.c_Part, T.n_Part_size, ez, _, _, rfl, ?_⟩
        rw [min_eq]
        obtain ⟨_, dr, sr, er, fr⟩ := id mr
        refine ⟨_, rfl, _, rfl, _, rfl, b, hdp, min i2 hdp.size, rfl, ph, okh, Nat.min_le_right _ _, by omega, by omega, fun r3 H3 s3 m3 => ?_⟩
        have mr3 : MoM K H3 r mv := IsM.same mr s3
        obtain ⟨_, d5, sr5, e5, f5⟩ := id m3
        refine ⟨r, dr, _, rfl, s3 _ _ er, .inl ⟨r3, d5, _, rfl, e5⟩, r, r3, _, _, rfl, mr3, m3, fun r4 H4 s4 m4 => ?_⟩
        refine ⟨_, rfl, _, rfl, _, _, rfl, rfl, _, rfl, _, _, rfl, rfl, ?_⟩
        refine ⟨us1 ++ [.ref b], us2, r2, i2 - hdp.size, _, r4, some (.ref b), some (.int ((min i2 hdp.size : Nat) : Int)), by rw [List.append_assoc]; rfl, rfl, pr.same (s3.trans s4), okr, by omega, by omega, by omega, ?_, sm.trans (s3.trans s4), m4, ?_⟩
        · rw [cmp_assoc, ← emo i2]
          exact em
        · have e1 : ((i2 : Nat) : Int) - ((min i2 hdp.size : Nat) : Int) = ((i2 - hdp.size : Nat) : Int) := by omega
          have e2 : ((us1 ++ [V.ref b]).length : Int) = (us1.length : Int) + 1 := by
            rw [List.length_append]
            rfl
          rw [e2, ← e1]
          rfl
end
end K15M

set_option Elab.async false
set_option linter.all false
set_option maxRecDepth 100000
set_option maxHeartbeats 4000000
set_option exponentiation.threshold 3000
namespace K15M
open PySem PySem.Spec PyProof.Rows L2 RT K15 M13
open WM (Ps PartsAt letM six)
theorem pow1500 : (2 : Nat) ^ 1400 < 2 ^ 1500 := Nat.pow_lt_pow_right (by decide) (by decide)
section
variable {P : Program} {w : World} {K : PySem.W.Frag} {mg : Str → Option Value} {base : Heap}
theorem ok_in_of (D : Ds K) (T : Tx K mg) (B : Tb K w) (d : Nat) (GU : FnOk P w K mg base CX0 (7 + 2 * d + 1) (d_motion_until.adr K) D.fd__motion_until ["parts", "index"] (spUntil K d)) : FnOk P w K mg base CX0 (7 + 2 * d + 1 + 1) (d_motion_in_part.adr K) D.fd__motion_in_part ["part", "index"] (spIn K (d + 1)) := by
  have GL : FnOk P w K mg base CX0 5 _ _ _ (spLet K) := ok_let D T B
  have GM : FnOk P w K mg base CX0 6 _ _ _ (sMul (MoM K)) := ok_mul D T
  have GA : FnOk P w K mg base CX0 5 _ _ _ (sAdd (MoM K)) := ok_add D T
  refine D.F__motion_in_part.ok sc_motion_in_part (fun vs H Q E h => ?_) (fun cdv A outer s H vs Q E hr h => ?_)
  · obtain ⟨a, p, i, rfl, _⟩ := h
    rfl
  · obtain ⟨a, p, i, rfl, hp, ok, hi, hs, hd, q⟩ := h
    have nd := sc_motion_in_part.nd
    have p15 := pow1500
    refine ⟨_, PSs.nox (pss_cons (ps_if (pt_not (pt_truth (pe_fld (pv 0) rfl) (by intro _; rfl))) (pss_one (ps_ret (pe_op (op_binO T.f_Motion T.m_Motion_mul GM (hr.mono (by omega)) (b_Motion_mul D) pass0) (pe_call GL (hr.mono (by omega)) (by rfl) T.g_motion_of_letter D.F_motion_of_letter.kp (b_motion_of_letter D) .nil pass0 (pa_cons (pe_fld (pv 0) rfl) pa_nil)) (pv 1)))) pss_nil)
      (pss_cons (ps_set (i := 2) nd rfl (.inl rfl) (pe_op (op_binO T.f_Motion T.m_Motion_mul GM (hr.mono (by omega)) (b_Motion_mul D) pass0) (pe_call GU hr (by rfl) T.g__motion_until D.F__motion_until.kp (b__motion_until D) .nil pass0 (pa_cons (pe_fld (pv 0) rfl) (pa_cons (pe_fld (pv 0) rfl) pa_nil))) (pe_op op_fdivW (pv 1) (pe_fld (pv 0) rfl))))
      (pss_one (ps_ret (pe_op (op_binO T.f_Motion T.m_Motion_add GA (hr.mono (by omega)) (b_Motion_add D) pass0) (pv 2) (pe_call GU hr (by rfl) T.g__motion_until D.F__motion_until.kp (b__motion_until D) .nil pass0 (pa_cons (pe_fld (pv 0) rfl) (pa_cons (pe_op op_mod (pv 1) (pe_fld (pv 0) rfl)) pa_nil)))))))), ?_⟩
    cases hp with
    | lf h1 h2 h3 =>
      rename_i d1 e c n r
      cases h3
      have hn : i ≤ n := hi
      have hT : n ≤ WM.T30 := ok.1.2.2
      refine ⟨_, rfl, a, _, d1, _, .ref e, rfl, h1, T.c_Part, T.n_Part_inner, rfl, false, .inr (.inl ⟨[], tupT h2, rfl⟩), iteT ?_⟩
      refine ⟨_, rfl, a, _, d1, _, _, rfl, h1, T.c_Part, T.n_Part_letter, rfl, c, rfl, ok.1.1, fun r1 H1 s1 m1 => ?_⟩
      obtain ⟨_, d5, sr5, e5, f5⟩ := id m1
      have hf := nrm_fit (e := 1500) (WM.nrm_let c) (by decide +kernel)
      refine ⟨_, rfl, r1, d5, _, rfl, e5, .inr ⟨_, .base (.base (.int _)), T.r_Motion_Mult_int⟩, r1, i, _, rfl, m1, by show (-1000000000000000000000000000000 : Int) ≤ i; omega, ?_, hf.1, hf.2, fun r2 H2 s2 m2 => ?_⟩
      · have : WM.T30 = 1000000000000000000000000000000 := by decide
        show (i : Int) ≤ 1000000000000000000000000000000
        omega
      · refine q r2 H2 (s1.trans s2) ?_
        show MoM K H2 r2 (cmp (npow (letM c) (min i n)) idM)
        rw [cmp_id _ (npow_le _ _), Nat.min_eq_left hn]
        exact m2
    | rp h1 h2 h3 h4 =>
      rename_i d1 e n us b r
      cases h4
      obtain ⟨hbn, okb, hn, _⟩ := ok
      have bp := WM.size_pos okb hbn
      have hsz : (Ps.rp b n .nil).size = b.size * n := rfl
      rw [hsz] at hi hs
      have hb1 : b.size ≤ b.size * n := Nat.le_mul_of_pos_right _ (by omega)
      have hlb : b.lev < d := by
        have h : max (1 + b.lev) 0 < d + 1 := hd
        omega
      have ne : us ≠ [] := by
        intro z
        subst z
        cases h3
        exact hbn rfl
      have hq : i / b.size ≤ n := Nat.div_le_of_le_mul hi
      have hmod : i % b.size < b.size := Nat.mod_lt _ bp
      have hT : (WM.T30 : Nat) = 1000000000000000000000000000000 := by decide
      have hq2 : (((i / b.size : Nat)) : Int) ≤ 1000000000000000000000000000000 := by omega
      refine ⟨_, rfl, a, _, d1, _, .ref e, rfl, h1, T.c_Part, T.n_Part_inner, rfl, true, .inr (.inl ⟨us, tupT h2, by cases us with | nil => exact absurd rfl ne | cons y us => rfl⟩), iteF ?_⟩
      refine ⟨_, rfl, a, _, d1, _, .ref e, rfl, h1, T.c_Part, T.n_Part_inner, rfl, _, rfl, a, _, d1, _, _, rfl, h1, T.c_Part, T.n_Part_unit, rfl, e, us, b, b.size, rfl, tupT h2, h3, okb, Nat.le_refl _, by omega, hlb, fun r1 H1 s1 m1 => ?_⟩
      obtain ⟨_, d5, sr5, e5, f5⟩ := id m1
      have hf := nrm_fit (e := 1500) (WM.nrm_motU b b.size) (by omega)
      refine ⟨_, rfl, _, rfl, a, _, d1, _, _, rfl, s1 _ _ h1, T.c_Part, T.n_Part_unit, rfl, _, _, rfl, rfl, wide_div (b := 1400) (by omega) (by show ((b.size : Int)).natAbs < _; omega) (by decide) (by decide), ?_⟩
      refine ⟨r1, d5, _, rfl, e5, .inr ⟨_, .base (.base (.int _)), T.r_Motion_Mult_int⟩, r1, ((i / b.size : Nat) : Int), _, rfl, m1, Int.le_trans (by decide) (Int.natCast_nonneg _), hq2, hf.1, hf.2, fun r2 H2 s2 m2 => ?_⟩
      have m2' : MoM K H2 r2 (npow (b.motU b.size) (i / b.size)) := m2
      refine ⟨_, rfl, _, rfl, a, _, d1, _, .ref e, rfl, s2 _ _ (s1 _ _ h1), T.c_Part, T.n_Part_inner, rfl, _, rfl, _, rfl, a, _, d1, _, _, rfl, s2 _ _ (s1 _ _ h1), T.c_Part, T.n_Part_unit, rfl, _, _, rfl, rfl, by show (0 : Int) < (b.size : Int); omega, ?_⟩
      refine ⟨e, us, b, i % b.size, rfl, tupT (s2 _ _ (s1 _ _ h2)), h3.same (s1.trans s2), okb, Nat.le_of_lt hmod, by omega, hlb, fun r3 H3 s3 m3 => ?_⟩
      obtain ⟨_, d6, sr6, e6, f6⟩ := id m2'
      obtain ⟨_, d7, sr7, e7, f7⟩ := id m3
      refine ⟨r2, d6, _, rfl, s3 _ _ e6, .inl ⟨r3, d7, _, rfl, e7⟩, r2, r3, _, _, rfl, IsM.same m2' s3, m3, fun r4 H4 s4 m4 => ?_⟩
      refine q r4 H4 (s1.trans (s2.trans (s3.trans s4))) ?_
      show MoM K H4 r4 (cmp (cmp (npow (b.motU b.size) (min i (b.size * n) / b.size)) (b.motU (min i (b.size * n) % b.size))) idM)
      rw [cmp_id _ (cmp_le _ _), Nat.min_eq_left hi]
      exact m4
theorem ok_in0 (D : Ds K) (T : Tx K mg) : FnOk P w K mg base CX0 7 (d_motion_in_part.adr K) D.fd__motion_in_part ["part", "index"] (spIn K 0) := by
  refine D.F__motion_in_part.ok sc_motion_in_part (fun vs H Q E h => ?_) (fun cdv A outer s H vs Q E hr h => ?_)
  · obtain ⟨a, p, i, rfl, _⟩ := h
    rfl
  · obtain ⟨a, p, i, rfl, _, _, _, _, hd, _⟩ := h
    exact absurd hd (Nat.not_lt_zero _)
theorem ok_both (D : Ds K) (T : Tx K mg) (B : Tb K w) : ∀ d, FnOk P w K mg base CX0 (7 + 2 * d) (d_motion_in_part.adr K) D.fd__motion_in_part ["part", "index"] (spIn K d) ∧ FnOk P w K mg base CX0 (7 + 2 * d + 1) (d_motion_until.adr K) D.fd__motion_until ["parts", "index"] (spUntil K d)
  | 0 => ⟨ok_in0 D T, ok_until_of D T 0 (ok_in0 D T)⟩
  | d + 1 => by
    have h := (ok_both D T B d).2
    have h1 : FnOk P w K mg base CX0 (7 + 2 * (d + 1)) (d_motion_in_part.adr K) D.fd__motion_in_part ["part", "index"] (spIn K (d + 1)) := by
      have e1 : 7 + 2 * d + 1 = 6 + 2 * (d + 1) := by omega
      have e2 : 7 + 2 * (d + 1) = 7 + 2 * d + 1 + 1 := by omega
      rw [e2]
      exact ok_in_of D T B d h
    exact ⟨h1, ok_until_of D T (d + 1) h1⟩
end
end K15M

set_option Elab.async false
set_option linter.all false
set_option maxRecDepth 100000
set_option maxHeartbeats 4000000
set_option exponentiation.threshold 3000
namespace K15M
open PySem PySem.Spec PyProof.Rows L2 RT K15 M13
open WM (Ps PartsAt letM six)
theorem size_bd {p : Ps} (h : p.ok) (hl : p.lev ≤ 12) (hw : p.words.length ≤ 1000) : p.size < 2 ^ 1400 := by
  have h1 := WM.size_le p h
  have h2 : (2 : Nat) ^ (100 * (p.lev + 1)) ≤ 2 ^ 1300 := Nat.pow_le_pow_right (by decide) (by omega)
  have h3 : p.words.length * 2 ^ (100 * (p.lev + 1)) ≤ 1000 * 2 ^ 1300 := Nat.mul_le_mul hw h2
  have h4 : 1000 * (2 : Nat) ^ 1300 < 2 ^ 1400 := by decide +kernel
  omega
section
variable {P : Program} {w : World} {K : PySem.W.Frag} {mg : Str → Option Value} {base : Heap}
theorem b_pose_after0 (D : Ds K) : ∃ ds, Vals [.ref (HQ.kwAt "pose_after" "start" K)] ds ∧ Binds K D.fd_pose_after ["program", "index", "start"] ds :=
  D.F_pose_after.binds0 2 (fun z => nomatch z) rfl fun D doc pm an cdv ct us ks l1 l2 => match us, ks, l1, l2 with
    | [_, _], [_], _, _ => ⟨_, _, _, _, _, _, rfl, rfl, rfl⟩
theorem b_pose_afterK (D : Ds K) : ∃ mv : List Value, KBn K D.fd_pose_after ["program", "index", "start"] 2 ["start"] (fun us ws => us ++ ws) (fun vs zs => vs ++ zs) :=
  D.F_pose_after.kbinds0 2 ["start"] [] (fun us _ ws => us ++ ws) (fun z => nomatch z) (fun _ h => nomatch h) (fun a _ b => a.append b) fun D doc pm an cdv ct us mv ws l1 l2 l3 => match us, mv, ws, l1, l2, l3 with
    | [_, _], [], [_], _, _, _ => rfl
def spMof (K : PySem.W.Frag) : Sp := fun vs H Q _ => ∃ (a : Addr) (p : Ps), vs = [.ref a] ∧ K15P.IsP K H a p ∧ ∀ r H', Same H H' → MoM K H' r (p.motU p.size) → Q (.ref r) H'
theorem ok_mof (D : Ds K) (T : Tx K mg) (B : Tb K w) : FnOk P w K mg base CX0 35 (dmotion_of.adr K) D.fd_motion_of ["program"] (spMof K) := by
  have GU : FnOk P w K mg base CX0 34 _ _ _ (spUntil K 13) := (ok_both D T B 13).2
  have GC : FnOk P w K mg base CX0 1 _ _ _ (K15P.spCheckP K) := K15P.ok_checkP D T
  have GL : FnOk P w K mg base CX0 1 _ _ _ (K15P.spLength K) := K15P.ok_length D T
  refine D.F_motion_of.ok scmotion_of (fun vs H Q E h => ?_) (fun cdv A outer s H vs Q E hr h => ?_)
  · obtain ⟨a, p, rfl, _⟩ := h
    rfl
  · obtain ⟨a, p, rfl, hp, q⟩ := h
    refine ⟨_, PSs.nox (pss_cons (ps_expr (pe_call GC (hr.mono (by decide)) (by rfl) T.g_check_program D.F_check_program.kp (b_check_program D) .nil pass0 (pa_cons (pv 0) pa_nil)))
      (pss_one (ps_ret (pe_call GU hr (by rfl) T.g__motion_until D.F__motion_until.kp (b__motion_until D) .nil pass0 (pa_cons (pe_fld (pv 0) rfl) (pa_cons (pe_prop (pv 0) T.c_Program T.p_Program_length GL (hr.mono (by decide)) (b_Program_length D) .nil pass0 rfl) pa_nil)))))), ?_⟩
    obtain ⟨ok, hl, hw, d, wd, t, us, e1, e2, e3, e4⟩ := id hp
    exact ⟨_, rfl, a, p, rfl, hp, _, rfl, a, _, d, _, .ref t, rfl, e1, T.c_Program, T.n_Program__parts, rfl, _, rfl, a, d, _, rfl, e1, a, p, rfl, hp, t, us, p, p.size, rfl, tupT e3, e4, ok, Nat.le_refl _, size_bd ok hl hw, Nat.lt_succ_of_le hl, q⟩
def spPoseAfter (K : PySem.W.Frag) : Sp := fun vs H Q _ => ∃ (a st : Addr) (p : Ps) (i : Nat) (x y : Int) (h : Nat), vs = [.ref a, .int (i : Int), .ref st] ∧ K15P.IsP K H a p ∧ i ≤ p.size ∧ SqT K H st [.int x, .int y, .int h] ∧ h ≤ 3 ∧
  ∀ r H', Same H H' → H r = none → poseO H' r (act (p.motU i) (x, y, h)) → Q (.ref r) H'
theorem ok_poseafter (D : Ds K) (T : Tx K mg) (B : Tb K w) : FnOk P w K mg base CX0 35 (dpose_after.adr K) D.fd_pose_after ["program", "index", "start"] (spPoseAfter K) := by
  have GU : FnOk P w K mg base CX0 34 _ _ _ (spUntil K 13) := (ok_both D T B 13).2
  have GC : FnOk P w K mg base CX0 1 _ _ _ (K15P.spCheckP K) := K15P.ok_checkP D T
  have GL : FnOk P w K mg base CX0 1 _ _ _ (K15P.spLength K) := K15P.ok_length D T
  have GI : FnOk P w K mg base CX0 3 _ _ _ spIdx := ok_idx D T
  have GP : FnOk P w K mg base CX0 4 _ _ _ (spCheckPose K) := ok_checkpose D T
  have GM : FnOk P w K mg base CX0 5 _ _ _ (spCall K) := ok_call D T
  refine D.F_pose_after.ok scpose_after (fun vs H Q E h => ?_) (fun cdv A outer s H vs Q E hr h => ?_)
  · obtain ⟨a, st, p, i, x, y, h, rfl, _⟩ := h
    rfl
  · obtain ⟨a, st, p, i, x, y, h, rfl, hp, hi, hs, hh, q⟩ := h
    have nd := scpose_after.nd
    refine ⟨_, PSs.nox (pss_cons (ps_expr (pe_call GC (hr.mono (by decide)) (by rfl) T.g_check_program D.F_check_program.kp (b_check_program D) .nil pass0 (pa_cons (pv 0) pa_nil)))
      (pss_cons (ps_expr (pe_call GI (hr.mono (by decide)) (by rfl) T.g_check_index D.F_check_index.kp (b_check_index D) .nil pass0 (pa_cons (pv 1) (pa_cons (pe_prop (pv 0) T.c_Program T.p_Program_length GL (hr.mono (by decide)) (b_Program_length D) .nil pass0 rfl) pa_nil))))
      (pss_cons (ps_expr (pe_call GP (hr.mono (by decide)) (by rfl) T.g_check_pose D.F_check_pose.kp (b_check_pose D) .nil pass0 (pa_cons (pv 2) pa_nil)))
      (pss_cons (ps_set (i := 3) nd rfl (.inl rfl) (pe_call GU hr (by rfl) T.g__motion_until D.F__motion_until.kp (b__motion_until D) .nil pass0 (pa_cons (pe_fld (pv 0) rfl) (pa_cons (pv 1) pa_nil))))
      (pss_one (ps_ret (pe_callO (i := 3) T.m_Motion_call T.fn_Motion_call GM (hr.mono (by decide)) (by rfl) (.inl rfl) (b_Motion_call D) pass0 (pa_cons (pv 2) pa_nil)))))))), ?_⟩
    obtain ⟨ok, hl, hw, d, wd, t, us, e1, e2, e3, e4⟩ := id hp
    refine ⟨_, rfl, a, p, rfl, hp, _, rfl, _, rfl, a, d, _, rfl, e1, a, p, rfl, hp, i, p.size, rfl, Int.natCast_nonneg _, Int.ofNat_le.mpr hi, _, rfl, st, x, y, h, rfl, hs, hh, fun H1 s1 => ?_⟩
    refine ⟨_, rfl, a, _, d, _, .ref t, rfl, s1 _ _ e1, T.c_Program, T.n_Program__parts, rfl, _, rfl, t, us, p, i, rfl, tupT (s1 _ _ e3), e4.same s1, ok, hi, size_bd ok hl hw, Nat.lt_succ_of_le hl, fun r H2 s2 m2 => ?_⟩
    obtain ⟨ht, d5, sr5, e5, f5⟩ := id m2
    refine ⟨r, rfl, _, rfl, ⟨d5, _, e5⟩, r, st, _, _, _, x, y, h, rfl, m2, Same.sqt (s1.trans s2) hs, hh, fun z H3 s3 nz ez => ?_⟩
    refine q z H3 (s1.trans (s2.trans s3)) (Same.free (s1.trans s2) nz) ⟨ez, ?_⟩
    show (h + (p.motU i).1) % 4 ≤ 3
    omega
end
end K15M

set_option Elab.async false
set_option linter.all false
set_option maxRecDepth 100000
set_option maxHeartbeats 4000000
set_option exponentiation.threshold 3000
namespace K15M
open PySem PySem.Spec PyProof.Rows L2 RT K15 M13
open WM (Ps PartsAt letM six stM)
def b2 (b : Bool) : Int := if b then 1 else 0
theorem sixAt {c : Nat} (hc : c ∈ six) : ∃ f b l r : Bool, (V.bl (decide (V.str ⟨#[c]⟩ = V.str "f")) = V.bl f) ∧ (V.bl (decide (V.str ⟨#[c]⟩ = V.str "b")) = V.bl b) ∧ (V.bl (decide (V.str ⟨#[c]⟩ = V.str "l")) = V.bl l) ∧ (V.bl (decide (V.str ⟨#[c]⟩ = V.str "r")) = V.bl r) ∧
    ((letM c).1 : Int) = b2 l + 3 * b2 r ∧ (letM c).2 = (b2 f - b2 b, 0) := by
  simp only [six, List.mem_cons, List.not_mem_nil, or_false] at hc
  rcases hc with rfl | rfl | rfl | rfl | rfl | rfl
  · exact ⟨true, false, false, false, by decide +kernel, by decide +kernel, by decide +kernel, by decide +kernel, rfl, rfl⟩
  · exact ⟨false, true, false, false, by decide +kernel, by decide +kernel, by decide +kernel, by decide +kernel, rfl, rfl⟩
  · exact ⟨false, false, true, false, by decide +kernel, by decide +kernel, by decide +kernel, by decide +kernel, rfl, rfl⟩
  · exact ⟨false, false, false, true, by decide +kernel, by decide +kernel, by decide +kernel, by decide +kernel, rfl, rfl⟩
  · exact ⟨false, false, false, false, by decide +kernel, by decide +kernel, by decide +kernel, by decide +kernel, rfl, rfl⟩
  · exact ⟨false, false, false, false, by decide +kernel, by decide +kernel, by decide +kernel, by decide +kernel, rfl, rfl⟩
theorem dirAt {h : Nat} (hh : h ≤ 3) : atI [V.int 1, V.int 0, V.int (-1), V.int 0] (h : Int) = some (.int (rot h (1, 0)).1) ∧ atI [V.int 0, V.int 1, V.int 0, V.int (-1)] (h : Int) = some (.int (rot h (1, 0)).2) ∧ (rot h (1, 0)).1.natAbs ≤ 1 ∧ (rot h (1, 0)).2.natAbs ≤ 1 := by
  rcases le3 hh with rfl | rfl | rfl | rfl
  · exact ⟨rfl, rfl, by decide, by decide⟩
  · exact ⟨rfl, rfl, by decide, by decide⟩
  · exact ⟨rfl, rfl, by decide, by decide⟩
  · exact ⟨rfl, rfl, by decide, by decide⟩
theorem rot_unit (h : Nat) (s : Int) : rot h (s, 0) = (s * (rot h (1, 0)).1, s * (rot h (1, 0)).2) := by
  have := rot_smul h s (1, 0)
  simp only [Int.mul_one, Int.mul_zero] at this
  exact this
theorem Same.trans_upd {H H' : Hp} {l : Addr} {o : HO} (h : Same H H') (n : H l = none) : Same H (upd H' l o) := fun b x e => by
  rw [upd_ne (ne_of_none e n)]
  exact h b x e
section
variable {P : Program} {w : World} {K : PySem.W.Frag} {mg : Str → Option Value} {base : Heap}
def spPoses (K : PySem.W.Frag) : Sp := fun vs H Q _ => ∃ (S : Str) (f : Addr), vs = [.str S, .ref f] ∧ SqT K H f [.int 0, .int 0, .int 0] ∧ (∀ c ∈ S.cps.toList, c ∈ six) ∧ S.cps.size ≤ 1000 ∧
  ∀ l acc z H', Same H H' → H' l = some (.lst (acc ++ [.ref z])) → SqT K H' z [.int (stM S.cps.toList).2.1, .int (stM S.cps.toList).2.2, .int ((stM S.cps.toList).1 : Int)] → Q (.ref l) H'
theorem ok_poses (D : Ds K) (T : Tx K mg) : FnOk P w K mg base CX0 1 (d_law_poses.adr K) D.fd__law_poses ["steps", "first"] (spPoses K) := by
  refine D.F__law_poses.ok sc_law_poses (fun vs H Q E h => ?_) (fun cdv A outer s H vs Q E hr h => ?_)
  · obtain ⟨S, f, rfl, _⟩ := h
    rfl
  · obtain ⟨S, f, rfl, hf, hS, hl, q⟩ := h
    have nd := sc_law_poses.nd
    refine ⟨_, PSs.nox (pss_cons (ps_asg (pv 1) (pg_tup (by rfl) (pgs_cons (pg_name (i := 2) nd rfl (.inl rfl)) (pgs_cons (pg_name (i := 3) nd rfl (.inl rfl)) (pgs_cons (pg_name (i := 4) nd rfl (.inl rfl)) pgs_nil)))))
        (pss_cons (ps_set (i := 5) nd rfl (.inl rfl) (pe_lst (pa_cons (pv 1) pa_nil)))
        (pss_cons (ps_for PassesOwn.never rfl (pi_str (pv 0)) (pg_name (i := 6) nd rfl (.inl rfl))
      (pss_cons (ps_set (i := 7) nd rfl (.inl rfl) (pe_op op_sub (pe_callTy call_int1 (by rfl) T.z_int (by decide +kernel) (pa_cons (pe_cmpR op_eq (pv 6) pe_str (nomark _)) pa_nil)) (pe_callTy call_int1 (by rfl) T.z_int (by decide +kernel) (pa_cons (pe_cmpR op_eq (pv 6) pe_str (nomark _)) pa_nil))))
        (pss_cons (ps_set (i := 2) nd rfl (.inl rfl) (pe_op op_add (pv 2) (pe_op op_mulW (pv 7) (pe_ix ix_list (pe_lst (pa_cons pe_int (pa_cons pe_int (pa_cons (pe_un un_neg pe_int) (pa_cons pe_int pa_nil))))) (pv 4) (fun _ _ => rfl)))))
        (pss_cons (ps_set (i := 3) nd rfl (.inl rfl) (pe_op op_add (pv 3) (pe_op op_mulW (pv 7) (pe_ix ix_list (pe_lst (pa_cons pe_int (pa_cons pe_int (pa_cons pe_int (pa_cons (pe_un un_neg pe_int) pa_nil))))) (pv 4) (fun _ _ => rfl)))))
        (pss_cons (ps_set (i := 4) nd rfl (.inl rfl) (pe_op op_mod (pe_op op_add (pe_op op_add (pv 4) (pe_callTy call_int1 (by rfl) T.z_int (by decide +kernel) (pa_cons (pe_cmpR op_eq (pv 6) pe_str (nomark _)) pa_nil))) (pe_op op_mulW pe_int (pe_callTy call_int1 (by rfl) T.z_int (by decide +kernel) (pa_cons (pe_cmpR op_eq (pv 6) pe_str (nomark _)) pa_nil)))) pe_int))
        (pss_one (ps_expr (pe_bm PySem.F.plainAttrs_list PySem.F.slot_list_append PySem.F.type_list_append mt_append (pv 5) (pa_cons (pe_tup (pa_cons (pv 2) (pa_cons (pv 3) (pa_cons (pv 4) pa_nil)))) pa_nil)))))))))
        (pss_one (ps_ret (pv 5)))))), ?_⟩
    refine ⟨_, rfl, f, _, rfl, hf, rfl, _, _, rfl, _, _, rfl, _, _, rfl, rfl, ?_⟩
    refine ⟨_, rfl, by show 1 ≤ sizeLine; decide, fun l hnl => ?_⟩
    have sl := same_new (o := .lst [.ref f]) hnl
    refine ⟨_, rfl, S, rfl, ?_⟩
    refine for_it walk_str (fun i σ H' => ∃ (acc : List V) (z : Addr) (z6 z7 : Option V), Same H H' ∧ H' l = some (.lst (acc ++ [.ref z])) ∧ acc.length = i ∧ SqT K H' z [.int (stM (S.cps.toList.take i)).2.1, .int (stM (S.cps.toList.take i)).2.2, .int ((stM (S.cps.toList.take i)).1 : Int)] ∧
        σ = [some (.str S), some (.ref f), some (.int (stM (S.cps.toList.take i)).2.1), some (.int (stM (S.cps.toList.take i)).2.2), some (.int ((stM (S.cps.toList.take i)).1 : Int)), some (.ref l), z6, z7])
      ⟨[], f, none, none, sl, upd_same, rfl, Same.sqt sl hf, rfl⟩ (fun _ _ _ _ _ => True.intro) (fun i x σ' H1 H' hi hp hy => ?_) fun σ' H' hp => ?_
    · obtain ⟨acc, z, z6, z7, sm, el, la, ez, rfl⟩ := hp
      obtain ⟨rfl, c, hc, rfl⟩ := hy
      have hc2 : S.cps.toList[i]? = some c := by
        rw [Array.getElem?_toList]
        exact hc
      have c6 : c ∈ six := hS c (List.mem_of_getElem? hc2)
      have ta : S.cps.toList.take (i + 1) = S.cps.toList.take i ++ [c] := by
        rw [List.take_succ, hc2]
        rfl
      rw [ta, WM.stM_app, WM.stM_one]
      have hle := WM.stM_le (S.cps.toList.take i)
      obtain ⟨⟨t0, x0, y0⟩, em⟩ : ∃ m, m = stM (S.cps.toList.take i) := ⟨_, rfl⟩
      rw [← em] at hle ez ⊢
      obtain ⟨bf, bb, bl, br, hf1, hb1, hl1, hr1, e1, e2⟩ := sixAt c6
      have hle : t0 ≤ 3 := hle
      obtain ⟨d1, d2, n1, n2⟩ := dirAt hle
      have hsg : (b2 bf - b2 bb).natAbs < 2 ^ 10 := by cases bf <;> cases bb <;> decide
      have one : ∀ {k : Int}, k.natAbs ≤ 1 → k.natAbs < 2 ^ 10 := fun h => Nat.lt_of_le_of_lt h (by decide)
      refine ⟨_, rfl, rfl, .inr ⟨bf, congrArg (fun z => [z]) hf1, _, rfl, rfl, .inr ⟨bb, congrArg (fun z => [z]) hb1, b2 bf, b2 bb, rfl, rfl, ?_⟩⟩⟩
      refine ⟨_, rfl, _, rfl, _, rfl, by show 4 ≤ sizeLine; decide, fun p1 hp1 => ⟨_, rfl, p1, _, (t0 : Int), _, rfl, rfl, lstL upd_same, d1, _, _, rfl, rfl, wide_mul (a := 10) (b := 10) hsg (one n1) (by decide) (by decide) (by decide), _, _, rfl, rfl, ?_⟩⟩
      have sp1 := same_new (o := .lst [.int 1, .int 0, .int (-1), .int 0]) hp1
      refine ⟨_, rfl, _, rfl, _, rfl, by show 4 ≤ sizeLine; decide, fun p2 hp2 => ⟨_, rfl, p2, _, (t0 : Int), _, rfl, rfl, lstL upd_same, d2, _, _, rfl, rfl, wide_mul (a := 10) (b := 10) hsg (one n2) (by decide) (by decide) (by decide), _, _, rfl, rfl, ?_⟩⟩
      have sp2 := sp1.trans (same_new (o := .lst [.int 0, .int 1, .int 0, .int (-1)]) hp2)
      have h3r : (b2 br).natAbs < 2 ^ 10 := by cases br <;> decide
      refine ⟨_, rfl, _, rfl, rfl, .inr ⟨bl, congrArg (fun z => [z]) hl1, _, b2 bl, rfl, rfl, _, rfl, rfl, .inr ⟨br, congrArg (fun z => [z]) hr1, 3, b2 br, rfl, rfl, wide_mul (a := 10) (b := 10) (by decide) h3r (by decide) (by decide) (by decide), _, _, rfl, rfl, _, _, rfl, rfl, by show (0 : Int) < 4; decide, ?_⟩⟩⟩
      refine ⟨_, rfl, .inl ⟨rfl, _, lstL (sp2 _ _ el)⟩, _, rfl, _, rfl, _, rfl, by show 3 ≤ sizeLine; decide, fun z2 hz2 => ⟨l, _, .ref z2, rfl, rfl, same_new hz2 _ _ (sp2 _ _ el), ?_, ?_⟩⟩
      · rw [List.length_append, la]
        show i + 1 < sizeLine
        exact Nat.lt_of_lt_of_le (show i + 1 < 1002 by omega) (by decide)
      · have s3 := sp2.trans (same_new (o := .tup [.int (x0 + (b2 bf - b2 bb) * (rot t0 (1, 0)).1), .int (y0 + (b2 bf - b2 bb) * (rot t0 (1, 0)).2), .int (((t0 : Int) + b2 bl + 3 * b2 br) % 4)]) hz2)
        have nz : z2 ≠ l := Ne.symm (ne_of_none (sp2 _ _ el) hz2)
        have ec : cmp (t0, x0, y0) (letM c) = ((t0 + (letM c).1) % 4, x0 + (b2 bf - b2 bb) * (rot t0 (1, 0)).1, y0 + (b2 bf - b2 bb) * (rot t0 (1, 0)).2) := by
          show ((t0 + (letM c).1) % 4, x0 + (rot t0 (letM c).2).1, y0 + (rot t0 (letM c).2).2) = _
          rw [e2, rot_unit]
        have et : ((t0 : Int) + b2 bl + 3 * b2 br) % 4 = (((t0 + (letM c).1) % 4 : Nat) : Int) := by omega
        rw [ec]
        refine ⟨acc ++ [.ref z], z2, some (.str ⟨#[c]⟩), some (.int (b2 bf - b2 bb)), (Same.trans_upd (sm.trans s3) hnl), upd_same, by rw [List.length_append, la]; rfl, tupT ?_, ?_⟩
        · rw [upd_ne nz, upd_same]
          show some (HO.tup [_, _, V.int (((t0 : Int) + b2 bl + 3 * b2 br) % 4)]) = some (HO.tup [_, _, V.int (((t0 + (letM c).1) % 4 : Nat) : Int)])
          rw [et]
        · show _ = [_, _, _, _, some (V.int (((t0 + (letM c).1) % 4 : Nat) : Int)), _, _, _]
          rw [← et]
          rfl
    · obtain ⟨acc, z, z6, z7, sm, el, la, ez, rfl⟩ := hp
      have tk : S.cps.toList.take S.cps.size = S.cps.toList := List.take_of_length_le (by rw [Array.length_toList]; exact Nat.le_refl _)
      rw [tk] at ez
      exact ⟨_, rfl, q l acc z _ sm el ez⟩
def spLMo (K : PySem.W.Frag) : Sp := fun vs H Q _ => ∃ S : Str, vs = [.str S] ∧ (∀ c ∈ S.cps.toList, c ∈ six) ∧ S.cps.size ≤ 1000 ∧ ∀ r H', Same H H' → MoM K H' r (stM S.cps.toList) → Q (.ref r) H'
theorem ok_lmo (D : Ds K) (T : Tx K mg) : FnOk P w K mg base CX0 5 (d_law_motion.adr K) D.fd__law_motion ["steps"] (spLMo K) := by
  have GP : FnOk P w K mg base CX0 1 _ _ _ (spPoses K) := ok_poses D T
  have GI : FnOk P w K mg base CX0 3 _ _ _ (spInit K) := ok_init D T
  refine D.F__law_motion.ok sc_law_motion (fun vs H Q E h => ?_) (fun cdv A outer s H vs Q E hr h => ?_)
  · obtain ⟨S, rfl, _⟩ := h
    rfl
  · obtain ⟨S, rfl, hS, hl, q⟩ := h
    have nd := sc_law_motion.nd
    refine ⟨_, PSs.nox (pss_cons (ps_asg (pe_ix ix_list (pe_call GP (hr.mono (by decide)) (by rfl) T.g__law_poses D.F__law_poses.kp (b__law_poses D) .nil pass0 (pa_cons (pv 0) (pa_cons (pe_tup (pa_cons pe_int (pa_cons pe_int (pa_cons pe_int pa_nil)))) pa_nil))) (pe_un un_neg pe_int) (fun _ _ => rfl)) (pg_tup (by rfl) (pgs_cons (pg_name (i := 1) nd rfl (.inl rfl)) (pgs_cons (pg_name (i := 2) nd rfl (.inl rfl)) (pgs_cons (pg_name (i := 3) nd rfl (.inl rfl)) pgs_nil)))))
        (pss_one (ps_ret (pe_make T.k_Motion GI (hr.mono (by decide)) (by rfl) T.g_Motion (b_Motion_init D) .nil pass0 (pa_cons (pv 3) (pa_cons (pv 1) (pa_cons (pv 2) pa_nil))))))), ?_⟩
    refine ⟨_, rfl, by show 3 ≤ sizeLine; decide, fun f hf => ?_⟩
    have sf := same_new (o := .tup [.int 0, .int 0, .int 0]) hf
    refine ⟨S, f, rfl, tupT upd_same, hS, hl, fun l acc z H1 s1 el ez => ?_⟩
    refine ⟨_, rfl, l, _, -1, .ref z, rfl, rfl, lstL el, atI_last _ _, z, _, rfl, ez, rfl, _, _, rfl, _, _, rfl, _, _, rfl, rfl, ?_⟩
    exact ⟨_, rfl, _, rfl, _, rfl, fun x d nx ndx _ => make_i (t := (stM S.cps.toList).1) nx ndx (WM.stM_le _) rfl fun H2 s2 mc => ⟨rfl, q x H2 (sf.trans (s1.trans s2)) mc⟩⟩
def spLed (K : PySem.W.Frag) : Sp := fun vs H Q _ => ∃ (m a : Addr) (mv : M3) (x y : Int) (h : Nat), vs = [.ref m, .ref a] ∧ MoM K H m mv ∧ SqT K H a [.int x, .int y, .int h] ∧ h ≤ 3 ∧ ∀ r H', Same H H' → H r = none → poseO H' r (act mv (x, y, h)) → Q (.ref r) H'
theorem ok_led (D : Ds K) (T : Tx K mg) : FnOk P w K mg base CX0 6 (d_law_led.adr K) D.fd__law_led ["motion_here", "pose_here"] (spLed K) := by
  have GM : FnOk P w K mg base CX0 5 _ _ _ (spCall K) := ok_call D T
  refine D.F__law_led.ok sc_law_led (fun vs H Q E h => ?_) (fun cdv A outer s H vs Q E hr h => ?_)
  · obtain ⟨m, a, mv, x, y, h, rfl, _⟩ := h
    rfl
  · obtain ⟨m, a, mv, x, y, h, rfl, hm, ha, hh, q⟩ := h
    refine ⟨_, PSs.nox (pss_one (ps_ret (pe_callO (i := 0) T.m_Motion_call T.fn_Motion_call GM hr (by rfl) (.inl rfl) (b_Motion_call D) pass0 (pa_cons (pv 1) pa_nil)))), ?_⟩
    obtain ⟨_, d5, sr5, e5, f5⟩ := id hm
    refine ⟨m, rfl, _, rfl, ⟨d5, _, e5⟩, m, a, _, _, _, x, y, h, rfl, hm, ha, hh, fun z H3 s3 nz ez => q z H3 s3 nz ⟨ez, ?_⟩⟩
    show (h + mv.1) % 4 ≤ 3
    omega
end
end K15M

set_option Elab.async false
set_option linter.all false
set_option maxRecDepth 100000
set_option maxHeartbeats 4000000
set_option exponentiation.threshold 3000
namespace K15M
open PySem PySem.Spec PyProof.Rows L2 RT K15 M13
open WM (Ps PartsAt letM six stM Wd wstrs textOf stS)
/-! mathematics -/
theorem steps_six (p : Ps) (ok : p.ok) : ∀ c ∈ p.steps, c ∈ six := by
  induction p with
  | nil => intro c h; cases h
  | lf c n r ih =>
    intro x h
    rcases List.mem_append.mp (show x ∈ List.replicate n c ++ r.steps from h) with h | h
    · rw [(List.mem_replicate.mp h).2]
      exact ok.1.1
    · exact ih ok.2 x h
  | rp b n r ihb ihr =>
    intro x h
    rcases List.mem_append.mp (show x ∈ (List.replicate n b.steps).flatten ++ r.steps from h) with h | h
    · obtain ⟨l, hl, hx⟩ := List.mem_flatten.mp h
      rw [(List.mem_replicate.mp hl).2] at hx
      exact ihb ok.2.1 x hx
    · exact ihr ok.2.2.2 x h
theorem rep_ok' {p : Ps} {n : Nat} (h : 2 ≤ n) (hp : p ≠ .nil) : K15P.rep p n = .rp p n .nil := by
  unfold K15P.rep
  rw [if_neg (by omega), if_neg (by omega)]
  cases p with
  | nil => exact absurd rfl hp
  | lf c m r => rfl
  | rp b m r => rfl
theorem rep_nil {n : Nat} (h : 2 ≤ n) : K15P.rep .nil n = .nil := by
  unfold K15P.rep
  rw [if_neg (by omega), if_neg (by omega)]
theorem rep_size (p : Ps) {n : Nat} (h : 2 ≤ n) : (K15P.rep p n).size = n * p.size := by
  by_cases e : p = .nil
  · subst e
    rw [rep_nil h]
    rfl
  · rw [rep_ok' h e]
    exact Nat.mul_comm ..
theorem rep_lev (p : Ps) {n : Nat} (h : 2 ≤ n) : (K15P.rep p n).lev ≤ 1 + p.lev := by
  by_cases e : p = .nil
  · subst e
    rw [rep_nil h]
    exact Nat.zero_le _
  · rw [rep_ok' h e]
    show max (1 + p.lev) 0 ≤ _
    omega
theorem rep_words (p : Ps) {n : Nat} (h : 2 ≤ n) : (K15P.rep p n).words.length ≤ p.words.length + 2 := by
  by_cases e : p = .nil
  · subst e
    rw [rep_nil h]
    exact Nat.zero_le _
  · rw [rep_ok' h e]
    show (.op :: (p.words ++ .cl n :: Ps.words .nil)).length ≤ _
    rw [List.length_cons, List.length_append, List.length_cons]
    exact Nat.le_refl _
theorem rep_full {p : Ps} (ok : p.ok) {n : Nat} (h : 2 ≤ n) : (K15P.rep p n).motU (K15P.rep p n).size = npow (p.motU p.size) n := by
  by_cases e : p = .nil
  · subst e
    rw [rep_nil h]
    exact (WM.npow_id n).symm
  · rw [rep_ok' h e]
    exact WM.motU_wide ok e n
theorem rep_part {p : Ps} (ok : p.ok) {n k r : Nat} (h : 2 ≤ n) (hk : k < n) (hr : r ≤ p.size) : (K15P.rep p n).motU (k * p.size + r) = cmp (npow (p.motU p.size) k) (p.motU r) := by
  by_cases e : p = .nil
  · subst e
    rw [rep_nil h]
    show idM = cmp (npow idM k) idM
    rw [WM.npow_id]
    rfl
  · rw [rep_ok' h e]
    exact WM.motU_rep ok e hk hr
theorem motU_app_full {p q : Ps} (hp : p.ok) (hq : q.ok) : (p.app q).motU (p.app q).size = cmp (p.motU p.size) (q.motU q.size) := by
  rw [WM.motU_full (app_ok hp hq), WM.motU_full hp, WM.motU_full hq, WM.app_steps, WM.stM_app]
theorem words_le (p : Ps) (ok : p.ok) {m : Nat} (h : p.size ≤ m) : p.words.length ≤ 2 * m := by
  rcases WM.words_few ok with e | e
  · omega
  · subst e
    exact Nat.zero_le _
theorem cmp_act0 (m : M3) (h : m.1 ≤ 3) : act m (0, 0, 0) = (m.2.1, m.2.2, m.1) := by
  show (0 + m.2.1, 0 + m.2.2, (0 + m.1) % 4) = _
  rw [Int.zero_add, Int.zero_add, Nat.zero_add, Nat.mod_eq_of_lt (by omega)]
theorem sums_le {p : Ps} (ok : p.ok) (h : p.words.length ≤ 1000) : ((p.words.map Wd.str).map (·.length)).sum + (p.words.map Wd.str).length * (" " : Str).length ≤ 16777216 := by
  have h1 := K15P.lens_le (WM.words_ok _ ok)
  have h2 : (" " : Str).length = 1 := rfl
  rw [List.length_map, h2]
  omega
/-! poses as data -/
def poseD (q : Int × Int × Nat) : PyData := .tuple [.int q.1, .int q.2.1, .int (q.2.2 : Int)]
theorem poseO.dp {K : PySem.W.Frag} {H : Hp} {p : Addr} {q : Int × Int × Nat} (h : poseO H p q) : Dp K H (.ref p) (poseD q) := .tup (tupT h.1) (.cons (.int _) (.cons (.int _) (.cons (.int _) .nil)))
theorem poseD_eqv (q r : Int × Int × Nat) : PyData.eqv (poseD q) (poseD r) = decide (q = r) := by
  have h := PySem.W.ked_eqvAll [q.1, q.2.1, (q.2.2 : Int)] [r.1, r.2.1, (r.2.2 : Int)]
  show PyData.eqvAll _ _ = _
  refine h.trans ?_
  obtain ⟨x, y, n⟩ := q
  obtain ⟨u, v, m⟩ := r
  refine decide_eq_decide.mpr ?_
  simp only [List.cons.injEq, Prod.mk.injEq, and_true]
  omega
theorem neq_pose {q r : Int × Int × Nat} (h : q = r) : (!PyData.eqv (poseD q) (poseD r)) = false := by
  rw [poseD_eqv, decide_eq_true h]
  rfl
theorem many_at {a b c v : Int} (h0 : 0 ≤ v) (h : v < 3) (ha : 0 ≤ a ∧ a < 4) (hb : 0 ≤ b ∧ b < 5) (hc : 0 ≤ c ∧ c < 1000000000000000000000000000000 - 2) : ∃ n : Nat, atI [V.int (2 + a), V.int (10 ^ ((30 : Int).toNat) - b), V.int (2 + c)] v = some (.int (n : Int)) ∧ 2 ≤ n ∧ (n : Int) ≤ 1000000000000000000000000000000 := by
  rw [p30]
  have e : v = 0 ∨ v = 1 ∨ v = 2 := by omega
  obtain ⟨a, rfl⟩ := Int.eq_ofNat_of_zero_le ha.1
  obtain ⟨b, rfl⟩ := Int.eq_ofNat_of_zero_le hb.1
  obtain ⟨c, rfl⟩ := Int.eq_ofNat_of_zero_le hc.1
  rcases e with rfl | rfl | rfl
  · exact ⟨2 + a, atI_nat (j := 0) rfl, by omega, by omega⟩
  · refine ⟨1000000000000000000000000000000 - b, ?_, by omega, by omega⟩
    refine atI_nat (j := 1) ?_
    show some (V.int ((1000000000000000000000000000000 : Int) - (b : Int))) = _
    rw [show (1000000000000000000000000000000 : Int) - (b : Int) = ((1000000000000000000000000000000 - b : Nat) : Int) by omega]
  · exact ⟨2 + c, atI_nat (j := 2) rfl, by omega, by omega⟩
theorem ite_post {b : Prop} [Decidable b] {tb : TS} {D : Ends} {σ : L2.St} {H : Hp} (Post : L2.St → Hp → Prop) (h1 : b → ∀ D' : Ends, (∀ σ' H', Post σ' H' → D'.nx σ' H') → tb D' σ H) (h2 : ¬ b → Post σ H) (q : ∀ σ' H', Post σ' H' → D.nx σ' H') : if b then tb D σ H else tNext D σ H := by
  split
  · exact h1 ‹_› D q
  · exact q _ _ (h2 ‹_›)
/-! what a tank leaves -/
theorem MoM.same {K : PySem.W.Frag} {H H' : Hp} {a : Addr} {m : M3} (h : MoM K H a m) (e : Same H H') : MoM K H' a m := IsM.same h e
theorem MoM.keep {K : PySem.W.Frag} {H H' : Hp} {a t : Addr} {m : M3} {c : Nat} (h : MoM K H a m) (tk : Tk H t c) (e : Keep t H H') : MoM K H' a m := by
  obtain ⟨A, B, et, _⟩ := tk
  obtain ⟨ht, d, s, h1, h2⟩ := h
  refine ⟨ht, d, s, e _ _ (fun z => ?_) h1, e _ _ (fun z => ?_) h2⟩
  · rw [z, et] at h1
    cases h1
  · rw [z, et] at h2
    cases h2
theorem partsKeepT {C : Addr} {H H' : Hp} {t : Addr} {xs : List V} {us : List V} {p : Ps} (h : PartsAt C H us p) (et : H t = some (.lst xs)) (k : Keep t H H') : PartsAt C H' us p := by
  induction h with
  | nil => exact .nil
  | lf h1 h2 _ ih =>
    refine .lf (k _ _ (fun z => ?_) h1) (k _ _ (fun z => ?_) h2) ih
    · rw [z, et] at h1; cases h1
    · rw [z, et] at h2; cases h2
  | rp h1 h2 _ _ ih1 ih2 =>
    refine .rp (k _ _ (fun z => ?_) h1) (k _ _ (fun z => ?_) h2) ih1 ih2
    · rw [z, et] at h1; cases h1
    · rw [z, et] at h2; cases h2
theorem _root_.K15P.IsP.keep {K : PySem.W.Frag} {H H' : Hp} {a t : Addr} {p : Ps} {c : Nat} (h : K15P.IsP K H a p) (tk : Tk H t c) (e : Keep t H H') : K15P.IsP K H' a p := by
  obtain ⟨A, B, et, _⟩ := tk
  obtain ⟨h1, h2, h3, d, wd, tt, us, e1, e2, e3, e4⟩ := h
  refine ⟨h1, h2, h3, d, wd, tt, us, e _ _ (fun z => ?_) e1, e _ _ (fun z => ?_) e2, e _ _ (fun z => ?_) e3, partsKeepT e4 et e⟩
  · rw [z, et] at e1; cases e1
  · rw [z, et] at e2; cases e2
  · rw [z, et] at e3; cases e3
theorem fin_p {K : PySem.W.Frag} {H1 : Hp} {p : Ps} (ok : p.ok) (lv : p.lev ≤ 12) (len : p.words.length ≤ 1000) {R : Addr → Hp → Prop} (hR : ∀ r H', Same H1 H' → K15P.IsP K H' r p → R r H') {t : Str} (et : t = textOf p.words) :
    ∀ x dx, H1 x = none → H1 dx = none → dx ≠ x → K15P.spProg K (.ref x :: ([.str t] ++ [])) (upd (upd H1 dx (.own x)) x (.ins (He.ga K "Program") dx [])) (fun v H2 => v = .non ∧ R x H2) E0 :=
  fun x dx nx nd _ => K15P.make_p nx nd et ok lv len fun H2 s2 hp2 => ⟨rfl, hR x H2 s2 hp2⟩
section
variable {P : Program} {w : World} {K : PySem.W.Frag} {mg : Str → Option Value} {base : Heap}
def spDipB : Sp := fun vs H Q _ => ∃ (t : Addr) (b : Int) (c : Nat), vs = [.ref t, .int b] ∧ Tk H t c ∧ c ≤ 100000000000000000000 ∧ 1 ≤ b ∧ b.natAbs < 2 ^ 1500 ∧
  ∀ (v : Int) (c' : Nat) H', Keep t H H' → Tk H' t c' → c ≤ c' → c' ≤ c + 1 → 0 ≤ v → v < b → Q (.int v) H'
theorem ok_dipB (D : Ds K) (T : Tx K mg) : FnOk P w K mg base CX0 1 (d_law_dip.adr K) D.fd__law_dip ["tank", "bound"] spDipB := by
  refine D.F__law_dip.ok sc_law_dip (fun vs H Q E h => ?_) (fun cdv A outer s H vs Q E hr h => ?_)
  · obtain ⟨t, b, c, rfl, _⟩ := h
    rfl
  · obtain ⟨t, b, c, rfl, ⟨A1, B, et, hA, hB, hB2⟩, hc, hb, hb2, q⟩ := h
    have nd := sc_law_dip.nd
    refine ⟨_, PSs.nox (pss_cons (ps_if (pt_cmpR op_gt (pe_ix ix_list (pv 0) pe_int (fun _ _ => rfl)) pe_int (nomark _))
        (pss_cons (ps_set (i := 2) nd rfl (.inl rfl) (pe_op op_mod (pe_ix ix_list (pv 0) pe_int (fun _ _ => rfl)) (pv 1)))
          (pss_cons (ps_asg (pe_op op_fdivW (pe_ix ix_list (pv 0) pe_int (fun _ _ => rfl)) (pv 1)) (pg_sub (pv 0) pe_int set_list)) (pss_one (ps_ret (pv 2))))) pss_nil)
      (pss_cons (ps_asg (pe_op op_add (pe_ix ix_list (pv 0) pe_int (fun _ _ => rfl)) pe_int) (pg_sub (pv 0) pe_int set_list))
      (pss_cons (ps_set (i := 3) nd rfl (.inl rfl) (pe_op op_mod (pe_op op_powW (pe_op op_add (pe_ix ix_list (pv 0) pe_int (fun _ _ => rfl)) (pe_op op_mul pe_int (pe_ix ix_list (pv 0) pe_int (fun _ _ => rfl)))) pe_int) (pe_op op_add (pe_op op_pow pe_int pe_int) pe_int)))
      (pss_cons (ps_set (i := 3) nd rfl (.inl rfl) (pe_op op_mod (pe_op op_powW (pe_op op_add (pv 3) (pe_op op_mul pe_int (pe_ix ix_list (pv 0) pe_int (fun _ _ => rfl)))) pe_int) (pe_op op_add (pe_op op_pow pe_int pe_int) pe_int)))
      (pss_one (ps_ret (pe_op op_mod (pe_op op_fdivW (pv 3) pe_int) (pv 1)))))))), ?_⟩
    have g0 : atI [V.int A1, V.int B, V.int c] 0 = some (.int A1) := atI_nat (j := 0) rfl
    refine ⟨_, rfl, t, _, 0, _, rfl, rfl, lstL et, g0, _, _, rfl, rfl, _, rfl, ite2 (fun e => ?_) (fun e => ?_)⟩
    · have e0 : 0 < A1 := of_decide_eq_true e
      refine ⟨_, rfl, t, _, 0, _, rfl, rfl, lstL et, g0, _, rfl, _, _, rfl, rfl, hb, ?_⟩
      refine ⟨_, rfl, t, _, 0, _, rfl, rfl, lstL et, g0, _, rfl, _, _, rfl, rfl, wide_div (b := 1500) (by omega) hb2 (by decide) (by decide), ?_⟩
      refine ⟨_, rfl, t, _, 0, 0, rfl, rfl, et, rfl, _, rfl, ?_⟩
      exact q _ c _ keep_upd ⟨_, B, upd_same, Int.ediv_nonneg hA (by omega), hB, hB2⟩ (Nat.le_refl _) (by omega) (Int.emod_nonneg _ (by omega)) (Int.emod_lt_of_pos _ (by omega))
    · have g2 : atI [V.int A1, V.int B, V.int c] 2 = some (.int c) := atI_nat (j := 2) rfl
      refine ⟨_, rfl, t, _, 2, _, rfl, rfl, lstL et, g2, _, _, rfl, rfl, _, rfl, t, _, 2, 2, rfl, rfl, et, rfl, ?_⟩
      have et2 : upd H t (.lst ([V.int A1, V.int B, V.int c].set 2 (.int ((c : Int) + 1)))) t = some (.lst [.int A1, .int B, .int ((c : Int) + 1)]) := upd_same
      have k1 : atI [V.int A1, V.int B, V.int ((c : Int) + 1)] 1 = some (.int B) := atI_nat (j := 1) rfl
      have k2 : atI [V.int A1, V.int B, V.int ((c : Int) + 1)] 2 = some (.int ((c : Int) + 1)) := atI_nat (j := 2) rfl
      refine ⟨_, rfl, t, _, 1, _, rfl, rfl, lstL et2, k1, _, rfl, t, _, 2, _, rfl, rfl, lstL et2, k2, _, _, rfl, rfl, .inl ⟨by decide, by decide⟩, _, _, rfl, rfl, _, _, rfl, rfl, cube_ok (by omega) (by omega), _, _, rfl, rfl, pw_ok (by decide) (by decide), _, _, rfl, rfl, _, _, rfl, rfl, (by show (0 : Int) < _; rw [p42]; decide), ?_⟩
      have m0 : 0 ≤ (B + 86028157 * ((c : Int) + 1)) ^ (3 : Int).toNat % (10 ^ (42 : Int).toNat + 63) := Int.emod_nonneg _ (by rw [p42]; decide)
      have m1 : (B + 86028157 * ((c : Int) + 1)) ^ (3 : Int).toNat % (10 ^ (42 : Int).toNat + 63) < 1000000000000000000000000000000000000000063 := by
        rw [p42]
        exact Int.emod_lt_of_pos _ (by decide)
      refine ⟨_, rfl, _, rfl, t, _, 2, _, rfl, rfl, lstL et2, k2, _, _, rfl, rfl, .inl ⟨by decide, by decide⟩, _, _, rfl, rfl, _, _, rfl, rfl, cube_ok (by omega) (by omega), _, _, rfl, rfl, pw_ok (by decide) (by decide), _, _, rfl, rfl, _, _, rfl, rfl, (by show (0 : Int) < _; rw [p41]; decide), ?_⟩
      refine ⟨_, rfl, _, _, rfl, rfl, wide_div (b := 200) (by decide) (by decide) (by decide) (by decide), _, rfl, _, _, rfl, rfl, hb, ?_⟩
      exact q _ (c + 1) _ keep_upd ⟨A1, B, by rw [et2]; rfl, hA, hB, hB2⟩ (by omega) (Nat.le_refl _) (Int.emod_nonneg _ (by omega)) (Int.emod_lt_of_pos _ (by omega))
end
end K15M

set_option Elab.async false
set_option linter.all false
set_option maxRecDepth 100000
set_option maxHeartbeats 8000000
set_option exponentiation.threshold 3000
namespace K15M
open PySem PySem.Spec PyProof.Rows L2 RT K15 M13
open WM (Ps PartsAt letM six stM Wd wstrs textOf stS)
section
variable {P : Program} {w : World} {K : PySem.W.Frag} {mg : Str → Option Value} {base : Heap}
def spRight : Sp := fun vs H Q _ => ∃ t, vs = [.ref t] ∧ Tk H t 0 ∧ ∀ H', Keep t H H' → Q (.bl true) H'
theorem ok_right (D : Ds K) (T : Tx K mg) (B : Tb K w) : FnOk P w K mg base CX0 36 (d_law_right.adr K) D.fd__law_right ["tank"] spRight := by
  have GD : FnOk P w K mg base CX0 1 _ _ _ spDip := ok_dip D T
  have GDB : FnOk P w K mg base CX0 1 _ _ _ spDipB := ok_dipB D T
  have GM : FnOk P w K mg base CX0 4 _ _ _ (spMade 2) := ok_made D T 2
  have GS : FnOk P w K mg base CX0 2 _ _ _ spStart := ok_start D T
  have GPi : FnOk P w K mg base CX0 19 _ _ _ (K15P.spProg K) := K15P.ok_prog D T
  have GPm : FnOk P w K mg base CX0 21 _ _ _ (K15P.spMulP K) := K15P.ok_mulP D T
  have GPa : FnOk P w K mg base CX0 21 _ _ _ (K15P.spAddP K) := K15P.ok_addP D T
  have GPl : FnOk P w K mg base CX0 1 _ _ _ (K15P.spLength K) := K15P.ok_length D T
  have GI : FnOk P w K mg base CX0 3 _ _ _ (spInit K) := ok_init D T
  have GMm : FnOk P w K mg base CX0 6 _ _ _ (sMul (MoM K)) := ok_mul D T
  have GMa : FnOk P w K mg base CX0 5 _ _ _ (sAdd (MoM K)) := ok_add D T
  have GMe : FnOk P w K mg base CX0 1 _ _ _ (sEq K (MoM K)) := ok_eq D T
  have GMc : FnOk P w K mg base CX0 5 _ _ _ (spCall K) := ok_call D T
  have GPo : FnOk P w K mg base CX0 35 _ _ _ (spPoseAfter K) := ok_poseafter D T B
  have GMo : FnOk P w K mg base CX0 35 _ _ _ (spMof K) := ok_mof D T B
  have GLm : FnOk P w K mg base CX0 5 _ _ _ (spLMo K) := ok_lmo D T
  have GL : FnOk P w K mg base CX0 6 _ _ _ (spLed K) := ok_led D T
  obtain ⟨ds0, dv0, bk0⟩ := b_pose_after0 D
  obtain ⟨mv, kb⟩ := b_pose_afterK D
  refine D.F__law_right.ok sc_law_right (fun vs H Q E h => ?_) (fun cdv A outer s H vs Q E hr h => ?_)
  · obtain ⟨t, rfl, _⟩ := h
    rfl
  · obtain ⟨t, rfl, tk, q⟩ := h
    have nd := sc_law_right.nd
    refine ⟨_, PSs.nox (pss_cons (ps_asg (pe_call GM (hr.mono (by decide)) (by rfl) T.g__law_made D.F__law_made.kp (b__law_made D) .nil pass0 (pa_cons (pv 0) (pa_cons pe_int pa_nil))) (pg_tup (by rfl) (pgs_cons (pg_name (i := 1) nd rfl (.inl rfl)) (pgs_cons (pg_name (i := 2) nd rfl (.inl rfl)) pgs_nil))))
        (pss_cons (ps_asg (pe_call GM (hr.mono (by decide)) (by rfl) T.g__law_made D.F__law_made.kp (b__law_made D) .nil pass0 (pa_cons (pv 0) (pa_cons pe_int pa_nil))) (pg_tup (by rfl) (pgs_cons (pg_name (i := 3) nd rfl (.inl rfl)) (pgs_cons (pg_name (i := 4) nd rfl (.inl rfl)) pgs_nil))))
        (pss_cons (ps_asg (pe_call GM (hr.mono (by decide)) (by rfl) T.g__law_made D.F__law_made.kp (b__law_made D) .nil pass0 (pa_cons (pv 0) (pa_cons pe_int pa_nil))) (pg_tup (by rfl) (pgs_cons (pg_name (i := 5) nd rfl (.inl rfl)) (pgs_cons (pg_name (i := 6) nd rfl (.inl rfl)) pgs_nil))))
        (pss_cons (ps_par (i := 7) (j := 8) (by rfl) nd rfl rfl (by decide) rfl rfl (pa_cons (pe_make T.k_Program GPi (hr.mono (by decide)) (by rfl) T.g_Program (b_Program_init D) .nil pass0 (pa_cons (pe_join pe_str (pv 1)) pa_nil)) (pa_cons (pe_call GLm (hr.mono (by decide)) (by rfl) T.g__law_motion D.F__law_motion.kp (b__law_motion D) .nil pass0 (pa_cons (pv 2) pa_nil)) pa_nil)) (by rfl))
        (pss_cons (ps_set (i := 9) nd rfl (.inl rfl) (pe_callB call_len_str (by rfl) T.z_len PySem.boot_len (pa_cons (pv 2) pa_nil)))
        (pss_cons (ps_for PassesOwn.never rfl (pi_range1 (by rfl) T.z_range (pa_cons (pe_op op_add pe_int (pe_call GD (hr.mono (by decide)) (by rfl) T.g__law_dip D.F__law_dip.kp (b__law_dip D) .nil pass0 (pa_cons (pv 0) (pa_cons pe_int pa_nil)))) pa_nil)) (pg_name (i := 10) nd rfl (.inl rfl))
      (pss_cons (ps_set (i := 11) nd rfl (.inl rfl) (pe_lst (pa_cons (pe_op op_add pe_int (pe_call GD (hr.mono (by decide)) (by rfl) T.g__law_dip D.F__law_dip.kp (b__law_dip D) .nil pass0 (pa_cons (pv 0) (pa_cons pe_int pa_nil)))) (pa_cons (pe_op op_sub (pe_op op_pow pe_int pe_int) (pe_call GD (hr.mono (by decide)) (by rfl) T.g__law_dip D.F__law_dip.kp (b__law_dip D) .nil pass0 (pa_cons (pv 0) (pa_cons pe_int pa_nil)))) (pa_cons (pe_op op_add pe_int (pe_call GD (hr.mono (by decide)) (by rfl) T.g__law_dip D.F__law_dip.kp (b__law_dip D) .nil pass0 (pa_cons (pv 0) (pa_cons (pe_op op_sub (pe_op op_pow pe_int pe_int) pe_int) pa_nil)))) pa_nil)))))
        (pss_cons (ps_set (i := 12) nd rfl (.inl rfl) (pe_ix ix_list (pv 11) (pe_call GD (hr.mono (by decide)) (by rfl) T.g__law_dip D.F__law_dip.kp (b__law_dip D) .nil pass0 (pa_cons (pv 0) (pa_cons pe_int pa_nil))) (fun _ _ => rfl)))
        (pss_cons (ps_par (i := 13) (j := 14) (by rfl) nd rfl rfl (by decide) rfl rfl (pa_cons (pe_call GS (hr.mono (by decide)) (by rfl) T.g__law_start D.F__law_start.kp (b__law_start D) .nil pass0 (pa_cons (pv 0) pa_nil)) (pa_cons (pe_call GD (hr.mono (by decide)) (by rfl) T.g__law_dip D.F__law_dip.kp (b__law_dip D) .nil pass0 (pa_cons (pv 0) (pa_cons (pv 12) pa_nil))) pa_nil)) (by rfl))
        (pss_cons (ps_set (i := 15) nd rfl (.inl rfl) (pe_call GDB (hr.mono (by decide)) (by rfl) T.g__law_dip D.F__law_dip.kp (b__law_dip D) .nil pass0 (pa_cons (pv 0) (pa_cons (pe_op op_add (pv 9) pe_int) pa_nil))))
        (pss_cons (ps_set (i := 16) nd rfl (.inl rfl) (pe_call GPo hr (by rfl) T.g_pose_after D.F_pose_after.kp bk0 dv0 pass0 (pa_cons (pv 7) (pa_cons (pv 15) pa_nil))))
        (pss_cons (ps_set (i := 17) nd rfl (.inl rfl) (pe_op (op_binO T.f_Program T.m_Program_mul GPm (hr.mono (by decide)) (b_Program_mul D) pass0) (pv 7) (pv 12)))
        (pss_cons (ps_set (i := 18) nd rfl (.inl rfl) (pe_call GL (hr.mono (by decide)) (by rfl) T.g__law_led D.F__law_led.kp (b__law_led D) .nil pass0 (pa_cons (pe_op (op_binO T.f_Motion T.m_Motion_add GMa (hr.mono (by decide)) (b_Motion_add D) pass0) (pe_op (op_binO T.f_Motion T.m_Motion_mul GMm (hr.mono (by decide)) (b_Motion_mul D) pass0) (pv 8) (pv 14)) (pe_make T.k_Motion GI (hr.mono (by decide)) (by rfl) T.g_Motion (b_Motion_init D) .nil pass0 (pa_cons (pe_ix ix_tup (pv 16) pe_int (fun _ _ => rfl)) (pa_cons (pe_ix ix_tup (pv 16) pe_int (fun _ _ => rfl)) (pa_cons (pe_ix ix_tup (pv 16) pe_int (fun _ _ => rfl)) pa_nil))))) (pa_cons (pv 13) pa_nil))))
        (pss_cons (ps_if (PW.pt (pw_or (pt_cmpR op_ne (pe_prop (pv 17) T.c_Program T.p_Program_length GPl (hr.mono (by decide)) (b_Program_length D) .nil pass0 rfl) (pe_op op_mulW (pv 12) (pv 9)) (nomark _)) (pw_or1 (pt_cmpR (op_neD hr.units) (pe_callN GPo hr (by rfl) T.g_pose_after D.F_pose_after.kp kb pass0 (pa_cons (pv 17) (pa_cons (pe_op op_add (pe_op op_mulW (pv 14) (pv 9)) (pv 15)) pa_nil)) (pk_cons (pv 13) pk_nil)) (pv 18) (nomark _))))) (pss_one (ps_ret pe_bl)) pss_nil)
        (pss_cons (ps_par3 (i := 7) (j := 9) (l := 8) (by rfl) nd rfl rfl rfl (by decide) (by decide) (by decide) rfl rfl rfl (pa_cons (pv 17) (pa_cons (pe_op op_mulW (pv 12) (pv 9)) (pa_cons (pe_op (op_binO T.f_Motion T.m_Motion_mul GMm (hr.mono (by decide)) (b_Motion_mul D) pass0) (pv 8) (pv 12)) pa_nil))) (by rfl))
        (pss_cons (ps_if (pt_cmpR (op_neO T.ne_Motion T.i_Motion.hm T.m_Motion_eq GMe (hr.mono (by decide)) (b_Motion_eq D) pass0) (pe_call GMo hr (by rfl) T.g_motion_of D.F_motion_of.kp (b_motion_of D) .nil pass0 (pa_cons (pv 7) pa_nil)) (pv 8) (nomark _)) (pss_one (ps_ret pe_bl)) pss_nil)
        (pss_cons (ps_if (pt_cmpR op_eq (pe_call GD (hr.mono (by decide)) (by rfl) T.g__law_dip D.F__law_dip.kp (b__law_dip D) .nil pass0 (pa_cons (pv 0) (pa_cons pe_int pa_nil))) pe_int (nomark _)) (pss_cons (ps_set (i := 7) nd rfl (.inl rfl) (pe_op (op_binO T.f_Program T.m_Program_add GPa (hr.mono (by decide)) (b_Program_add D) pass0) (pe_op (op_binO T.f_Program T.m_Program_add GPa (hr.mono (by decide)) (b_Program_add D) pass0) (pe_make T.k_Program GPi (hr.mono (by decide)) (by rfl) T.g_Program (b_Program_init D) .nil pass0 (pa_cons (pe_join pe_str (pv 3)) pa_nil)) (pv 7)) (pe_make T.k_Program GPi (hr.mono (by decide)) (by rfl) T.g_Program (b_Program_init D) .nil pass0 (pa_cons (pe_join pe_str (pv 5)) pa_nil))))
        (pss_cons (ps_set (i := 8) nd rfl (.inl rfl) (pe_op (op_binO T.f_Motion T.m_Motion_add GMa (hr.mono (by decide)) (b_Motion_add D) pass0) (pe_op (op_binO T.f_Motion T.m_Motion_add GMa (hr.mono (by decide)) (b_Motion_add D) pass0) (pe_call GLm (hr.mono (by decide)) (by rfl) T.g__law_motion D.F__law_motion.kp (b__law_motion D) .nil pass0 (pa_cons (pv 4) pa_nil)) (pv 8)) (pe_call GLm (hr.mono (by decide)) (by rfl) T.g__law_motion D.F__law_motion.kp (b__law_motion D) .nil pass0 (pa_cons (pv 6) pa_nil))))
        (pss_cons (ps_set (i := 9) nd rfl (.inl rfl) (pe_op op_add (pe_op op_add (pv 9) (pe_callB call_len_str (by rfl) T.z_len PySem.boot_len (pa_cons (pv 4) pa_nil))) (pe_callB call_len_str (by rfl) T.z_len PySem.boot_len (pa_cons (pv 6) pa_nil))))
        (pss_cons (ps_if (PW.pt (pw_or (pt_cmpR op_ne (pe_prop (pv 7) T.c_Program T.p_Program_length GPl (hr.mono (by decide)) (b_Program_length D) .nil pass0 rfl) (pv 9) (nomark _)) (pw_or1 (pt_cmpR (op_neO T.ne_Motion T.i_Motion.hm T.m_Motion_eq GMe (hr.mono (by decide)) (b_Motion_eq D) pass0) (pe_call GMo hr (by rfl) T.g_motion_of D.F_motion_of.kp (b_motion_of D) .nil pass0 (pa_cons (pv 7) pa_nil)) (pv 8) (nomark _))))) (pss_one (ps_ret pe_bl)) pss_nil)
        (pss_cons (ps_set (i := 19) nd rfl (.inl rfl) (pe_callB call_len_str (by rfl) T.z_len PySem.boot_len (pa_cons (pv 4) pa_nil)))
        (pss_one (ps_if (pt_cmpR (op_neD hr.units) (pe_callN GPo hr (by rfl) T.g_pose_after D.F_pose_after.kp kb pass0 (pa_cons (pv 7) (pa_cons (pv 19) pa_nil)) (pk_cons (pv 13) pk_nil)) (pe_call GL (hr.mono (by decide)) (by rfl) T.g__law_led D.F__law_led.kp (b__law_led D) .nil pass0 (pa_cons (pe_call GLm (hr.mono (by decide)) (by rfl) T.g__law_motion D.F__law_motion.kp (b__law_motion D) .nil pass0 (pa_cons (pv 4) pa_nil)) (pa_cons (pv 13) pa_nil))) (nomark _)) (pss_one (ps_ret pe_bl)) pss_nil))))))) pss_nil)
        (pss_one (ps_if (pt_cmpR (op_neD hr.units) (pe_callN GPo hr (by rfl) T.g_pose_after D.F_pose_after.kp kb pass0 (pa_cons (pv 7) (pa_cons (pv 9) pa_nil)) (pk_cons (pv 13) pk_nil)) (pe_callO (i := 8) T.m_Motion_call T.fn_Motion_call GMc (hr.mono (by decide)) (by rfl) (.inl rfl) (b_Motion_call D) pass0 (pa_cons (pv 13) pa_nil)) (nomark _)) (pss_one (ps_ret pe_bl)) pss_nil))))))))))))))
        (pss_one (ps_ret pe_bl)))))))), ?_⟩
    obtain ⟨A0, B0, et0, _⟩ := id tk
    refine ⟨_, rfl, t, 0, 30, rfl, tk, by decide, by decide, by decide, by decide, by decide, by decide, fun r1 wl p0 c1 H1 k1 t1 l1 u1 ok0 lv0 sz0 nwl er1 ew1 => ?_⟩
    refine ⟨r1, _, rfl, tupT er1, rfl, _, _, rfl, _, _, rfl, rfl, ?_⟩
    have c1b : c1 ≤ 90000 := u1
    obtain ⟨A1, B1, et1, _⟩ := id t1
    refine ⟨_, rfl, t, c1, 12, rfl, t1, by omega, by decide, by decide, by decide, by decide, by decide, fun r2 fl pf c2 H2 k2 t2 l2 u2 okf lvf szf nfl er2 ew2 => ?_⟩
    refine ⟨r2, _, rfl, tupT er2, rfl, _, _, rfl, _, _, rfl, rfl, ?_⟩
    have c2b : c2 ≤ 180000 := by omega
    obtain ⟨A2, B2, et2, _⟩ := id t2
    refine ⟨_, rfl, t, c2, 12, rfl, t2, by omega, by decide, by decide, by decide, by decide, by decide, fun r3 bl pb c3 H3 k3 t3 l3 u3 okb lvb szb nbl er3 ew3 => ?_⟩
    refine ⟨r3, _, rfl, tupT er3, rfl, _, _, rfl, _, _, rfl, rfl, ?_⟩
    have c3b : c3 ≤ 270000 := by omega
    have twl : wl ≠ t := Ne.symm (ne_of_none et0 nwl)
    have tfl : fl ≠ t := Ne.symm (ne_of_none et1 nfl)
    have tbl : bl ≠ t := Ne.symm (ne_of_none et2 nbl)
    have ew1' := k3 _ _ twl (k2 _ _ twl ew1)
    have ew2' := k3 _ _ tfl ew2
    have kH3 : Keep t H H3 := k1.trans (k2.trans k3)
    have w0 := words_le p0 ok0 sz0
    have wf := words_le pf okf szf
    have wb := words_le pb okb szb
    have lq : ∀ {q : Ps} {X : Hp} {a : Addr}, X a = some (.lst (wstrs q.words)) → SqL K X a ((q.words.map Wd.str).map V.str) := fun h => by
      rw [← K15P.wstrs_map]
      exact lstL h
    have sixS : ∀ {q : Ps}, q.ok → ∀ c ∈ (stS q).cps.toList, c ∈ six := fun h => steps_six _ h
    have szS : ∀ {q : Ps}, q.size ≤ 1000 → (stS q).cps.size ≤ 1000 := fun {q} h => by
      have := WM.st_len q
      exact Nat.le_trans (Nat.le_of_eq this) h
    refine ⟨⟨_, rfl⟩, _, rfl, _, wl, p0.words.map Wd.str, rfl, rfl, .inl (lq ew1'), sums_le ok0 (by omega), fin_p ok0 (by omega) (by omega) (fun pr H4 s4 hp4 => ?_) (TL.join_eq _ _)⟩
    refine ⟨_, rfl, stS p0, rfl, sixS ok0, szS (by omega), fun mo H5 s5 hm5 => ⟨_, _, rfl, ?_⟩⟩
    have hm5 : MoM K H5 mo (stM p0.steps) := hm5
    rw [← WM.motU_full ok0] at hm5
    refine ⟨_, rfl, _, rfl, Nat.le_trans (Nat.le_of_eq (WM.st_len p0)) (Nat.le_trans sz0 (by decide)), ?_⟩
    rw [WM.st_len]
    show Ends.nx _ [some (.ref t), some (.ref wl), some (.str (stS p0)), some (.ref fl), some (.str (stS pf)), some (.ref bl), some (.str (stS pb)), some (.ref pr), some (.ref mo), some (.int (p0.size : Int)), none, none, none, none, none, none, none, none, none, none] _
    have t5 := (t3.same s4).same s5
    refine ⟨_, rfl, t, 10, c3, rfl, t5, by omega, by decide, by decide, fun v c4 H6 k6 t6 l6 u6 a6 b6 => ⟨_, _, rfl, rfl, _, rfl, by omega, by omega, ?_⟩⟩
    have k36 : Keep t H3 H6 := (Same.keep (s4.trans s5)).trans k6
    have hp6 := K15P.IsP.keep (hp4.same s5) t5 k6
    have hm6 := hm5.keep t5 k6
    refine for_range (lo := 0) (fun i σ H' => ∃ (pr mo : Addr) (p : Ps) (c' : Nat) (z10 z11 z12 z13 z14 z15 z16 z17 z18 z19 : Option V), Keep t H3 H' ∧ Tk H' t c' ∧ c' ≤ 300000 + 40 * i ∧ p.lev ≤ 2 + i ∧ p.words.length ≤ 60 + 50 * i ∧ K15P.IsP K H' pr p ∧ MoM K H' mo (p.motU p.size) ∧
        σ = [some (.ref t), some (.ref wl), some (.str (stS p0)), some (.ref fl), some (.str (stS pf)), some (.ref bl), some (.str (stS pb)), some (.ref pr), some (.ref mo), some (.int (p.size : Int)), z10, z11, z12, z13, z14, z15, z16, z17, z18, z19])
      ⟨pr, mo, p0, c4, none, none, none, none, none, none, none, none, none, none, k36, t6, by omega, lv0, by omega, hp6, hm6, rfl⟩ (fun i σ' H' hi hp => ?_) fun σ' H' hp => ?_
    · obtain ⟨pr, mo, p, c', z10, z11, z12, z13, z14, z15, z16, z17, z18, z19, kH', tk', uc, lv, wd, hp, hm, rfl⟩ := hp
      have hi9 : i < 10 := by omega
      clear hp6 hm6 k36 hm5 hp4 k6 t6
      have ok := hp.1
      have bd := size_bd ok (by omega) (by omega)
      have bd15 : p.size < 2 ^ 1500 := Nat.lt_trans bd pow1500
      obtain ⟨Ax, Bx, etx, _⟩ := id tk'
      -- many
      refine ⟨_, rfl, t, 4, c', rfl, tk', by omega, by decide, by decide, fun v1 d1 I1 j1 y1 m1 n1 a1 b1 => ?_⟩
      refine ⟨_, _, rfl, rfl, _, _, rfl, rfl, pw_ok (by decide) (by decide), _, rfl, t, 5, d1, rfl, y1, by omega, by decide, by decide, fun v2 d2 I2 j2 y2 m2 n2 a2 b2 => ⟨_, _, rfl, rfl, ?_⟩⟩
      refine ⟨_, rfl, _, _, rfl, rfl, pw_ok (by decide) (by decide), _, _, rfl, rfl, t, _, d2, rfl, y2, by omega, by rw [p30]; decide, by rw [p30]; decide, fun v3 d3 I3 j3 y3 m3 n3 a3 b3 => ⟨_, _, rfl, rfl, by show 3 ≤ sizeLine; decide, fun sl hsl => ?_⟩⟩
      rw [p30] at b3
      have ysl := y3.same (same_new (o := .lst [.int (2 + v1), .int (10 ^ (30 : Int).toNat - v2), .int (2 + v3)]) hsl)
      obtain ⟨A3, B3, et3, _⟩ := id y3
      have tsl : sl ≠ t := Ne.symm (ne_of_none et3 hsl)
      refine ⟨_, rfl, _, rfl, t, 3, d3, rfl, ysl, by omega, by decide, by decide, fun v4 d4 I4 j4 y4 m4 n4 a4 b4 => ?_⟩
      obtain ⟨n, en, hn2, hnT⟩ := many_at a4 b4 ⟨a1, b1⟩ ⟨a2, b2⟩ ⟨a3, b3⟩
      refine ⟨sl, _, v4, _, rfl, rfl, lstL (j4 sl _ tsl upd_same), en, ?_⟩
      have kA : Keep t H' I4 := j1.trans (j2.trans (j3.trans ((Same.keep (same_new hsl)).trans j4)))
      -- first, whole
      refine ⟨_, rfl, t, d4, rfl, y4, by omega, fun fp x y h d5 I5 j5 y5 m5 n5 nfp pp _ _ _ _ => ?_⟩
      have hh : h ≤ 3 := pp.2
      refine ⟨_, rfl, _, rfl, t, (n : Int), d5, rfl, y5, by omega, by omega, by omega, fun v6 d6 I6 j6 y6 m6 n6 a6 b6 => ⟨_, _, rfl, ?_⟩⟩
      obtain ⟨k, rfl⟩ := Int.eq_ofNat_of_zero_le a6
      have hkn : k < n := by omega
      -- rest
      refine ⟨_, rfl, _, rfl, _, _, rfl, rfl, t, _, d6, rfl, y6, by omega, by omega, by omega, fun v7 d7 I7 j7 y7 m7 n7 a7 b7 => ?_⟩
      obtain ⟨r, rfl⟩ := Int.eq_ofNat_of_zero_le a7
      have hrs : r ≤ p.size := by omega
      have kB : Keep t H' I7 := kA.trans (j5.trans (j6.trans j7))
      have kC : Keep t I5 I7 := j6.trans j7
      have hp7 := K15P.IsP.keep hp tk' kB
      have hm7 := hm.keep tk' kB
      have pp7 : poseO I7 fp (x, y, h) := poseO.keep pp y5 kC
      obtain ⟨A7, B7, et7, _⟩ := id y7
      dsimp only [List.set_cons_zero, List.set_cons_succ]
      -- inner
      refine ⟨_, rfl, _, rfl, pr, HQ.kwAt "pose_after" "start" K, p, r, 0, 0, 0, rfl, hp7, hrs, T.kw_pose_after_start _, by decide, fun ip J1 q1 nip eip => ?_⟩
      have hle := WM.motU_le p r
      rw [cmp_act0 _ hle] at eip
      have hp8 := K15P.IsP.same hp7 q1
      have hm8 := hm7.same q1
      have pp8 := pp7.same q1
      have y8 := y7.same q1
      -- wide
      obtain ⟨_, _, _, dp8, wdp8, ttp8, usp8, ep8, _⟩ := id hp8
      have hnT' : n ≤ WM.T30 := by
        have : WM.T30 = 1000000000000000000000000000000 := by decide
        omega
      refine ⟨_, rfl, _, rfl, pr, dp8, _, rfl, ep8, .inr ⟨_, .base (.base (.int _)), T.r_Program_Mult_int⟩, pr, p, n, rfl, hnT', hp8, fun _ _ => ⟨by omega, by omega⟩, fun wr J2 q2 hw => ?_⟩
      have hm9 := hm8.same q2
      have pp9 := pp8.same q2
      have y9 := y8.same q2
      have eip9 := eip.same q2
      obtain ⟨_, dm9, sm9, em9, fm9⟩ := id hm9
      have nf := nrm_fit (e := 1500) (WM.nrm_motU p p.size) bd15
      have kT : ((k : Nat) : Int) ≤ 1000000000000000000000000000000 := by omega
      -- due
      refine ⟨_, rfl, _, rfl, mo, dm9, _, rfl, em9, .inr ⟨_, .base (.base (.int _)), T.r_Motion_Mult_int⟩, mo, ((k : Nat) : Int), _, rfl, hm9, Int.le_trans (by decide) (Int.natCast_nonneg _), kT, nf.1, nf.2, fun r1 J3 q3 hr1 => ?_⟩
      have hr1 : MoM K J3 r1 (npow (p.motU p.size) k) := hr1
      have eip10 := eip9.same q3
      refine ⟨_, rfl, ip, _, 2, _, rfl, rfl, tupT eip10.1, atI_nat (j := 2) rfl, _, rfl, ip, _, 0, _, rfl, rfl, tupT eip10.1, atI_nat (j := 0) rfl, _, rfl, ip, _, 1, _, rfl, rfl, tupT eip10.1, atI_nat (j := 1) rfl, fun xm dxm nxm ndxm _ => make_i (t := (p.motU r).1) nxm ndxm hle rfl fun J4 q4 hxm => ⟨rfl, ?_⟩⟩
      have hxm : MoM K J4 xm (p.motU r) := hxm
      have hr1' := hr1.same q4
      obtain ⟨_, dr1, sr1, er1', fr1⟩ := id hr1'
      obtain ⟨_, dxx, sxx, exx, fxx⟩ := id hxm
      refine ⟨r1, dr1, _, rfl, er1', .inl ⟨xm, dxx, _, rfl, exx⟩, r1, xm, _, _, rfl, hr1', hxm, fun r2 J5 q5 hr2 => ?_⟩
      have q25 : Same J2 J5 := q3.trans (q4.trans q5)
      have pp12 := pp9.same q25
      refine ⟨_, rfl, r2, fp, _, x, y, h, rfl, hr2, tupT pp12.1, hh, fun du J6 q6 ndu edu => ?_⟩
      have q26 : Same J2 J6 := q25.trans q6
      have hw6 := K15P.IsP.same hw q26
      have hm6 := hm9.same q26
      have pp6 := pp9.same q26
      have y66 := y9.same q26
      obtain ⟨okw, _, _, dw6, wdw6, ttw6, usw6, ew6, _⟩ := id hw6
      have sw := rep_size p hn2
      have n100 : ((n : Nat) : Int).natAbs < 2 ^ 100 := by
        have : (2 : Nat) ^ 100 = 1267650600228229401496703205376 := by decide
        omega
      have k100 : ((k : Nat) : Int).natAbs < 2 ^ 100 := by omega
      have p15 : ((p.size : Nat) : Int).natAbs < 2 ^ 1500 := bd15
      refine ⟨_, rfl, wr, dw6, _, rfl, ew6, wr, _, rfl, hw6, _, rfl, _, rfl, _, _, rfl, rfl, wide_mul (a := 100) (b := 1500) n100 p15 (by decide) (by decide) (by decide), ?_⟩
      refine ⟨rfl, false, ?_, iteF ?_⟩
      · rw [sw, Int.natCast_mul]
        show V.bl (!decide (V.int ((n : Int) * (p.size : Int)) = V.int ((n : Int) * (p.size : Int)))) = _
        rw [decide_eq_true rfl]
        rfl
      have kle : k * p.size + r ≤ n * p.size := by
        have : (k + 1) * p.size ≤ n * p.size := Nat.mul_le_mul_right _ hkn
        rw [Nat.add_mul, Nat.one_mul] at this
        omega
      refine ⟨_, rfl, _, rfl, _, rfl, _, _, rfl, rfl, wide_mul (a := 100) (b := 1500) k100 p15 (by decide) (by decide) (by decide), _, rfl, _, _, rfl, rfl, _, rfl, rfl, rfl, wr, fp, K15P.rep p n, k * p.size + r, x, y, h, by rw [Int.natCast_add, Int.natCast_mul]; rfl, hw6, by rw [sw]; exact kle, tupT pp6.1, hh, fun zp J7 q7 nzp ezp => ?_⟩
      rw [rep_part ok hn2 hkn hrs] at ezp
      refine ⟨_, rfl, _, _, ezp.dp, (edu.same q7).dp, rfl, rfl, false, by rw [neq_pose rfl], iteF ?_⟩
      have q27 : Same J2 J7 := q26.trans q7
      have hw7 := K15P.IsP.same hw q27
      have hm7' := hm9.same q27
      have pp77 := pp9.same q27
      have y77 := y9.same q27
      obtain ⟨_, dm7, sm7, em7, fm7⟩ := id hm7'
      -- wide it is
      refine ⟨_, rfl, _, rfl, _, rfl, _, _, rfl, rfl, wide_mul (a := 100) (b := 1500) n100 p15 (by decide) (by decide) (by decide), _, rfl, _, rfl, mo, dm7, _, rfl, em7, .inr ⟨_, .base (.base (.int _)), T.r_Motion_Mult_int⟩, mo, ((n : Nat) : Int), _, rfl, hm7', Int.le_trans (by decide) (Int.natCast_nonneg _), hnT, nf.1, nf.2, fun mw J8 q8 hmw => ⟨_, _, _, rfl, ?_⟩⟩
      have hmw : MoM K J8 mw (npow (p.motU p.size) n) := hmw
      rw [← rep_full ok hn2] at hmw
      have lw := rep_lev p hn2
      have ww := rep_words p hn2
      show Ends.nx _ [some (.ref t), some (.ref wl), some (.str (stS p0)), some (.ref fl), some (.str (stS pf)), some (.ref bl), some (.str (stS pb)), some (.ref wr), some (.ref mw), some (.int ((n : Int) * (p.size : Int))), some (.int (0 + (i : Int))), some (.ref sl), some (.int (n : Int)), some (.ref fp), some (.int (k : Int)), some (.int (r : Int)), some (.ref ip), some (.ref wr), some (.ref du), z19] _
      rw [← Int.natCast_mul, ← sw]
      obtain ⟨p2, ep2⟩ : ∃ p2, p2 = K15P.rep p n := ⟨_, rfl⟩
      rw [← ep2] at hmw lw ww hw7 ⊢
      have hw8 := K15P.IsP.same hw7 q8
      have pp8' := pp77.same q8
      have y88 := y77.same q8
      have kD : Keep t H3 J8 := kH'.trans (kB.trans (Same.keep (q1.trans (q2.trans (q27.trans q8)))))
      have ud : d7 ≤ 300000 + 40 * i + 20 := by omega
      clear hw7 hw6 hw hp8 hp7 hm7 hm8 hm9 hm6 pp6 pp8 pp9 pp12 pp7 y7 y8 y9 y66 y77 hm7' em7 fm7 ezp edu hr1 hr1' hxm er1' fr1 exx fxx eip eip9 eip10 em9 fm9 ep8 ew6
      -- its motion
      refine ⟨_, rfl, wr, p2, rfl, hw8, fun r3 J9 q9 hr3 => ?_⟩
      have hmw9 := hmw.same q9
      obtain ⟨_, d14, s14, e14, f14⟩ := id hr3
      obtain ⟨_, d15, s15, e15, f15⟩ := id hmw9
      refine ⟨_, rfl, r3, d14, _, _, rfl, e14, .inl ⟨mw, d15, _, rfl, e15, rfl⟩, T.nf_self, r3, _, _, rfl, hr3, .inl ⟨mw, _, rfl, hmw9, true, by rw [decide_eq_true rfl], false, rfl, iteF ?_⟩⟩
      have hw9 := K15P.IsP.same hw8 q9
      have pp9 := pp8'.same q9
      have y9 := y88.same q9
      have kE : Keep t H3 J9 := kD.trans (Same.keep q9)
      refine ⟨_, rfl, t, 2, d7, rfl, y9, by omega, by decide, by decide, fun v8 d8 L1 j8 y8 m8 n8 a8 b8 => ⟨rfl, _, rfl, ?_⟩⟩
      have hwL := K15P.IsP.keep hw9 y9 j8
      have hmL := hmw9.keep y9 j8
      have ppL := poseO.keep pp9 y9 j8
      have kL : Keep t H3 L1 := kE.trans j8
      refine ite_post (fun σ' H' => ∃ (pr mo : Addr) (p : Ps) (c' : Nat) (z19 : Option V), Keep t H3 H' ∧ Tk H' t c' ∧ c' ≤ 300000 + 40 * (i + 1) ∧ p.lev ≤ 2 + (i + 1) ∧ p.words.length ≤ 60 + 50 * (i + 1) ∧ K15P.IsP K H' pr p ∧ MoM K H' mo (p.motU p.size) ∧ poseO H' fp (x, y, h) ∧
          σ' = [some (.ref t), some (.ref wl), some (.str (stS p0)), some (.ref fl), some (.str (stS pf)), some (.ref bl), some (.str (stS pb)), some (.ref pr), some (.ref mo), some (.int (p.size : Int)), some (.int (0 + (i : Int))), some (.ref sl), some (.int (n : Int)), some (.ref fp), some (.int (k : Int)), some (.int (r : Int)), some (.ref ip), some (.ref wr), some (.ref du), z19])
        (fun e D' hD' => ?_) (fun _ => ⟨wr, mw, p2, d8, z19, kL, y8, by omega, by omega, by omega, hwL, hmL, ppL, rfl⟩) (fun σ'' H'' hp => ?_)
      · have ok2 : p2.ok := hwL.1
        have fF := kL fl _ tfl ew2'
        have fB := kL bl _ tbl ew3
        obtain ⟨_, _, _, dw, wdw, ttw, usw, eww, _⟩ := id hwL
        have aw1 : (pf.app p2).words = pf.words ++ p2.words := WM.app_words _ _
        have aw2 : ((pf.app p2).app pb).words = pf.words ++ p2.words ++ pb.words := by rw [WM.app_words, aw1]
        have as1 : (pf.app p2).size = pf.size + p2.size := WM.app_size _ _
        have as2 : ((pf.app p2).app pb).size = pf.size + p2.size + pb.size := by rw [WM.app_size, as1]
        have al2 : ((pf.app p2).app pb).lev = max (max pf.lev p2.lev) pb.lev := by rw [app_lev, app_lev]
        have lw1 : (pf.app p2).words.length = pf.words.length + p2.words.length := by rw [aw1, List.length_append]
        have lw2 : ((pf.app p2).app pb).words.length = pf.words.length + p2.words.length + pb.words.length := by rw [aw2, List.length_append, List.length_append]
        have ok1 : (pf.app p2).ok := app_ok okf ok2
        -- the new program
        refine ⟨⟨_, rfl⟩, _, rfl, _, fl, pf.words.map Wd.str, rfl, rfl, .inl (lq fF), sums_le okf (by omega), fin_p okf (by omega) (by omega) (fun q1 X1 s1 hq1 => ?_) (TL.join_eq _ _)⟩
        obtain ⟨_, _, _, dq1, _, _, _, eq1, _⟩ := id hq1
        refine ⟨_, rfl, q1, dq1, _, rfl, eq1, .inl ⟨wr, dw, _, rfl, s1 _ _ eww⟩, q1, wr, pf, p2, rfl, hq1, K15P.IsP.same hwL s1, by omega, fun q2 X2 s2 hq2 => ?_⟩
        have s12 : Same L1 X2 := s1.trans s2
        refine ⟨⟨_, rfl⟩, _, rfl, _, bl, pb.words.map Wd.str, rfl, rfl, .inl (lq (s12 _ _ fB)), sums_le okb (by omega), fin_p okb (by omega) (by omega) (fun q3 X3 s3 hq3 => ?_) (TL.join_eq _ _)⟩
        have hq2' := K15P.IsP.same hq2 s3
        obtain ⟨_, _, _, dq2, _, _, _, eq2, _⟩ := id hq2'
        obtain ⟨_, _, _, dq3, _, _, _, eq3, _⟩ := id hq3
        refine ⟨q2, dq2, _, rfl, eq2, .inl ⟨q3, dq3, _, rfl, eq3⟩, q2, q3, pf.app p2, pb, rfl, hq2', hq3, by omega, fun q4 X4 s4 hq4 => ?_⟩
        have s14 : Same L1 X4 := s12.trans (s3.trans s4)
        -- the new motion
        refine ⟨_, rfl, stS pf, rfl, sixS okf, szS (by omega), fun m1 Y1 u1 hm1 => ?_⟩
        have hm1 : MoM K Y1 m1 (stM pf.steps) := hm1
        have hmY := (hmL.same s14).same u1
        obtain ⟨_, dm1, _, em1, _⟩ := id hm1
        obtain ⟨_, dmY, _, emY, _⟩ := id hmY
        refine ⟨_, rfl, m1, dm1, _, rfl, em1, .inl ⟨mw, dmY, _, rfl, emY⟩, m1, mw, _, _, rfl, hm1, hmY, fun m2 Y2 u2 hm2 => ?_⟩
        refine ⟨_, rfl, stS pb, rfl, sixS okb, szS (by omega), fun m3 Y3 u3 hm3 => ?_⟩
        have hm3 : MoM K Y3 m3 (stM pb.steps) := hm3
        have hm2' := hm2.same u3
        obtain ⟨_, dm2, _, em2, _⟩ := id hm2'
        obtain ⟨_, dm3, _, em3, _⟩ := id hm3
        refine ⟨m2, dm2, _, rfl, em2, .inl ⟨m3, dm3, _, rfl, em3⟩, m2, m3, _, _, rfl, hm2', hm3, fun m4 Y4 u4 hm4 => ?_⟩
        have hm4 : MoM K Y4 m4 (cmp (cmp (stM pf.steps) (p2.motU p2.size)) (stM pb.steps)) := hm4
        rw [← WM.motU_full okf, ← WM.motU_full okb, ← motU_app_full okf ok2, ← motU_app_full ok1 okb] at hm4
        have uY : Same X4 Y4 := u1.trans (u2.trans (u3.trans u4))
        have lY : Same L1 Y4 := s14.trans uY
        have hq5 := K15P.IsP.same hq4 uY
        have bL : ∀ {q : Ps}, q.size ≤ 1000 → (stS q).length ≤ sizeLine := fun {q} h => Nat.le_trans (Nat.le_of_eq (WM.st_len q)) (Nat.le_trans h (by decide))
        -- its length
        refine ⟨_, rfl, _, rfl, _, rfl, bL (by omega), _, _, rfl, rfl, _, rfl, _, rfl, bL (by omega), _, _, rfl, rfl, ?_⟩
        rw [WM.st_len, WM.st_len]
        show Ends.nx _ [some (.ref t), some (.ref wl), some (.str (stS p0)), some (.ref fl), some (.str (stS pf)), some (.ref bl), some (.str (stS pb)), some (.ref q4), some (.ref m4), some (.int ((p2.size : Int) + (pf.size : Int) + (pb.size : Int))), some (.int (0 + (i : Int))), some (.ref sl), some (.int (n : Int)), some (.ref fp), some (.int (k : Int)), some (.int (r : Int)), some (.ref ip), some (.ref wr), some (.ref du), z19] _
        have esz : (p2.size : Int) + (pf.size : Int) + (pb.size : Int) = (((pf.app p2).app pb).size : Int) := by
          rw [as2]
          omega
        rw [esz]
        obtain ⟨_, _, _, dq5, _, _, _, eq5, _⟩ := id hq5
        refine ⟨_, rfl, q4, dq5, _, rfl, eq5, q4, _, rfl, hq5, _, rfl, rfl, false, by rw [decide_eq_true rfl]; rfl, iteF ?_⟩
        refine ⟨_, rfl, q4, _, rfl, hq5, fun r5 Z1 w1 hr5 => ?_⟩
        have hm5 := hm4.same w1
        obtain ⟨_, d16, _, e16, _⟩ := id hr5
        obtain ⟨_, d17, _, e17, _⟩ := id hm5
        refine ⟨_, rfl, r5, d16, _, _, rfl, e16, .inl ⟨m4, d17, _, rfl, e17, rfl⟩, T.nf_self, r5, _, _, rfl, hr5, .inl ⟨m4, _, rfl, hm5, true, by rw [decide_eq_true rfl], false, rfl, iteF ?_⟩⟩
        have hq6 := K15P.IsP.same hq5 w1
        have pp6 := (ppL.same lY).same w1
        -- the front
        refine ⟨_, rfl, _, rfl, bL (by omega), ?_⟩
        rw [WM.st_len]
        refine ⟨_, rfl, _, rfl, _, rfl, rfl, rfl, q4, fp, _, pf.size, x, y, h, rfl, hq6, by rw [as2]; omega, tupT pp6.1, hh, fun z1 Z2 w2 nz1 ez1 => ?_⟩
        refine ⟨_, rfl, stS pf, rfl, sixS okf, szS (by omega), fun m6 Z3 w3 hm6 => ?_⟩
        have hm6 : MoM K Z3 m6 (stM pf.steps) := hm6
        have pp7 := (pp6.same w2).same w3
        refine ⟨_, rfl, m6, fp, _, x, y, h, rfl, hm6, tupT pp7.1, hh, fun z2 Z4 w4 nz2 ez2 => ?_⟩
        have efr : ((pf.app p2).app pb).motU pf.size = stM pf.steps := by
          rw [WM.motU_app pb _ (by rw [as1]; omega), WM.motU_app p2 _ (Nat.le_refl _), WM.motU_full okf]
        rw [efr] at ez1
        refine ⟨_, _, (ez1.same (w3.trans w4)).dp, ez2.dp, rfl, rfl, false, by rw [neq_pose rfl], iteF ?_⟩
        have wZ : Same Y4 Z4 := w1.trans (w2.trans (w3.trans w4))
        have lZ : Same L1 Z4 := lY.trans wZ
        exact hD' _ _ ⟨q4, m4, _, d8, _, kL.trans (Same.keep lZ), y8.same lZ, by omega, by rw [al2]; omega, by omega, K15P.IsP.same hq5 wZ, hm4.same wZ, ppL.same lZ, rfl⟩
      · obtain ⟨pr, mo, p, c', z19, kH, tk, uc, lv, wd, hp, hm, pp, rfl⟩ := hp
        refine ⟨_, rfl, _, rfl, _, rfl, rfl, rfl, pr, fp, p, p.size, x, y, h, rfl, hp, Nat.le_refl _, tupT pp.1, hh, fun za M1 g1 nza eza => ?_⟩
        have hm1 := hm.same g1
        obtain ⟨_, dm, smm, emm, fmm⟩ := id hm1
        refine ⟨mo, rfl, _, rfl, ⟨dm, _, emm⟩, mo, fp, _, _, _, x, y, h, rfl, hm1, tupT (pp.same g1).1, hh, fun zb M2 g2 nzb ezb => ?_⟩
        refine ⟨_, _, (eza.same g2).dp, poseO.dp (q := act (p.motU p.size) (x, y, h)) ⟨ezb, act_le _ _⟩, rfl, rfl, false, by rw [neq_pose rfl], iteF ?_⟩
        exact ⟨pr, mo, p, c', _, _, _, _, _, _, _, _, _, _, kH.trans (Same.keep (g1.trans g2)), tk.same (g1.trans g2), uc, lv, wd, K15P.IsP.same hp (g1.trans g2), hm.same (g1.trans g2), rfl⟩
    · obtain ⟨pr, mo, p, c', z10, z11, z12, z13, z14, z15, z16, z17, z18, z19, kH', tk', uc, lv, wd, hp, hm, rfl⟩ := hp
      exact q _ (kH3.trans kH')
end
end K15M

set_option Elab.async false
set_option linter.all false
set_option maxRecDepth 100000
set_option maxHeartbeats 8000000
set_option exponentiation.threshold 3000
namespace K15M
open PySem PySem.Spec PyProof.Rows L2 RT K15 M13
open WM (Ps PartsAt letM six stM Wd wstrs textOf stS)
theorem sqlS {K : PySem.W.Frag} {H H' : Hp} {a : Addr} {xs : List V} (e : Same H H') (h : SqL K H a xs) : SqL K H' a xs := by
  rcases h with (h | ⟨o, h⟩) | h
  · exact .inl (.inl (e _ _ h))
  · exact .inl (.inr ⟨o, e _ _ h⟩)
  · exact .inr h
/-- f l f2 r -/
def pS : Ps := .lf 102 1 (.lf 108 1 (.lf 102 2 (.lf 114 1 .nil)))
theorem pS_ok : pS.ok := ⟨⟨by decide, by decide, by decide⟩, ⟨by decide, by decide, by decide⟩, ⟨by decide, by decide, by decide⟩, ⟨by decide, by decide, by decide⟩, trivial⟩
theorem pS_text : ("f l f2 r" : Str) = textOf pS.words := by decide +kernel
theorem pS_size : pS.size = 5 := rfl
theorem pS_mot : pS.motU pS.size = (0, 1, 2) := by decide +kernel
def N30 : Nat := 1000000000000000000000000000000
def N29 : Nat := 100000000000000000000000000000
theorem e30 : V.int (10 ^ (30 : Int).toNat) = V.int (N30 : Int) := by decide +kernel
theorem e529 : V.int (5 * 10 ^ (29 : Int).toNat) = V.int ((N29 * pS.size + 0 : Nat) : Int) := by decide +kernel
theorem stair_full : (K15P.rep pS N30).motU (K15P.rep pS N30).size = (0, 1000000000000000000000000000000, 2000000000000000000000000000000) := by
  rw [rep_full pS_ok (by decide), pS_mot, npow_shift]
  decide +kernel
theorem stair_part : (K15P.rep pS N30).motU (N29 * pS.size + 0) = (0, 100000000000000000000000000000, 200000000000000000000000000000) := by
  rw [rep_part pS_ok (by decide) (by decide) (Nat.zero_le _), WM.motU_zero, cmp_id _ (npow_le _ _), pS_mot, npow_shift]
  decide +kernel
section
variable {P : Program} {w : World} {K : PySem.W.Frag} {mg : Str → Option Value} {base : Heap}
def spLaw (K : PySem.W.Frag) : Sp := fun vs H Q _ => ∃ (a : Addr) (ns : List Int), vs = [.ref a] ∧ SqL K H a (ns.map V.int) ∧ ∀ H', Q (.bl true) H'
theorem ok_law (D : Ds K) (T : Tx K mg) (B : Tb K w) : FnOk P w K mg base CX0 37 (dlaw.adr K) D.fd_law ["script"] (spLaw K) := by
  have GR : FnOk P w K mg base CX0 36 _ _ _ spRight := ok_right D T B
  have GT : FnOk P w K mg base CX0 1 _ _ _ (spTank K) := ok_tank D T
  have GPi : FnOk P w K mg base CX0 19 _ _ _ (K15P.spProg K) := K15P.ok_prog D T
  have GPm : FnOk P w K mg base CX0 21 _ _ _ (K15P.spMulP K) := K15P.ok_mulP D T
  have GPo : FnOk P w K mg base CX0 35 _ _ _ (spPoseAfter K) := ok_poseafter D T B
  have GMo : FnOk P w K mg base CX0 35 _ _ _ (spMof K) := ok_mof D T B
  have GSh : FnOk P w K mg base CX0 1 _ _ _ (sShift (MoM K)) := ok_shift D T
  obtain ⟨ds0, dv0, bk0⟩ := b_pose_after0 D
  refine D.F_law.ok sclaw (fun vs H Q E h => ?_) (fun cdv A outer s H vs Q E hr h => ?_)
  · obtain ⟨a, ns, rfl, _⟩ := h
    rfl
  · obtain ⟨a, ns, rfl, hS, q⟩ := h
    have nd := sclaw.nd
    refine ⟨_, PSs.nox (pss_cons (ps_for PassesOwn.never rfl (pi_range1 (by rfl) T.z_range (pa_cons (pe_callB (call_max2 rfl) (by rfl) T.z_max (by decide +kernel) (pa_cons pe_int (pa_cons (pe_callB (call_min2 rfl) (by rfl) T.z_min (by decide +kernel) (pa_cons pe_int (pa_cons (pe_callB call_len_seq (by rfl) T.z_len PySem.boot_len (pa_cons (pv 0) pa_nil)) pa_nil))) pa_nil))) pa_nil)) (pg_name (i := 1) nd rfl (.inl rfl))
      (pss_one (ps_if (pt_not (pt_val (pe_call GR hr (by rfl) T.g__law_right D.F__law_right.kp (b__law_right D) .nil pass0 (pa_cons (pe_call GT (hr.mono (by decide)) (by rfl) T.g__law_tank D.F__law_tank.kp (b__law_tank D) .nil pass0 (pa_cons (pv 0) (pa_cons (pv 1) pa_nil))) pa_nil)))) (pss_one (ps_ret pe_bl)) pss_nil)))
        (pss_cons (ps_set (i := 2) nd rfl (.inl rfl) (pe_op (op_binO T.f_Program T.m_Program_mul GPm (hr.mono (by decide)) (b_Program_mul D) pass0) (pe_make T.k_Program GPi (hr.mono (by decide)) (by rfl) T.g_Program (b_Program_init D) .nil pass0 (pa_cons pe_str pa_nil)) (pe_op op_pow pe_int pe_int)))
        (pss_cons (ps_if (pt_cmpR (op_neD hr.units) (pe_prop (pe_call GMo (hr.mono (by decide)) (by rfl) T.g_motion_of D.F_motion_of.kp (b_motion_of D) .nil pass0 (pa_cons (pv 2) pa_nil)) T.c_Motion T.p_Motion_shift GSh (hr.mono (by decide)) (b_Motion_shift D) .nil pass0 rfl) (pe_tup (pa_cons (pe_op op_pow pe_int pe_int) (pa_cons (pe_op op_mulW pe_int (pe_op op_pow pe_int pe_int)) pa_nil))) (nomark _)) (pss_one (ps_ret pe_bl)) pss_nil)
        (pss_one (ps_ret (pe_cmpR (op_eqD hr.units) (pe_call GPo (hr.mono (by decide)) (by rfl) T.g_pose_after D.F_pose_after.kp bk0 dv0 pass0 (pa_cons (pv 2) (pa_cons (pe_op op_mulW pe_int (pe_op op_pow pe_int pe_int)) pa_nil))) (pe_tup (pa_cons (pe_op op_pow pe_int pe_int) (pa_cons (pe_op op_mulW pe_int (pe_op op_pow pe_int pe_int)) (pa_cons pe_int pa_nil)))) (nomark _))))))), ?_⟩
    refine ⟨_, rfl, a, _, rfl, .inl hS, _, _, rfl, _, _, rfl, _, rfl, ?b1, ?b2, ?_⟩
    case b1 => split <;> omega
    case b2 => split <;> split <;> omega
    refine for_range (lo := 0) (fun i σ H' => ∃ z1, SqL K H' a (ns.map V.int) ∧ σ = [some (.ref a), z1, none]) ⟨none, hS, rfl⟩ (fun k σ' H0 hk hp => ?_) fun σ' H' hp => ?_
    · obtain ⟨z1, hS0, rfl⟩ := hp
      have hk8 : k < 9 := by
        have h2 := hk
        split at h2 <;> split at h2 <;> omega
      refine ⟨_, rfl, _, rfl, a, ns, k, by rw [Int.zero_add]; rfl, hS0, by omega, fun t Ht st h0 tk0 => ?_⟩
      refine ⟨t, rfl, tk0, fun H1 k1 => ⟨true, rfl, iteF ?_⟩⟩
      have sK : Same H0 H1 := fun b o h => k1 b o (ne_of_none h h0) (st b o h)
      exact ⟨_, sqlS sK hS0, rfl⟩
    · obtain ⟨z1, hS0, rfl⟩ := hp
      refine fin_p pS_ok (by decide) (by decide) (fun ps H1 s1 hp1 => ?_) pS_text
      obtain ⟨_, _, _, dp, _, _, _, ep, _⟩ := id hp1
      refine ⟨_, _, rfl, rfl, pw_ok (by decide) (by decide), ps, dp, _, rfl, ep, .inr ⟨_, .base (.base (.int _)), T.r_Program_Mult_int⟩, ps, pS, N30, congrArg (fun z => [V.ref ps, z]) e30, by decide, hp1, fun _ _ => ⟨by decide, by decide⟩, fun sr H2 s2 hp2 => ?_⟩
      refine ⟨_, rfl, sr, _, rfl, hp2, fun m H3 s3 hm => ?_⟩
      rw [stair_full] at hm
      obtain ⟨_, dm, _, em, _⟩ := id hm
      refine ⟨m, dm, _, rfl, em, m, _, rfl, hm, fun z H4 s4 ez => ?_⟩
      refine ⟨_, _, rfl, rfl, pw_ok (by decide) (by decide), _, _, rfl, rfl, pw_ok (by decide) (by decide), _, _, rfl, rfl, wide_mul (a := 10) (b := 110) (by decide) (by rw [p30]; decide) (by decide) (by decide) (by decide), by show 2 ≤ sizeLine; decide, fun z2 nz2 => ?_⟩
      have ez2 : upd H4 z2 (.tup [.int (10 ^ (30 : Int).toNat), .int (2 * 10 ^ (30 : Int).toNat)]) z2 = some (.tup [.int (10 ^ (30 : Int).toNat), .int (2 * 10 ^ (30 : Int).toNat)]) := upd_same
      have sz2 := same_new (o := .tup [.int (10 ^ (30 : Int).toNat), .int (2 * 10 ^ (30 : Int).toNat)]) nz2
      refine ⟨_, _, .tup (tupT (sz2 _ _ ez)) (.cons (.int _) (.cons (.int _) .nil)), .tup (tupT ez2) (.cons (.int _) (.cons (.int _) .nil)), rfl, rfl, false, by decide +kernel, iteF ?_⟩
      have s24 := s3.trans (s4.trans sz2)
      refine ⟨_, rfl, _, _, rfl, rfl, pw_ok (by decide) (by decide), _, _, rfl, rfl, wide_mul (a := 10) (b := 110) (by decide) (by decide) (by decide) (by decide) (by decide), sr, HQ.kwAt "pose_after" "start" K, K15P.rep pS N30, N29 * pS.size + 0, 0, 0, 0, congrArg (fun z => [V.ref sr, z, V.ref (HQ.kwAt "pose_after" "start" K)]) e529, K15P.IsP.same hp2 s24, ?_, T.kw_pose_after_start _, by decide, fun z3 H5 s5 nz3 ez3 => ?_⟩
      · rw [rep_size pS (by decide)]
        decide
      rw [stair_part] at ez3
      refine ⟨_, _, rfl, rfl, pw_ok (by decide) (by decide), _, _, rfl, rfl, pw_ok (by decide) (by decide), _, _, rfl, rfl, wide_mul (a := 10) (b := 110) (by decide) (by decide) (by decide) (by decide) (by decide), by show 3 ≤ sizeLine; decide, fun z4 nz4 => ?_⟩
      have ez4 : upd H5 z4 (.tup [.int (10 ^ (29 : Int).toNat), .int (2 * 10 ^ (29 : Int).toNat), .int 0]) z4 = some (.tup [.int (10 ^ (29 : Int).toNat), .int (2 * 10 ^ (29 : Int).toNat), .int 0]) := upd_same
      have sz4 := same_new (o := .tup [.int (10 ^ (29 : Int).toNat), .int (2 * 10 ^ (29 : Int).toNat), .int 0]) nz4
      refine ⟨_, _, (ez3.same sz4).dp, .tup (tupT ez4) (.cons (.int _) (.cons (.int _) (.cons (.int _) .nil))), rfl, rfl, ?_⟩
      rw [show (poseD (act (0, 100000000000000000000000000000, 200000000000000000000000000000) (0, 0, 0))).eqv (PyData.tuple [PyData.int (10 ^ Int.toNat 29), PyData.int (2 * 10 ^ Int.toNat 29), PyData.int 0]) = true by decide +kernel]
      exact q _
end
end K15M

set_option Elab.async false
set_option linter.all false
set_option maxRecDepth 100000
set_option maxHeartbeats 0
open PySem PySem.W PySem.Calls PyProof.Rows
theorem PySem.Challenge.cw_plotpens_k15_motions_of_endless_programs_holds : PySem.Challenge.rw_plotpens_k15_motions_of_endless_programs.Holds := by
  w_on; o_law
  refine HandSHeadRun.head_any (r := OpenLaw.row PySem.Challenge.rw_plotpens_k15_motions_of_endless_programs) (q := view (OpenLaw.row PySem.Challenge.rw_plotpens_k15_motions_of_endless_programs).prog [68]) (H := K15.hk) (ob := K15.ob) (M := 12000) (loose := K15.names) (d := HandSHeadRun.topDef (OpenLaw.row PySem.Challenge.rw_plotpens_k15_motions_of_endless_programs).prog 68) (kwd := []) K15.ob_eq
    (by kernel_rfl) (fun s => by kernel_rfl) K15.run (by kernel_rfl) (by kernel_rfl) (by kernel_rfl) (by rfl) (by first | assumption | decide +kernel) (by decide +kernel) ⟨rfl, rfl, rfl, rfl, rfl, by decide +kernel⟩ ?hw ?hc
  case hw => w_witness2
  case hc =>
    refine RT.walk_ofG (l := PySem.Challenge.rw_plotpens_k15_motions_of_endless_programs) (n := 63) (k := 37) (x := "script") (CX := fun _ => L2.CX0) rfl (by decide) (by kernel_rfl) ⟨rfl, by decide, by decide⟩ ?F (fun _ _ _ _ _ z => z)
    intro w mg fa h Y G hmg0
    obtain ⟨K, KX, c⟩ := Y
    have hmg : mg ("law" : PySem.Str) = some (.ref fa) := by
      have e : (HandSHeadRun.topDef (OpenLaw.row PySem.Challenge.rw_plotpens_k15_motions_of_endless_programs).prog 68).name = ("law" : PySem.Str) := by kernel_rfl
      rw [← e]
      exact hmg0
    have T := K15.tx_of KX G c.a
    obtain ⟨D⟩ := K15.ds_of c.a
    have e := hmg.symm.trans T.g_law
    cases e
    have b := L2.FunD.bindsA (ps := ["script"]) D.F_law fun _ _ _ _ _ _ us hl => match us, hl with | [_], _ => rfl
    exact ⟨K, D.fd_law, K15M.spLaw K, KX, fun s v => b s [v] rfl, fun H a ns hl _ hS => ⟨a, ns, rfl, hS, fun _ => rfl⟩, fun base _ _ => .of (K15M.ok_law D T ⟨c.tab 0, c.tab 1⟩)⟩
