import PyProof.Rows.All
import Wide.All
import OpenK.AllK
import Wide.FinOn
import HandS.ForMost
import HandS.Exc
import HandS.ExcCtx
import HandS.TryOnly
import HandS.ExcInit
import HandS.IsInst
import HandS.ExcIs
import HandS.ExcField
import HandS.SortKw
import HandS.FStr
import HandS.Wide
import KE.DataMinMax
import PyProof.StrBlock2
import PyProof.Rows.RuleB_pow
import HandS.SlotsOwn
import HandS.Property
import HandS.OwnEq
import KE.KOpsOwn
import OpenK.KOps
import HandS.WordsExc
import HandS.Defaults
import HandS.EndBits
import KE.KCallOwn
import PyProof.InstEq
import KE.KStateDown
import Lean
import HandS.Head0
import HandS.Head1
import HandS.Head2
import HandS.HeadEnd
import HandS.HeadHook1
import HandS.HeadHook2
import HandS.Style
import HandS.SortInts
import HandS.Zip
import KE.KDictZip
import HandS.ForExc
import HandS.Conv
import HandS.ListItems
import HandS.Walk
import HandS.SortRule
import PySem.Challenge.RW_plotpens_k21_windows_of_numbers
set_option Elab.async false
set_option linter.all false
set_option maxRecDepth 100000
set_option maxHeartbeats 4000000
/-! a try whose clause keeps the exception: behind it the exception stands tracked -/
namespace RT
open PySem PySem.Spec PyProof.Rows L2 L2N
/-- an exception that was caught, at a: its class, its own dict -/
def ExT (a : Addr) (cls : Value) (d : Option Addr) : HO := .ext fun h => ∃ (oe : Obj) (vs : Array Value), h.get? a = some oe ∧ oe.cls = cls ∧ oe.dict = d ∧ oe.data = .fields vs
theorem exT_ok {P : Program} {w : World} {H : Hp} {h : Heap} {a : Addr} {cls : Value} {d : Option Addr} {oe : Obj} {vs : Array Value} (e : h.get? a = some oe) (z : oe.cls = cls) (z2 : oe.dict = d) (dd : oe.data = .fields vs) : ObjOk P w H h a (ExT a cls d) :=
  ⟨⟨oe, vs, e, z, z2, dd⟩, ⟨oe, e⟩, fun _ _ ⟨o, v, q, r⟩ k => ⟨o, v, k o q, r⟩⟩
section
variable {X : Cx} {pins : List (Addr × Obj)} {σ : L2.St} {H : Hp} {s : Shared}
theorem Inv.trackX {a : Addr} {o : HO} {oe : Obj} (I : Inv X pins σ H s) (he : s.heap.get? a = some oe) (hn : H a = none) (n0 : X.s_0.heap.get? a = none) (nL : a ≠ X.env.locals)
    (nC : ∀ x c, X.env.cells.lookup x = some c → c ≠ a) (nP : ∀ p ∈ X.pn ++ pins, p.1 ≠ a) (new : ObjOk X.prog X.w (upd H a o) s.heap a o) : Inv X pins σ (upd H a o) s := by
  have ne0 : ∀ b u, X.s_0.heap.get? b = some u → b ≠ a := fun b u e z => by
    rw [z, n0] at e
    cases e
  have neH : ∀ b u, H b = some u → b ≠ a := fun b u e z => by
    rw [z, hn] at e
    cases e
  refine ⟨I.ok, I.os, I.bare, ⟨I.base.keep, I.base.slot, fun b u e n hx => ?_, I.base.there, fun b xs e => ?_, fun b u xs e => ?_, fun b ps e => ?_⟩, I.loc, I.cell, ?_, fun x c e => ?_, fun p hp => ?_, fun b u e => ?_, I.len⟩
  · rw [upd_ne (ne0 b u e)]
    exact I.base.free b u e n hx
  · have q := I.base.tups b xs e
    rw [upd_ne (neH b _ q)]
    exact q
  · have q := I.base.frzs b u xs e
    rw [upd_ne (neH b _ q)]
    exact q
  · obtain ⟨m, q⟩ := I.base.tbls b ps e
    refine ⟨m, ?_⟩
    rw [upd_ne (neH b _ q)]
    exact q
  · rw [upd_ne (Ne.symm nL)]
    exact I.free
  · rw [upd_ne (nC x c e)]
    exact I.freeC x c e
  · obtain ⟨q1, q2, q3, q4, q5⟩ := I.pin p hp
    refine ⟨q1, ?_, q3, q4, q5⟩
    rw [upd_ne (nP p hp)]
    exact q2
  · by_cases hb : b = a
    · subst hb
      rw [upd_same] at e
      cases e
      exact new
    · rw [upd_ne hb] at e
      refine (I.hok b u e).stay (fun c v _ q => q) (fun c q => ?_) fun c xs q => ?_
      · rw [upd_ne (neH c _ q)]
        exact q
      · rw [upd_ne (neH c _ q)]
        exact q
end
/-- as wAs, but behind the suite the exception is tracked -/
def wAsT (K : PySem.W.Frag) (c : Value) (i : Nat) (ts : Addr → Value → Option Addr → TS) (Wout : WX) (D : Ends) : WX := fun cls d σ H =>
  ∃ b, PySem.W.exmOne K cls c = some b ∧ (b = true → ∀ a, H a = none → ts a cls d { nx := fun σ' H' => D.nx (σ'.set i none) (upd H' a (ExT a cls d)), rt := D.rt, bk := fun σ' H' => D.bk (σ'.set i none) H', ct := fun σ' H' => D.ct (σ'.set i none) H' } (σ.set i (some (.ref a))) H) ∧
    (b = false → Wout cls d σ H)
section
variable {X : Cx} {body : List Stmt} {pos pos' np : Pos} {tb : WX → TS} {Wout : WX} {i : Nat} {n x : Str} {c : Value} {b₀ : Stmt} {suite : List Stmt} {ts : Addr → Value → Option Addr → TS}
theorem ps_try_asT (hs : X.stack = X.env :: X.outer) (hf : X.env.frame = some X.env.locals) (hex : X.ex = []) (hN : X.N.Nodup) (hi : X.N[i]? = some n) (hln : X.env.kindOf n = some .local) (hc : Names X x c) (tk : L2N.Takes X Wout)
    (hb : ∀ (W : WX) (pn : List (Addr × Obj)) (xe : Value → Shared → Prop), L2N.Takes (X.tr pn xe) W → PassesOwn (model X.prog X.w) X.A X.env xe → PSs (X.tr pn xe) body (tb W))
    (hsu : ∀ (a : Addr) (oe : Obj) (cls : Value) (d : Option Addr) (pn : List (Addr × Obj)), Zn cls d oe → (∃ vs, oe.data = .fields vs) → PSs (X.suite a ((a, oe) :: pn)) (b₀ :: suite) (ts a cls d)) :
    PS X (.Try body [.ExceptHandler (some (.Name x np)) (some n) (b₀ :: suite) pos'] [] [] pos) (fun D σ H => tb (wAsT X.K c i ts Wout D) D σ H) := by
  refine ⟨fun pins s σ H D I h => ?_⟩
  have okX := I.ok
  have frEq : X.A.frames = some (X.env :: X.outer) := by rw [okX.frames, hs]
  have locN : Loc X.env.scope n := .inl hln
  refine wpAny_Try_except ?_
  refine wpAny_mono ((hb (wAsT X.K c i ts Wout D) (X.pn ++ pins) (fun e s₁ => wpAny (model X.prog X.w) X.A (noteFrame e X.env) (fun _ s₂ => wpAny (model X.prog X.w) X.A (setFlight e none) (fun _ s₃ =>
    wpAny (model X.prog X.w) X.A (handleBy e X.env [.ExceptHandler (some (.Name x np)) (some n) (b₀ :: suite) pos']) (SP X pins D) X.xe s₃) X.xe s₂) X.xe s₁) (fun u s' wish => ?_) PassesOwn.looking).run [] s σ H D (I.toTry _) h) (fun f s1 spq => ?_) (fun e s1 he => he)
  · -- the catch
    obtain ⟨a, B, sI, pins', σ', H', cls, d, rfl, J0, botB, up, airA, frA, osE, agE, b, exB, yesB, noB⟩ := wish
    have J : Inv X pins σ' H' sI := J0.ofTry okX
    have airB : Sky B (X.env :: X.outer) a (Zn cls d) X.env.locals s'.heap := by rw [← hs]; exact airA
    show wpAny (model X.prog X.w) X.A (noteFrame (.ref a) X.env) _ _ _
    refine Sky.land Zn.steady frEq hf airB fun hpA flyA growA => ?_
    have JA : Inv X pins σ' H' { s' with heap := hpA } := J.landed botB flyA.1 (up.trans growA) osE agE
    obtain ⟨oA, fvA, atA, znA, flA⟩ := flyA.there
    have noFrame : ∀ {h : Heap} {o : Obj} {vs : Array Value}, h.FunFrames B (X.env :: X.outer) → h.get? a = some o → o.data = .fields vs → a ∉ frs (X.env :: X.outer) := fun {h o vs} ff e dd hmm => by
      obtain ⟨_, o', e', hnf⟩ := ff.mem hmm
      rw [e] at e'; cases e'
      exact hnf _ dd
    have offFr := noFrame flyA.2.2.1 atA flA
    have nL : a ≠ X.env.locals := fun z => offFr (List.mem_filterMap.mpr ⟨X.env, List.mem_cons_self, by rw [hf, z]⟩)
    have nF : a ∉ X.fs := fun hmm => by
      obtain ⟨e, he, q⟩ := List.mem_filterMap.mp hmm
      exact offFr (List.mem_filterMap.mpr ⟨e, List.mem_cons_of_mem _ he, q⟩)
    have nI : ∀ o, sI.heap.get? a = some o → False := fun o e => by
      have q := botB a o e (by rw [hs]; exact offFr)
      rw [flyA.2.1] at q
      cases q
    have n0 : X.s_0.heap.get? a = none := by
      cases e : X.s_0.heap.get? a with
      | none => rfl
      | some o =>
        obtain ⟨o', e'⟩ := J.base.there a o e (by rw [hex]; exact fun z => nomatch z)
        exact (nI o' e').elim
    have nC : ∀ x c, X.env.cells.lookup x = some c → c ≠ a := fun x c e z => by
      obtain ⟨v, o, ho, _⟩ := J.cell x c e
      rw [z] at ho
      exact nI o ho
    have nP : ∀ p ∈ X.pn ++ pins, p.1 ≠ a := fun p hp z => by
      have q := (J.pin p hp).1
      rw [z] at q
      exact nI _ q
    have SA := JA.suite atA flA frA nL nF
    refine wpAny_handleBy_cons (codeAny_handlers_test ?_) (by intro q; cases q)
    have lookT : PySem.W.Looks (model X.prog X.w) hpA (typeOf (.ref a)) cls := fun A Q E s k q => wpAny_typeOf_ref (k _ _ atA) (by rw [znA.1]; exact q)
    have lookM := PySem.W.exm_one (M := model X.prog X.w) (JA.kIn) lookT exB
    have asks : ∀ {Q : Value → Shared → Prop} {E : Value → Shared → Prop}, Q c { s' with heap := hpA } → wpAny (model X.prog X.w) (X.A.mark (some (.ref a))) (eval (.Name x np) X.env) Q E { s' with heap := hpA } := fun {Q E} q => by
      obtain ⟨hg, hdbg, hmm | ⟨hmm, hv, hnn⟩⟩ := hc
      · exact ld_glob (X := X.suite a ((a, oA) :: (X.pn ++ pins))) SA hg hmm q hdbg
      · exact ld_blt (X := X.suite a ((a, oA) :: (X.pn ++ pins))) SA hg hmm hv q hnn hdbg
    refine asks (lookM.here ?_)
    cases b with
    | true =>
      refine codeAny_handlers_suite_as ?_
      refine HandSPX.lands_againZ flyA fun hpB flyB growB => ?_
      have JB : Inv X pins σ' H' { s' with heap := hpB } := J.landed botB flyB.1 ((up.trans growA).trans growB) osE agE
      obtain ⟨oB, fvB, atB, znB, flB⟩ := flyB.there
      have SB4 := JB.suite atB flB frA nL nF
      refine store_ok (X := X.suite a ((a, oB) :: (X.pn ++ pins))) (v := .ref a) SB4 hN hi locN rfl (fun sS SS => ?_) (.inr hln)
      refine wpAny_mono ((hsu a oB cls d (X.pn ++ pins) znB ⟨_, flB⟩).run [] sS _ H' _ SS (yesB rfl a frA)) (fun f sT spq => ?_) (fun _ _ z => False.elim z)
      have endO : ∀ {σT : L2.St} {HT : Hp} {Q : Shared → Prop}, Inv (X.suite a ((a, oB) :: (X.pn ++ pins))) [] σT HT sT → (∀ sU, Inv X pins (σT.set i none) HT sU → Q sU) →
          wpAny (model X.prog X.w) X.A (do bindName X.env n .none; unbindBehindTheSuite X.env n pos') (fun _ sU => Q sU) X.xe sT := fun {σT HT Q} ST hq => gone_ok (ST.unsuite okX) hN hi hln hq
      have endT : ∀ {σT : L2.St} {HT : Hp} {Q : Shared → Prop}, Inv (X.suite a ((a, oB) :: (X.pn ++ pins))) [] σT HT sT → (∀ sU, Inv X pins (σT.set i none) (upd HT a (ExT a cls d)) sU → Q sU) →
          wpAny (model X.prog X.w) X.A (do bindName X.env n .none; unbindBehindTheSuite X.env n pos') (fun _ sU => Q sU) X.xe sT := fun {σT HT Q} ST hq => by
        obtain ⟨p1, p2, _⟩ := ST.pin (a, oB) (List.mem_append_left _ List.mem_cons_self)
        refine gone_ok (Inv.trackX (ST.unsuite okX) p1 p2 n0 nL nC nP (exT_ok p1 znB.1 znB.2.1 flB)) hN hi hln hq
      cases f with
      | next =>
        obtain ⟨σT, HT, ST, qT⟩ := spq
        exact endT ST fun sU JU => ⟨_, _, JU, qT⟩
      | brk =>
        obtain ⟨σT, HT, ST, qT⟩ := spq
        exact endO ST fun sU JU => ⟨_, _, JU, qT⟩
      | cont =>
        obtain ⟨σT, HT, ST, qT⟩ := spq
        exact endO ST fun sU JU => ⟨_, _, JU, qT⟩
      | ret u =>
        obtain ⟨vT, σT, HT, ST, rT, qT⟩ := spq
        exact endO ST fun sU JU => ⟨_, _, _, JU, rT, qT⟩
    | false =>
      show wpAny _ X.A (handleBy (.ref a) X.env []) _ _ _
      refine wpAny_handleBy_nil ?_
      obtain ⟨k1, k2, k3, oe, vs, T, oT, ts', he, hz, hd, h1, hr⟩ := id flyA
      unfold PySem.passOn
      refine wpAny_bind (wpAny_field he hd h1 ?_)
      rw [if_neg (show ¬ ((Value.ref T == Value.none) = true) from by simp)]
      have outW : wpAny (model X.prog X.w) X.A (setFlight (.ref a) X.env.frame) (fun _ s4 => wpAny (model X.prog X.w) X.A (throw (.ref a) : Sem Flow) (SP X pins D) X.xe s4) X.xe { s' with heap := hpA } := by
        rw [hf]
        refine HandSPX.setFlight_upZ flyA fun hpB heldB growB => wpAny_throw (tk _ _ ?_)
        exact ⟨a, B, sI, pins, σ', H', cls, d, rfl, J, botB, (up.trans growA).trans growB, .inr (.inr (by rw [hs]; exact heldB)), frA, osE, agE, noB rfl⟩
      first
        | exact wpAny_bind (wpAny_pure (wpAny_bind outW))
        | exact wpAny_bind outW
  · cases f with
    | next =>
      obtain ⟨σ', H', J0, q⟩ := spq
      exact wpAny_execs_nil ⟨σ', H', J0.ofTry okX, q⟩
    | brk =>
      obtain ⟨σ', H', J0, q⟩ := spq
      exact ⟨σ', H', J0.ofTry okX, q⟩
    | cont =>
      obtain ⟨σ', H', J0, q⟩ := spq
      exact ⟨σ', H', J0.ofTry okX, q⟩
    | ret u =>
      obtain ⟨v, σ', H', J0, r, q⟩ := spq
      exact ⟨v, σ', H', J0.ofTry okX, r, q⟩
end
end RT

set_option Elab.async false
set_option linter.all false
set_option maxRecDepth 100000
set_option maxHeartbeats 4000000
/-! isinstance, fields of an exception that was caught and kept -/
namespace PySem.W
open PyProof.Rows
section
variable {prog : Program} {w : World} {A : Around} {E : Value → Shared → Prop} {s : Shared} {K : Frag} {x D : Addr} {ox : Obj} {od : Option Obj}
theorem kin_classX {Q : Option Value → Shared → Prop} (dGet : findIn K (.ref D) "__getattribute__" = some (some (.builtin "BaseException.__getattribute__"))) (dAlt : findIn K (.ref D) "__getattr__" = some none) (dSub : subIn K (.ref D) (.type "BaseException") = some true)
    (dDic : hasDictIn K D = true) (dCls : findIn K (.ref D) "__class__" = some (some (.builtin "object.__class__")))
    (dDes : specialIn K (.builtin "object.__class__") "__get__" = some (some (.builtin "getset_descriptor.__get__"))) (dTak : takesIn K (.builtin "object.__class__") = some true) (dMro : mroIn K D (.type "object") = some true)
    (X : K.In s.heap) (I : InstAt s.heap x ox D od) (h : Q (some (.ref D)) { s with toks := s.toks + 1 }) : wpAny (model prog w) A (getAttr? (.ref x) "__class__") Q E s := by
  have isC : (clsIn K D).isSome = true := by obtain ⟨cd, hc, _⟩ := any_some dDic; rw [hc]; rfl
  have found : findObj K D od "__class__" = some (.bind (.builtin "getset_descriptor.__get__") (.builtin "object.__class__")) := by
    cases od with
    | none => exact findObj_dataN isC dCls dDes dTak
    | some o => exact findObj_data isC dCls dDes dTak
  obtain ⟨hq0, g, d, t, os⟩ := s
  have k0 := I.type (M := model prog w)
  have k1 := looks_findIn (M := model prog w) X dGet
  have k2 := looks_findIn (M := model prog w) X dAlt
  have k3 := looks_find (M := model prog w) X I found
  have below : Looks (model prog w) hq0 (isInstance (.ref x) (.type "BaseException")) true := k0.andThen (looks_subIn X dSub)
  have z0 : (false && onTheHeap (Value.builtin "BaseException.__getattribute__")) = false := rfl
  have z2 : (Value.builtin "BaseException.__getattribute__" == Value.builtin "object.__getattribute__") = false := by decide +kernel
  have z1 : (onTheHeap (Value.ref D) && Value.builtin "BaseException.__getattribute__" == Value.builtin "object.__getattribute__") = false := by rw [z2]; rfl
  unfold getAttr? getAttrBy? getAttrBy
  refine wpAny_bind (wpAny_mkText (wpAny_bind (wpAny_attempt (wpAny_holding (wpAny_bind (k0.at (wpAny_bind (k1.at ?_))))))))
  show wpAny _ _ (if (onTheHeap (Value.ref D) && Value.builtin "BaseException.__getattribute__" == Value.builtin "object.__getattribute__") = true then _ else _) _ _ _
  rw [z1, if_neg Bool.false_ne_true]
  unfold getAttrByItsOwn hookBefore
  refine wpAny_bind ?_
  rw [if_pos (show onTheHeap (Value.ref D) = true from rfl)]
  refine k2.at ?_
  refine wpAny_bind (wpAny_attempt (wpAny_holding ?_))
  unfold callGetattribute
  rw [z0, if_neg Bool.false_ne_true]
  unfold boundAndCalled
  rw [PySem.F.excAttr_ValueError.ga.bind (.ref x)]
  refine wpAny_bind (wpAny_pure ?_)
  show wpAny _ _ (call (.builtin "BaseException.__getattribute__") [.ref x, .str "__class__" t]) _ _ _
  refine wpAny_call (codeAny_call_builtin PySem.F.excAttr_ValueError.ga.plain PySem.F.entry_bexc_ga ?_)
  refine @check_slot (model prog w) _ _ ⟨hq0, g, d, t + 1, os⟩ "BaseException.__getattribute__" "BaseException" "__getattribute__" (.ref x) [.str "__class__" t] [] _ (by decide +kernel) (by decide +kernel) below (PySem.F.args_bexc_ga (.ref x) (.str "__class__" t)) ?_
  unfold Builtin.«object.__getattribute__»
  refine wpAny_bind (wpAny_of_eq (a := ((Value.ref x : Value), [Value.str "__class__" t])) (by first | rfl | (simp only [slotArgs]; rfl)) ?_)
  refine wpAny_bind (wpAny_pure (wpAny_bind (k0.at (wpAny_bind (k3.at ?_)))))
  show wpAny _ _ (holding [Value.builtin "object.__class__"] (call (.builtin "getset_descriptor.__get__") [.builtin "object.__class__", .ref x, .ref D]) >>= ret) _ _ _
  refine wpAny_bind (wpAny_holding (wpAny_call (class_get (s := ⟨hq0, g, d, t + 1, os⟩) (ox := ox) (od := od) X I dMro ?_)))
  refine wpAny_pure ?_
  show wpAny _ _ (handedOut (.ref D)) _ _ _
  rw [handedOut_of (v := .ref D) rfl]
  first
    | exact wpAny_pure (wpAny_pure h)
    | exact wpAny_pure h
    | exact wpAny_pure (wpAny_bind (wpAny_pure (wpAny_pure h)))
theorem kitx_excX (dGet : findIn K (.ref D) "__getattribute__" = some (some (.builtin "BaseException.__getattribute__"))) (dAlt : findIn K (.ref D) "__getattr__" = some none) (dSub : subIn K (.ref D) (.type "BaseException") = some true) (dDic : hasDictIn K D = true) (dCls : findIn K (.ref D) "__class__" = some (some (.builtin "object.__class__")))
    (dDes : specialIn K (.builtin "object.__class__") "__get__" = some (some (.builtin "getset_descriptor.__get__"))) (dTak : takesIn K (.builtin "object.__class__") = some true) (dMro : mroIn K D (.type "object") = some true) :
    KitX K (.ref x) (.ref D) (fun h => InstAt h x ox D od) where
  ty := fun _ _ _ I => I.type
  it := fun _ _ X _ => by
    obtain ⟨cdx, hcx, _⟩ := any_some dDic
    unfold clsIn at hcx
    split at hcx
    · rename_i c1 d1 cd1 sl1 hob
      intro A1 Q1 E1 s1 k q
      unfold isType loadHead
      exact wpAny_bind (wpAny_loadPart (k _ _ (X _ _ hob)) (wpAny_pure q))
    · cases hcx
  ne := fun h tp dd its n sl X htup => by
    obtain ⟨cdx, hcx, _⟩ := any_some dDic
    refine Bool.eq_false_iff.mpr fun q => ?_
    have e : D = tp := Value.ref.inj (beq_iff_eq.mp q)
    subst e
    unfold clsIn at hcx
    split at hcx
    · rename_i c1 d1 cd1 sl1 hob
      have z := (X _ _ hob).symm.trans htup
      cases z
    · cases hcx
  ca := fun X I k => kin_classX dGet dAlt dSub dDic dCls dDes dTak dMro X I k
end
end PySem.W
namespace RT
open PySem PySem.Spec PyProof.Rows L2
/-- a value's type, exceptions that were kept too -/
inductive TyY (K : PySem.W.Frag) (H : Hp) : V → Value → Prop where
  | base {x : V} {t : Value} (h : TyX K H x t) : TyY K H x t
  | exc0 {a D : Addr} (e : H a = some (ExT a (.ref D) none)) (c : ExcC K D) : TyY K H (.ref a) (.ref D)
  | exc1 {a D dd : Addr} {fs : List (Str × V)} (e : H a = some (ExT a (.ref D) (some dd))) (e2 : H dd = some (.xd fs)) (c : ExcC K D) : TyY K H (.ref a) (.ref D)
theorem exT_get {P : Program} {w : World} {H : Hp} {h : Heap} {a : Addr} {cls : Value} {d : Option Addr} (I : HOk P w H h) (e : H a = some (ExT a cls d)) : ∃ (oe : Obj) (vs : Array Value), h.get? a = some oe ∧ oe.cls = cls ∧ oe.dict = d ∧ oe.data = .fields vs := (I a _ e).1
section
variable {X : Cx} {pins : List (Addr × Obj)} {σ : L2.St} {H : Hp} {s : Shared}
theorem inst_of {a D : Addr} {d : Option Addr} {od : Option Obj} (I : Inv X pins σ H s) (e : H a = some (ExT a (.ref D) d)) (h : match d, od with | none, none => True | some dd, some o => s.heap.get? dd = some o | _, _ => False) : ∃ oe vs, PySem.W.InstAt s.heap a oe D od ∧ oe.data = .fields vs := by
  obtain ⟨oe, vs, he, h1, h2, h3⟩ := exT_get I.hok e
  refine ⟨oe, vs, ⟨he, h1, by unfold PySem.W.notCls; rw [h3] <;> rfl, ?_⟩, h3⟩
  rw [h2]
  cases d with
  | none =>
    cases od with
    | none => trivial
    | some o => exact h
  | some dd =>
    cases od with
    | none => exact h
    | some o => exact h
theorem kit_ofY {x : V} {u t : Value} (I : Inv X pins σ H s) (rx : RelV x u) (ty : TyY X.K H x t) : ∃ P : Heap → Prop, PySem.W.KitX X.K u t P ∧ P s.heap ∧ u ≠ .builtin "__main__.__loader__#opaque" := by
  cases ty with
  | base h => exact kit_of I rx h
  | @exc0 a D e c =>
    cases (show u = Value.ref a from rx)
    obtain ⟨oe, vs, J, _⟩ := inst_of (od := none) I e trivial
    exact ⟨_, PySem.W.kitx_excX c.hg c.hk c.hs c.hd c.ha c.hn c.ht c.hm, J, fun z => nomatch z⟩
  | @exc1 a D dd fs e e2 c =>
    cases (show u = Value.ref a from rx)
    obtain ⟨mA, hns, hr⟩ := (show ObjOk X.prog X.w H s.heap dd (.xd fs) from I.hok dd _ e2)
    obtain ⟨od, ho, _⟩ := lookIn_ns hns
    obtain ⟨oe, vs, J, _⟩ := inst_of (od := some od) I e ho
    exact ⟨_, PySem.W.kitx_excX c.hg c.hk c.hs c.hd c.ha c.hn c.ht c.hm, J, fun z => nomatch z⟩
/-- isinstance(x, c); isinstance(x, (c1, c2, ..)) -/
def rIsiY (K : PySem.W.Frag) : List V → Hp → VK → Prop := fun xs H Q => ∃ (x c : V) (t u : Value) (b : Bool), xs = [x, c] ∧ ClsV c u ∧ TyY K H x t ∧ PySem.W.kitOne K t u = some b ∧ Q (.bl b) H
def rIsiTY (K : PySem.W.Frag) : List V → Hp → VK → Prop := fun xs H Q => ∃ (x : V) (tp : Addr) (cs : List V) (t : Value) (us : List Value) (b : Bool), xs = [x, .ref tp] ∧ H tp = some (.tup cs) ∧ Paired ClsV cs us ∧ TyY K H x t ∧ PySem.W.kitAny K t us = some b ∧ Q (.bl b) H
theorem vals2' {x y : V} {us : List Value} (r : Vals [x, y] us) : ∃ u v, us = [u, v] ∧ RelV x u ∧ RelV y v := Vals.two r
theorem call_isiY : CallR X (.builtin "isinstance") (rIsiY X.K) := by
  intro pins s σ H xs us Q I r h
  obtain ⟨x, c, t, u, b, rfl, k, ty, e, q⟩ := h
  obtain ⟨u1, u2, rfl, r1, r2⟩ := vals2' r
  have e2 := k.eq r2
  subst e2
  obtain ⟨P, Z, p, hx⟩ := kit_ofY I r1 ty
  exact PySem.W.kia_one Z I.kIn p e hx fun tk => ⟨.bl b, H, I.tok tk, rfl, q⟩
theorem call_isiTY : CallR X (.builtin "isinstance") (rIsiTY X.K) := by
  intro pins s σ H xs us Q I r h
  obtain ⟨x, tp, cs, t, ws, b, rfl, hT, k, ty, e, q⟩ := h
  obtain ⟨u1, u2, rfl, r1, r2⟩ := vals2' r
  cases (show u2 = Value.ref tp from r2)
  obtain ⟨P, Z, p, hx⟩ := kit_ofY I r1 ty
  obtain ⟨_, its, rv, o, h1, h2, n, h3⟩ := (show ObjOk X.prog X.w H s.heap tp (.tup cs) from I.hok tp _ hT)
  have e3 := ClsV.all k rv
  subst e3
  obtain ⟨oc, od, dt, sl⟩ := o
  simp only at h2 h3
  subst h2 h3
  exact PySem.W.kia_tup Z I.kIn p h1 e hx fun tk => ⟨.bl b, H, I.tok tk, rfl, q⟩
/-- e.f of a kept exception -/
def tXfT (K : PySem.W.Frag) (f : Str) (te : TE) : TE := fun σ H Q => te σ H fun x H1 => ∃ (a C dd : Addr) (fs : List (Str × V)) (v : V), x = .ref a ∧ XfC K C ∧ PySem.W.findIn K (.ref C) f = some none ∧ H1 a = some (ExT a (.ref C) (some dd)) ∧ H1 dd = some (.xd fs) ∧ fs.lookup f = some v ∧ Q v H1
theorem pe_xfT {e : Expr} {te : TE} {pos : Pos} {n : Str} (he : PE X e te) (hb : attributeBase e n X.env (eval e X.env) = eval e X.env := by rfl) : PE X (.Attribute e n pos) (tXfT X.K n te) := by
  refine ⟨fun pins s σ H Q I h => ?_⟩
  refine attr_of hb (thn (he.run pins s σ H _ I h) fun u s1 hh => ?_)
  obtain ⟨x, H1, I1, rx, a, C, dd, fs, v, ex, T, hno, ea, ed, l, q⟩ := hh
  subst ex
  obtain rfl : u = Value.ref a := rx
  obtain ⟨mA, hns, hr⟩ := (show ObjOk X.prog X.w H1 s1.heap dd (.xd fs) from I1.hok dd _ ed)
  obtain ⟨od, ho, hl⟩ := lookIn_ns hns
  obtain ⟨u, hu, ru⟩ := RelO.some_of (v := v) (o := mA n) (by rw [← l]; exact hr n)
  obtain ⟨oe, vs, J, _⟩ := inst_of (od := some od) I1 ea ho
  exact HandSPX.exc_get I1.kIn J T.ga T.gg T.exC (PySem.W.findObj_own T.hdC hno rfl (by rw [hl, hu])) (handed_of ru) ⟨v, H1, I1.tok _, ru, q⟩
end
end RT

set_option Elab.async false
set_option linter.all false
set_option maxRecDepth 100000
set_option maxHeartbeats 4000000
namespace RT
open PySem PySem.Spec PyProof.Rows L2
section
variable {X : Cx} {e : Expr} {es : List Expr} {ta : TA} {p1 p2 pos : Pos}
/-- Base.__init__(self, ..), Base an own class over ValueError without an __init__ -/
theorem pe_ceinit {pl : Sem Bool} {x : Str} {C0 : Addr} {mc : Value} (hg : Gl X x) (hm : X.mg x = some (.ref C0)) (ga : PySem.W.specialIn X.K (.ref C0) "__getattribute__" = some (some (.builtin "type.__getattribute__")))
    (ty : PySem.W.typeIn X.K (.ref C0) = some mc) (hr : PySem.W.readsIn X.K C0 mc = true) (vV : PySem.W.findCls X.K (.ref C0) mc "__init__" = some (.val (.builtin "ValueError.__init__"))) (ha : PA X (e :: es) ta)
    (hc : eval (.Call (.Attribute (.Name x p1) "__init__" p2) (e :: es) [] pos) X.env = (do
      let ov ← eval (.Name x p1) X.env
      standAt p2.atName
      let (f, first) ← holding [ov] (getMethod ov "__init__" pl)
      callWith pos f first (backTo pos (starEach (e :: es) X.env)) (backToKw pos (keywordEach [] X.env))) := by rfl)
    (he : starEach (e :: es) X.env = (false, eval e X.env) :: starEach es X.env := by rfl) (hpl : (backTo pos (starEach es X.env)).any (·.1) = false := by rfl) (hdb : (x == ("__debug__" : Str)) = false := by decide) :
    PE X (.Call (.Attribute (.Name x p1) "__init__" p2) (e :: es) [] pos) (tVeI X.K ta) := by
  refine ⟨fun pins s σ H Q I h => ?_⟩
  refine PySem.W.methodCall_KW (ld_glob I hg hm ?_ hdb) hc
  obtain ⟨m, fr⟩ := I.fr
  refine PySem.W.method_of_cls fr I.ok.mod.kin ga (PySem.W.cls_val fr I.ok.mod.kin ty hr vV (by decide +kernel) ?_)
  show wpAny _ _ (callWith pos (Value.builtin "ValueError.__init__") [] (backTo pos (starEach (e :: es) X.env)) []) _ _ _
  refine PyProof.Rows.callWith_method1 (thn (ha.run pos pins _ σ H _ (I.tok _) h) fun us s1 ⟨vs, H1, I1, r1, a, C, ws, ev, hl, T, ea, q⟩ => ?_) he hpl
  subst ev
  cases r1 with
  | @cons _ u0 _ ur ra rw' =>
    obtain rfl : u0 = Value.ref a := ra
    have hlen : ur.length ≤ sizeLine := by
      rw [← Paired.length rw', sizeLine_eq]
      omega
    exact oinit_ok T I1 ea hlen fun s' J => ⟨.non, H1, J, rfl, q⟩
end
end RT

set_option Elab.async false
set_option linter.all false
set_option maxRecDepth 100000
set_option maxHeartbeats 4000000
/-! further rules: repr of an int or None, {x} of None, max(.., default=), powers of greater ints, s * n -/
namespace RT
open PySem PySem.Spec PyProof.Rows L2
section
variable {X : Cx}
theorem vals1' {x : V} {us : List Value} (r : Vals [x] us) : ∃ u, us = [u] ∧ RelV x u := Vals.one r
/-- repr(n), repr(None) -/
def rRepr0 : List V → Hp → VK → Prop := fun xs H Q => (∃ i, xs = [.int i] ∧ i.natAbs.log2 < 1920 ∧ Q (.str (toString i)) H) ∨ (xs = [.non] ∧ Q (.str "None") H)
theorem call_repr0 : CallR X (.builtin "repr") rRepr0 := by
  intro pins s σ H xs us Q I r h
  rcases h with ⟨i, rfl, hz, q⟩ | ⟨rfl, q⟩
  · obtain ⟨u, rfl, t, rfl⟩ := vals1' r
    exact PySem.P.repr_of_int hz ⟨.str _, H, I.tok _, ⟨_, rfl⟩, q⟩
  · obtain ⟨u, rfl, e⟩ := vals1' r
    obtain rfl : u = Value.none := e
    exact PySem.P.repr_of_none ⟨.str _, H, I.tok _, ⟨_, rfl⟩, q⟩
/-- {x}: a text, an int, None -/
def tFmt0 (te : TE) : TE := fun σ H Q => te σ H fun x H1 => (∃ y : Str, x = .str y ∧ y.length ≤ sizeLine ∧ Q (.str y) H1) ∨ (∃ i : Int, x = .int i ∧ i.natAbs.log2 < 1920 ∧ Q (.str (toString i)) H1) ∨ (x = .non ∧ Q (.str "None") H1)
theorem pe_fmt0 {e : Expr} {te : TE} {pos : Pos} (he : PE X e te) : PE X (.FormattedValue e (-1) none pos) (tFmt0 te) := by
  refine ⟨fun pins s σ H Q I h => ?_⟩
  refine wpAny_FormattedValue_plain (thn (he.run pins s σ H _ I h) fun v s1 hv => ?_)
  obtain ⟨x, H1, I1, r1, q⟩ := hv
  rcases q with ⟨y, rfl, hz, q⟩ | ⟨i, rfl, hz, q⟩ | ⟨rfl, q⟩
  · obtain ⟨t, rfl⟩ := r1
    exact wpAny_formatField_str ⟨.str y, H1, I1, ⟨t, rfl⟩, q⟩ ⟨.str y, H1, I1.tok _, ⟨_, rfl⟩, q⟩ hz
  · obtain ⟨t, rfl⟩ := r1
    exact wpAny_formatField_int hz ⟨.str (toString i), H1, I1.tok _, ⟨_, rfl⟩, q⟩
  · obtain rfl : v = Value.none := r1
    exact wpAny_formatField_none ⟨.str _, H1, I1.tok _, ⟨_, rfl⟩, q⟩
/-- max(xs, default=d) of ints -/
def maxI (d : Int) : List Int → Int
  | [] => d
  | n :: ns => ns.foldl max n
def rMaxD (K : PySem.W.Frag) : List V → List V → Hp → VK → Prop := fun xs zs H Q => ∃ (a : Addr) (ns : List Int) (d : Int), xs = [.ref a] ∧ zs = [.int d] ∧ SqL K H a (ns.map V.int) ∧ Q (.int (maxI d ns)) H
theorem alike_ints (ns : List Int) : PySem.W.AlikeAll (ns.map PyData.int) := by
  refine ⟨fun x hx y hy => ?_, fun x hx => ?_⟩
  · obtain ⟨i, _, rfl⟩ := List.mem_map.mp hx
    obtain ⟨j, _, rfl⟩ := List.mem_map.mp hy
    rfl
  · obtain ⟨i, _, rfl⟩ := List.mem_map.mp hx
    exact fun z => nomatch z
theorem depth_ints : ∀ ns : List Int, PyData.depthAll (ns.map PyData.int) ≤ 1
  | [] => by simp [PyData.depthAll]
  | n :: ns => by
    have h := depth_ints ns
    simp only [List.map_cons, PyData.depthAll, PyData.depth]
    omega
theorem crk_maxD (hc : X.calm = true) (hu : X.A.units + 64 < cLine) : CallRK X (.builtin "max") ["default"] (rMaxD X.K) := by
  intro pins s σ H xs zs us ws Q I rx rz h
  obtain ⟨a, ns, d, rfl, rfl, hs, q⟩ := h
  obtain ⟨u, rfl, e⟩ := vals1' rx
  obtain rfl : u = Value.ref a := e
  obtain ⟨z, rfl, t, rfl⟩ := vals1' rz
  obtain ⟨its, rv, hl0, _⟩ := I.list hs
  have hl := hl0.isList
  have hr := PySem.W.readsAll_of_ints (h := s.heap) rv.ints
  have hd := depth_ints ns
  refine PySem.W.max_list_default (I.ok.hd hc) hl (by simpa using hr) (alike_ints ns) (by omega) (fun e0 h' tk k => ?_) fun y ys i v h' tk bs e hv hR k => ?_
  · have en : ns = [] := List.map_eq_nil_iff.mp e0
    subst en
    exact ⟨.int d, H, I.kept k, ⟨_, rfl⟩, q⟩
  · cases ns with
    | nil => cases e
    | cons n ns =>
      obtain ⟨rfl, rfl⟩ := List.cons.inj e
      rw [PySem.W.maxD_ints] at hR
      cases hR
      exact ⟨.int _, H, I.kept k, ⟨_, rfl⟩, q⟩
/-- a ** b of greater ints -/
def CPowW (i j : Int) : Prop := 0 ≤ j ∧ (Builtin.Int.intBits i : Int) * j ≤ 2 ^ 27
theorem op_powW : OpR X (binaryOp .Pow) (rI CPowW fun i j => .int (i ^ j.toNat)) := opI fun _ _ _ _ _ _ _ hc q => PyProof.Rows.pow_int hc.1 hc.2 q
/-- s * n -/
def rMulS : R2 := fun x y H Q => ∃ z n, x = .str z ∧ y = .int n ∧ PySem.MulOk z n ∧ Q (.str (PySem.Txt.mul z n)) H
theorem op_mulS : OpR X (binaryOp .Mult) rMulS := by
  intro pins s σ H x y v u Q I rx ry h
  obtain ⟨z, n, rfl, rfl, ok, q⟩ := h
  obtain ⟨t, rfl⟩ := rx
  obtain ⟨t', rfl⟩ := ry
  exact SB.mul ok fun t2 k => ⟨.str _, H, I.tok k, ⟨_, rfl⟩, q⟩
end
end RT

set_option Elab.async false
set_option linter.all false
set_option maxRecDepth 100000
set_option maxHeartbeats 4000000
/-! operators, len, in, == by an own class's methods -/
namespace PySem.W
open Lean Elab Tactic Meta PySem PySem.Calls PyProof.Rows
section
variable {prog : Program} {w : World} {A : Around} {E : Value → Shared → Prop} {s : Shared} {K : Frag} {x C L f : Addr} {h₀ : Heap} {m : Str → Option Value} {ox : Obj} {od : Option Obj} {T : String}
theorem rt_binT {op : Operator} {b : Value} {fo ro rc : Option Value} {Q : Value → Shared → Prop} (F : Fr h₀ L s.heap m) (X₀ : K.In h₀) (I : InstAt s.heap x ox C od) (bT : Looks (model prog w) s.heap (typeOf b) (.type T)) (cF : selfFirst K C = true)
    (sF : findIn K (.ref C) (PySem.dunder op.info.2) = some (some (.ref f))) (fF : isFn K (.ref f) = true) (rF : findIn K (.ref C) (dunderR op.info.2) = some rc) (pF : rc = none ∨ ∃ g : Addr, rc = some (.ref g))
    (h1 : findIn K (.type T) (PySem.dunder op.info.2) = some fo) (h2 : findIn K (.type T) (dunderR op.info.2) = some ro) (uF : subIn K (.type T) (.ref C) = some false)
    (h : wpAny (model prog w) A (call (.ref f) [.ref x, b]) (CmpBack Q) E s) : wpAny (model prog w) A (binaryOp op (.ref x) b) Q E s := by
  have X := X₀.keeps F.keep
  obtain ⟨cdx, more, cdE, mroE⟩ := ksp_first cF
  rcases inf : op.info with ⟨sym, nm1⟩
  rw [inf] at sF rF h1 h2
  dsimp only at sF rF h1 h2
  have tried := ksp_try X I sF fF h
  obtain ⟨hp0, g, d, tk0, os⟩ := s
  have k1 : Looks (model prog w) hp0 (typeOf (.ref x)) (.ref C) := I.type
  have k2 : Looks (model prog w) hp0 (typeOf b) (.type T) := bT
  have k3 : Looks (model prog w) hp0 (fillsNumberSlot (.ref C) nm1) true := fills_K X cdE mroE sF
  have k4 : Looks (model prog w) hp0 (fillsNumberSlot (.type T) nm1) ((fo.isSome && !isSeqSlot fo) || (ro.isSome && !isSeqSlot ro)) := ksp_fillsT X h1 h2
  have k5 : Looks (model prog w) hp0 (isSubtype (.type T) (.ref C)) false := looks_subIn X uF
  have k6 : Looks (model prog w) hp0 (numberSlotInPython (.ref C) nm1) true := ksp_inPy X sF rF pF
  have k7 : Looks (model prog w) hp0 (numberSlotInPython (.type T) nm1) false := Looks.of_pure rfl
  have k8 : Looks (model prog w) hp0 (typeLookup (.type T) (dunderR nm1)) ro := looks_findIn X h2
  generalize ((fo.isSome && !isSeqSlot fo) || (ro.isSome && !isSeqSlot ro)) = side at k4
  have apart : (Value.ref C == Value.type T) = false := Bool.eq_false_iff.mpr fun q => by cases beq_iff_eq.mp q
  simp only [binaryOp, inf]
  refine wpAny_holding (wpAny_bind ?_)
  unfold binaryOp1
  refine wpAny_bind (k1.at (wpAny_bind (k2.at (wpAny_bind (k3.at ?_)))))
  simp only [apart, Bool.false_eq_true, if_false]
  cases side with
  | false =>
    ksp_lk
    refine wpAny_mono tried (fun r s' hrr => ?_) fun _ _ e => e
    obtain ⟨v, rfl, hqq⟩ := hrr
    ksp_lk
    exact hqq
  | true =>
    ksp_lk
    refine wpAny_mono tried (fun r s' hrr => ?_) fun _ _ e => e
    obtain ⟨v, rfl, hqq⟩ := hrr
    ksp_lk
    exact hqq
end
end PySem.W
namespace RT
open PySem PySem.Spec PyProof.Rows L2
section
variable {X : Cx} {CX : CXT} {k : Nat} {C f : Addr} {fd : FuncData} {ps : List Str} {sp : Sp} {E : XK}
/-- what is asked of an own operator's class beside its method, for a right operand of a built-in type -/
structure RightT (K : PySem.W.Frag) (C : Addr) (op : Operator) (T : String) : Prop where
  r0 : PySem.W.findIn K (.ref C) (dunderR op.info.2) = some none
  t1 : ∃ fo, PySem.W.findIn K (.type T) (PySem.dunder op.info.2) = some fo
  t2 : ∃ ro, PySem.W.findIn K (.type T) (dunderR op.info.2) = some ro
  sb : PySem.W.subIn K (.type T) (.ref C) = some false
/-- x op y, x an instance of the class at C, y one too, or of a built-in type -/
def rBinO (K : PySem.W.Frag) (C : Addr) (op : Operator) (sp : Sp) (E : XK) : R2 := fun x y H Q => ∃ a dx fs, x = .ref a ∧ H a = some (.ins C dx fs) ∧ ((∃ b dy gs, y = .ref b ∧ H b = some (.ins C dy gs)) ∨ ∃ T, TyY K H y (.type T) ∧ RightT K C op T) ∧ sp [x, y] H Q E
theorem op_binO {op : Operator} (hc : PySem.W.selfFirst X.K C = true) (hm : Meth X.K C (PySem.dunder op.info.2) f) (F : FnOk X.prog X.w X.K X.mg X.base CX k f fd ps sp) (hr : Room k X.A) (hb : Binds X.K fd ps []) (hx : Passes CX X E) : OpR X (binaryOp op) (rBinO X.K C op sp E) := by
  intro pins s σ H x y v u Q I rx ry h
  obtain ⟨a, dx, fs, rfl, ea, ty, q⟩ := h
  cases (show v = Value.ref a from rx)
  obtain ⟨mA, O, _⟩ := ins_get I.hok ea
  obtain ⟨od, J, _⟩ := O.look
  obtain ⟨m, hF⟩ := I.fr
  have go : wpAny (model X.prog X.w) X.A (call (.ref f) [.ref a, u]) (PySem.W.CmpBack (EP X pins σ Q)) X.xe s := by
    refine wpAny_mono (run_fn (ds := []) (dvs := []) F hr hb .nil hx I (vs := [.ref a, y]) (.cons rfl (.cons ry .nil)) q) (fun w s' z => ?_) fun _ _ x => x
    obtain ⟨z', H', I', rz, qz⟩ := z
    exact SlX.cmpback rz ⟨z', H', I', rz, qz⟩
  rcases ty with ⟨b, dy, gs, rfl, eb⟩ | ⟨T, ty, R⟩
  · cases (show u = Value.ref b from ry)
    obtain ⟨mB, O', _⟩ := ins_get I.hok eb
    obtain ⟨od', J', _⟩ := O'.look
    exact PySem.W.binop_K hF I.ok.mod.kin J J'.type hc hm.at_ hm.fn go
  · obtain ⟨P, Z, p, _⟩ := kit_ofY I ry ty
    obtain ⟨fo, t1⟩ := R.t1
    obtain ⟨ro, t2⟩ := R.t2
    exact PySem.W.rt_binT hF I.ok.mod.kin J (Z.ty _ _ I.kIn p) hc hm.at_ hm.fn R.r0 (.inl rfl) t1 t2 R.sb go
/-- -x, ~x -/
def rUnO (C : Addr) (sp : Sp) (E : XK) : V → Hp → VK → Prop := fun x H Q => ∃ a dx fs, x = .ref a ∧ H a = some (.ins C dx fs) ∧ sp [x] H Q E
theorem un_negO (hm : Meth X.K C "__neg__" f) (F : FnOk X.prog X.w X.K X.mg X.base CX k f fd ps sp) (hr : Room k X.A) (hb : Binds X.K fd ps []) (hx : Passes CX X E) : UnR X (unaryOp .USub) (rUnO C sp E) := by
  intro pins s σ H x v Q I rx h
  obtain ⟨a, dx, fs, rfl, ea, q⟩ := h
  cases (show v = Value.ref a from rx)
  obtain ⟨mA, O, _⟩ := ins_get I.hok ea
  obtain ⟨od, J, _⟩ := O.look
  obtain ⟨m, hF⟩ := I.fr
  exact PySem.W.ksp_neg hF I.ok.mod.kin J hm.at_ hm.fn (run_fn (ds := []) (dvs := []) F hr hb .nil hx I (vs := [.ref a]) (.cons rfl .nil) q)
theorem un_invO (hm : Meth X.K C "__invert__" f) (F : FnOk X.prog X.w X.K X.mg X.base CX k f fd ps sp) (hr : Room k X.A) (hb : Binds X.K fd ps []) (hx : Passes CX X E) : UnR X (unaryOp .Invert) (rUnO C sp E) := by
  intro pins s σ H x v Q I rx h
  obtain ⟨a, dx, fs, rfl, ea, q⟩ := h
  cases (show v = Value.ref a from rx)
  obtain ⟨mA, O, _⟩ := ins_get I.hok ea
  obtain ⟨od, J, _⟩ := O.look
  obtain ⟨m, hF⟩ := I.fr
  exact PySem.W.ksp_inv hF I.ok.mod.kin J hm.at_ hm.fn (run_fn (ds := []) (dvs := []) F hr hb .nil hx I (vs := [.ref a]) (.cons rfl .nil) q)
/-- x == y by x's own __eq__, y of any kind that does not go first -/
def rEqO (K : PySem.W.Frag) (C : Addr) (sp : Sp) (E : XK) : R2 := fun x y H Q => ∃ a dx fs t, x = .ref a ∧ H a = some (.ins C dx fs) ∧ ((∃ b dy gs, y = .ref b ∧ H b = some (.ins C dy gs) ∧ t = .ref C) ∨ TyY K H y t) ∧ PySem.W.notFirst K C t = true ∧ sp [x, y] H Q E
theorem op_eqO {op : CmpOp} (hop : ∀ a b, compareOp op a b = richCompare op a b) (hm : Meth X.K C (cmpInfo op).2.1 f) (F : FnOk X.prog X.w X.K X.mg X.base CX k f fd ps sp) (hr : Room k X.A) (hb : Binds X.K fd ps []) (hx : Passes CX X E) :
    OpR X (compareOp op) (rEqO X.K C sp E) := by
  intro pins s σ H x y v u Q I rx ry h
  obtain ⟨a, dx, fs, t, rfl, ea, ty, hn, q⟩ := h
  cases (show v = Value.ref a from rx)
  obtain ⟨mA, O, _⟩ := ins_get I.hok ea
  obtain ⟨od, J, _⟩ := O.look
  obtain ⟨m, hF⟩ := I.fr
  have L : PySem.W.Looks (model X.prog X.w) s.heap (typeOf u) t := by
    rcases ty with ⟨b, dy, gs, rfl, eb, rfl⟩ | ty
    · cases (show u = Value.ref b from ry)
      obtain ⟨mB, O', _⟩ := ins_get I.hok eb
      obtain ⟨od', J', _⟩ := O'.look
      exact J'.type
    · obtain ⟨P, Z, p, _⟩ := kit_ofY I ry ty
      exact Z.ty _ _ I.kIn p
  rw [hop]
  refine PySem.W.cmp_K (op := op) (tb := t) hr.units0 hF I.ok.mod.kin J L hn hm.at_ hm.fn ?_
  refine wpAny_mono (run_fn (ds := []) (dvs := []) F hr hb .nil hx I (vs := [.ref a, y]) (.cons rfl (.cons ry .nil)) q) (fun w s' z => ?_) fun _ _ x => x
  obtain ⟨z', H', I', rz, qz⟩ := z
  exact SlX.cmpback rz ⟨z', H', I', rz, qz⟩
/-- y in x by x's own __contains__, which hands back a bool -/
def rInO (C : Addr) (sp : Sp) (E : XK) (neg : Bool) : R2 := fun y x H Q => ∃ a dx fs, x = .ref a ∧ H a = some (.ins C dx fs) ∧ sp [x, y] H (fun v H' => ∃ b, v = .bl b ∧ Q (.bl (if neg then !b else b)) H') E
theorem op_inO (hm : Meth X.K C "__contains__" f) (F : FnOk X.prog X.w X.K X.mg X.base CX k f fd ps sp) (hr : Room k X.A) (hb : Binds X.K fd ps []) (hx : Passes CX X E) : OpR X (compareOp .In) (rInO C sp E false) := by
  intro pins s σ H y x u v Q I ry rx h
  obtain ⟨a, dx, fs, rfl, ea, q⟩ := h
  cases (show v = Value.ref a from rx)
  obtain ⟨mA, O, _⟩ := ins_get I.hok ea
  obtain ⟨od, J, _⟩ := O.look
  obtain ⟨m, hF⟩ := I.fr
  refine PySem.W.in_K hF I.ok.mod.kin J hm.at_ hm.fn (wpAny_mono (run_fn (ds := []) (dvs := []) F hr hb .nil hx I (vs := [.ref a, y]) (.cons rfl (.cons ry .nil)) q) (fun w s' z => ?_) fun _ _ x => x)
  obtain ⟨z', H', I', rz, b, rfl, qz⟩ := z
  cases (show w = Value.bool b from rz)
  exact wpAny_truthy_bool ⟨.bl b, H', I', rfl, qz⟩
theorem op_notInO (hm : Meth X.K C "__contains__" f) (F : FnOk X.prog X.w X.K X.mg X.base CX k f fd ps sp) (hr : Room k X.A) (hb : Binds X.K fd ps []) (hx : Passes CX X E) : OpR X (compareOp .NotIn) (rInO C sp E true) := by
  intro pins s σ H y x u v Q I ry rx h
  obtain ⟨a, dx, fs, rfl, ea, q⟩ := h
  cases (show v = Value.ref a from rx)
  obtain ⟨mA, O, _⟩ := ins_get I.hok ea
  obtain ⟨od, J, _⟩ := O.look
  obtain ⟨m, hF⟩ := I.fr
  refine PySem.W.notIn_K hF I.ok.mod.kin J hm.at_ hm.fn (wpAny_mono (run_fn (ds := []) (dvs := []) F hr hb .nil hx I (vs := [.ref a, y]) (.cons rfl (.cons ry .nil)) q) (fun w s' z => ?_) fun _ _ x => x)
  obtain ⟨z', H', I', rz, b, rfl, qz⟩ := z
  cases (show w = Value.bool b from rz)
  exact wpAny_truthy_bool ⟨.bl (!b), H', I', rfl, qz⟩
/-- len(x) by x's own __len__ -/
def rLenO (C : Addr) (sp : Sp) (E : XK) : List V → Hp → VK → Prop := fun xs H Q => ∃ a dx fs, xs = [.ref a] ∧ H a = some (.ins C dx fs) ∧ sp [.ref a] H (fun v H' => ∃ n, v = .int n ∧ 0 ≤ n ∧ n < 2 ^ 63 ∧ Q (.int n) H') E
theorem call_lenO (hm : Meth X.K C "__len__" f) (F : FnOk X.prog X.w X.K X.mg X.base CX k f fd ps sp) (hr : Room (k + 1) X.A) (hb : Binds X.K fd ps []) (hx : Passes CX X E) : CallR X (.builtin "len") (rLenO C sp E) := by
  intro pins s σ H xs us Q I r h
  obtain ⟨a, dx, fs, rfl, ea, q⟩ := h
  obtain ⟨u, rfl, ru⟩ := vals1' r
  cases (show u = Value.ref a from ru)
  obtain ⟨mA, O, _⟩ := ins_get I.hok ea
  obtain ⟨od, J, _⟩ := O.look
  obtain ⟨m, hF⟩ := I.fr
  have r2 : Vals [V.ref a] [Value.ref a] := .cons rfl .nil
  have hl : ([Value.ref a] : List Value).length = ps.length := by
    rw [← r2.length]
    exact F.len _ _ _ _ q
  refine PySem.W.len_K hF I.ok.mod.kin J hm.at_ hm.fn (wpAny_call (codeAny_mono (F.run X.A.in1 X.stack s H ⟨[.ref a], []⟩ [.ref a] [.ref a] _ E hr.in1 I.env0.in1 (by simpa using hb s [.ref a] I.kIn (by simpa using hl)) r2 q) fun r s' hq => ?_))
  cases r with
  | error er => exact hx pins σ H s er s' I hq
  | ok fl =>
    cases fl with
    | ret u =>
      obtain ⟨v, H', I', rv, n, rfl, n0, n1, qz⟩ := I.after hq
      obtain ⟨t, rfl⟩ := (show ∃ t, u = Value.int n t from rv)
      exact ⟨⟨n0, n1⟩, .int n, H', I'.tok _, ⟨_, rfl⟩, qz⟩
    | next => exact False.elim hq
    | brk => exact False.elim hq
    | cont => exact False.elim hq
end
end RT

set_option Elab.async false
set_option linter.all false
set_option maxRecDepth 100000
set_option maxHeartbeats 4000000
/-! defs that are called where nothing is being shown: repr of lists and tuples -/
namespace RT
open PySem PySem.Spec PyProof.Rows L2
/-- as FnOk, where no repr runs around -/
structure FnG (P : Program) (w : World) (K : PySem.W.Frag) (mg : Str → Option Value) (base : Heap) (CX : CXT) (k : Nat) (f : Addr) (fd : FuncData) (ps : List Str) (sp : Sp) : Prop where
  len : ∀ vs H Q E, sp vs H Q E → vs.length = ps.length
  go : ∀ (A : Around) (outer : List Env) (s : Shared) (H : Hp) (args : Args) (us : List Value) (vs : List V) (Q : VK) (E : XK), A.guards = some [] → Room k A → Env0 P w K mg base A outer s H → BindsTo s fd args (ps.zip us) → Vals vs us → sp vs H Q E →
    codeAny (model P w) A (.call (.ref f) args) (CR CX outer P w H s Q E) s
theorem FnG.of {P : Program} {w : World} {K : PySem.W.Frag} {mg : Str → Option Value} {base : Heap} {CX : CXT} {k : Nat} {f : Addr} {fd : FuncData} {ps : List Str} {sp : Sp} (F : FnOk P w K mg base CX k f fd ps sp) : FnG P w K mg base CX k f fd ps sp :=
  ⟨F.len, fun A outer s H args us vs Q E _ => F.run A outer s H args us vs Q E⟩
theorem fnG_of {CX : CXT} {P : Program} {w : World} {K : PySem.W.Frag} {mg : Str → Option Value} {base : Heap} {k : Nat} {f : Addr} {name qual : Str} {params : Arguments} {body : List Stmt} {scope : Scope} {dV kV doc pm cdv ct oc : Value} {an od : Option Addr}
    {osl : Array (Option Value)} {N ps : List Str} {sp : Sp} (at_ : K.lookup f = some ⟨oc, od, .func (PySem.W.fnOf name qual params body scope dV kV doc pm an cdv ct), osl⟩) (code : PySem.W.codeIn K cdv qual = true) (S : FnScope N ps scope)
    (len : ∀ vs H Q E, sp vs H Q E → vs.length = ps.length)
    (walk : ∀ (A : Around) (outer : List Env) (s : Shared) (H : Hp) (vs : List V) (Q : VK) (E : XK), A.guards = some [] → Room k (A.deeper (envOfC qual scope s.heap.objs.size f cdv)) → sp vs H Q E →
      ∃ t, PSs (cxOf CX P w K mg base N qual scope f cdv A outer s H E) body t ∧ t { nx := fun _ H' => Q .non H', rt := Q } (start N vs) H) :
    FnG P w K mg base CX (k + 1) f (PySem.W.fnOf name qual params body scope dV kV doc pm an cdv ct) ps sp where
  len := len
  go := fun A outer s H args us vs Q E hg room env binds vals said => by
    have size := len _ _ _ _ said
    have here : K.In s.heap := env.mod.kin.keeps fun b o e => (env.bs b o e).1
    have free : s.heap.NoLimit := env.mod.nolimit.keeps fun b o e => (env.bs b o e).1
    have kinds : ∀ y ∈ ps.zip us, scope.names.lookup y.1 = some .local ∨ (scope.names.lookup y.1 = some .cell ∧ ((cellsFrom (s.heap.objs.size + 1) scope.names []).lookup y.1).isSome = true) := by
      rintro ⟨n, v⟩ hy
      exact (S.par n (List.of_mem_zip hy).1).imp id fun q => ⟨q, PySem.W.cellsFrom_some _ _ _ (.inl q)⟩
    refine codeAny_call_function room.depth (here _ _ at_) rfl S.co S.gen rfl (PySem.W.codeRec_of here code) (binds _ _ _ _ ?_)
    refine wpAny_newFunctionEnv_cells S.kind kinds fun e1 he s1 x => ?_
    subst he
    obtain ⟨t, ht, hq⟩ := walk A outer s H vs Q E hg (room.deeper _) said
    refine ⟨free.keeps x.toInCall.keep, codeAny_func ?_⟩
    refine wpAny_mono (ht.run [] s1 (start N vs) H _ (inv_start S room.hd env size vals x) hq) (fun fl s' done => ?_) fun _ _ z => z
    match fl, done with
    | .ret u, ⟨v, _, H', J, rv, q⟩ => exact ⟨v, H', J.os, J.bare, J.base, J.hok, rv, q⟩
    | .next, ⟨_, H', J, q⟩ => exact ⟨V.non, H', J.os, J.bare, J.base, J.hok, rfl, q⟩
    | .brk, ⟨_, _, _, q⟩ => exact q.elim
    | .cont, ⟨_, _, _, q⟩ => exact q.elim
section
variable {P : Program} {w : World} {K : PySem.W.Frag} {mg : Str → Option Value} {base : Heap} {CX : CXT}
/-- a def of the text keeps its promise where nothing is being shown -/
theorem okG {x qual : Str} {pa : Arguments} {bd : List Stmt} {sc : Scope} {dvs : List V} {kws : List (Str × V)} {f : Addr} {fd : FuncData} {N ps : List Str} {k : Nat} {sp : Sp} (F : FunD K x qual pa bd sc dvs kws f fd) (S : FnScope N ps sc) (len : ∀ vs H Q E, sp vs H Q E → vs.length = ps.length)
    (walk : ∀ (cdv : Value) (A : Around) (outer : List Env) (s : Shared) (H : Hp) (vs : List V) (Q : VK) (E : XK), A.guards = some [] → Room k (A.deeper (envOfC qual sc s.heap.objs.size f cdv)) → sp vs H Q E →
      ∃ t, PSs (cxOf CX P w K mg base N qual sc f cdv A outer s H E) bd t ∧ t { nx := fun _ H' => Q .non H', rt := Q } (start N vs) H) : FnG P w K mg base CX (k + 1) f fd ps sp := by
  obtain ⟨oc, od, dV, kV, doc, pm, an, cdv, ct, osl, rfl, lk, hcd, _, _⟩ := F.ex
  exact fnG_of lk hcd S len fun A outer s H vs Q E hg hr h => walk cdv A outer s H vs Q E hg hr h
end
section
variable {X : Cx} {CX : CXT} {k : Nat} {f : Addr} {fd : FuncData} {ps : List Str} {sp : Sp} {dvs : List V} {ds : List Value} {E : XK} {e : Expr} {es : List Expr} {t : TA} {x : Str} {p pos : Pos}
theorem pe_callG (F : FnG X.prog X.w X.K X.mg X.base CX k f fd ps sp) (hG : X.A.guards = some []) (hr : Room k X.A) (hg : Gl X x) (hm : X.mg x = some (.ref f)) (hk : PySem.W.keepIn X.K (.ref f) = true) (hb : Binds X.K fd ps ds) (hd : Vals dvs ds) (hx : Passes CX X E)
    (ha : PA X (e :: es) t) (hdb : (x == ("__debug__" : Str)) = false := by decide) (he : starEach (e :: es) X.env = (false, eval e X.env) :: starEach es X.env := by rfl) (hpl : (backTo pos (starEach es X.env)).any (·.1) = false := by rfl) :
    PE X (.Call (.Name x p) (e :: es) [] pos) (tCall sp dvs E t) := by
  refine ⟨fun pins s σ H Q I h => wpAny_Call_Name_kw (ld_glob I hg hm ?_ hdb)⟩
  refine PySem.W.callWith_K (h₀ := X.base) I.ok.mod.kin hk (thn (ha.run pos pins s σ H _ I h) fun us s1 ⟨vs, H1, I1, r, q⟩ => ⟨I1.kIn, ?_⟩) he hpl
  have r2 := r.append hd
  have hl : (us ++ ds).length = ps.length := r2.length.symm.trans (F.len _ _ _ _ q)
  refine wpAny_call (codeAny_mono (F.go X.A X.stack s1 H1 ⟨us, []⟩ (us ++ ds) (vs ++ dvs) Q E hG hr I1.env0 (hb s1 us I1.kIn hl) r2 q) fun r s' hq => ?_)
  match r, hq with
  | .error e, hq => exact hx pins σ H1 s1 e s' I1 hq
  | .ok (.ret u), hq => exact I1.after hq
/-- repr of data at any depth -/
def rReprD (K : PySem.W.Frag) : List V → Hp → VK → Prop := fun xs H Q => ∃ (a : Addr) (d : PyData), xs = [.ref a] ∧ Dp K H (.ref a) d ∧ d.showable = true ∧ d.hasDict = false ∧ d.depth ≤ 40 ∧ d.shown.length ≤ sizeLine ∧ Q (.str d.shown) H
theorem call_reprD (hG : X.A.guards = some []) (hu : X.A.units + 64 < cLine) : CallR X (.builtin "repr") (rReprD X.K) := by
  intro pins s σ H xs us Q I r h
  obtain ⟨a, d, rfl, D, hs, hd, hz, hl, q⟩ := h
  obtain ⟨u, rfl, ru⟩ := vals1' r
  obtain ⟨as, rd⟩ := Dp.reads I d _ _ D ru
  cases (show u = Value.ref a from ru)
  exact repr_of_reads' rd hs (PyData.noDict_hsm hd) hG (by omega) (fun _ _ e => e) (fun h' u tk k => ⟨.str d.shown, H, I.kept k, ⟨u, rfl⟩, q⟩) hl
end
/-! ### the law's own call -/
/-- the abstract heap at the law's entry: the script's list, locked -/
def scriptH (a : Addr) (vs : List Value) (ns : List Int) : Hp := fun b => if b = a then some (.frz { cls := .type "list", data := .seq vs.toArray } (.lst (ns.map V.int))) else none
section
variable {P : Program} {w : World} {K : PySem.W.Frag} {mg mb : Str → Option Value} {CX : CXT} {k : Nat} {fa a : Addr} {fd : FuncData} {x : Str} {sp : Sp} {s : Shared} {vs : List Value} {ns : List Int}
theorem enterG (H : Hp) (alone : ∀ b u, H b = some u → b = a ∧ ∃ o xs, u = .frz o (.lst xs)) (free : ∀ b, H b ≠ none → K.lookup b = none) (hok : HOk P w H s.heap)
    (KX : K.In s.heap) (gl : s.heap.Ns mainGlobals mg) (bl : s.heap.Ns builtinsNs mb) (bb : ∀ x : Str, x ≠ "__name__" → mb x = bootBuiltins x) (lim : s.heap.NoLimit) (gn : s.gens = #[]) (room : Room k callerA)
    (F : ∀ base : Heap, K.In base → base.Ns mainGlobals mg → FnG P w K mg base CX k fa fd [x] sp) (binds : ∀ (s : Shared) (u : Value), BindsTo s fd ⟨[u], []⟩ [(x, u)]) (said : sp [.ref a] H (fun v _ => v = .bl true) fun _ _ _ => False)
    (noX : ∀ e s', CX [] H s (fun _ _ _ => False) e s' → False) :
    codeAny (model P w) callerA (.call (.ref fa) ⟨[.ref a], []⟩) (fun r s' => r = .ok (.ret (.bool true)) ∧ OldK s.heap s'.heap ∧ s'.os = s.os ∧ AllBare s'.gens) s := by
  have noDict : ∀ {b : Addr} {o : Obj} {es : Array DictEntry} {n : Nat}, s.heap.get? b = some o → o.data = .dict es n → H b = none := fun {b o es n} e d => by
    cases q : H b with
    | none => rfl
    | some u =>
      obtain ⟨_, ob, xs, rfl⟩ := alone b u q
      obtain ⟨e1, _, its, m, _, e2⟩ := (show ObjOk P w H s.heap b (.frz ob (.lst xs)) from hok b _ q)
      rw [e] at e2
      cases e2
      cases d
  have ns_ : ∀ {b : Addr} {m : Str → Option Value}, s.heap.Ns b m → (hidT s.heap H).Ns b m := fun {b m} ⟨o, es, n, e, d, r⟩ => ⟨o, es, n, hidT_get e (noDict e d), d, r⟩
  have kb : K.In (hidT s.heap H) := fun b o e => hidT_get (KX b o e) (by
    cases q : H b with
    | none => rfl
    | some u =>
      have z := free b (by rw [q]; exact fun z => nomatch z)
      rw [e] at z
      cases z)
  have md : Mod K mg (hidT s.heap H) := ⟨kb, ns_ gl, ⟨mb, ns_ bl, bb⟩, by
    obtain ⟨mc, h1, h2⟩ := lim
    exact ⟨mc, ns_ h1, h2⟩⟩
  have env : Env0 P w K mg (hidT s.heap H) callerA [] s H := ⟨rfl, md, fun b o e => of_hidT e, Nat.le_of_eq (hidT_size _ _), trivial, (fun b hb => absurd (show b ∈ ([] : List Addr) from hb) (by simp)), hok, .of_eq gn⟩
  refine codeAny_mono ((F _ kb (ns_ gl)).go callerA [] s H ⟨[.ref a], []⟩ [.ref a] [.ref a] _ _ rfl room env (binds s (.ref a)) (.cons rfl .nil) said) fun r s' h => ?_
  match r, h with
  | .error e, h => exact (noX e s' h).elim
  | .ok (.ret u), ⟨v, H', os, bare, un, hok', rv, q⟩ =>
    have ev : v = .bl true := q
    subst ev
    obtain rfl : u = Value.bool true := rv
    refine ⟨rfl, OldK.of_keep fun b o e => ?_, os, bare⟩
    cases q : H b with
    | none => exact un.keep b o e q (fun z => nomatch z) (fun z => nomatch z)
    | some u =>
      obtain ⟨_, ob, xs, rfl⟩ := alone b u q
      obtain ⟨e1, _⟩ := hok b _ q
      obtain ⟨e2, _⟩ := hok' b _ (un.frzs b ob _ q)
      rw [e] at e1
      cases e1
      exact e2
theorem law_callG (KX : K.In s.heap) (gl : s.heap.Ns mainGlobals mg) (bl : s.heap.Ns builtinsNs mb) (bb : ∀ x : Str, x ≠ "__name__" → mb x = bootBuiltins x) (lim : s.heap.NoLimit) (gn : s.gens = #[])
    (obj : s.heap.get? a = some { cls := .type "list", data := .seq vs.toArray }) (hi : IntsAre vs ns) (hl : ns.length ≤ sizeLine) (room : Room k callerA)
    (F : ∀ base : Heap, K.In base → base.Ns mainGlobals mg → FnG P w K mg base CX k fa fd [x] sp) (binds : ∀ (s : Shared) (u : Value), BindsTo s fd ⟨[u], []⟩ [(x, u)])
    (said : ∀ H : Hp, SqL K H a (ns.map V.int) → sp [.ref a] H (fun v _ => v = .bl true) fun _ _ _ => False) (noX : ∀ H e s', CX [] H s (fun _ _ _ => False) e s' → False) :
    codeAny (model P w) callerA (.call (.ref fa) ⟨[.ref a], []⟩) (fun r s' => r = .ok (.ret (.bool true)) ∧ OldK s.heap s'.heap ∧ s'.os = s.os ∧ AllBare s'.gens) s := by
  have rv := vals_ints hi
  cases hk : K.lookup a with
  | some o =>
    have e := KX a o hk
    rw [obj] at e
    cases e
    exact enterG (fun _ => none) (fun b u z => nomatch z) (fun b z => (z rfl).elim) (fun b u z => nomatch z) KX gl bl bb lim gn room F binds
      (said _ (.inr ⟨_, vs.toArray, _, hk, rfl, rfl, rfl, by rw [List.size_toArray, hi.length]; exact hl, by simpa using rv⟩)) (noX _)
  | none =>
    have at_ : ∀ b u, scriptH a vs ns b = some u → b = a ∧ u = .frz { cls := .type "list", data := .seq vs.toArray } (.lst (ns.map V.int)) := fun b u z => by
      unfold scriptH at z
      by_cases hb : b = a
      · rw [if_pos hb] at z
        exact ⟨hb, (Option.some.inj z).symm⟩
      · rw [if_neg hb] at z
        cases z
    refine enterG (scriptH a vs ns) (fun b u z => ?_) (fun b z => ?_) (fun b u z => ?_) KX gl bl bb lim gn room F binds (said _ (.inl (.inr ⟨{ cls := .type "list", data := .seq vs.toArray }, by unfold scriptH; rw [if_pos rfl]⟩))) (noX _)
    · obtain ⟨e, rfl⟩ := at_ b u z
      exact ⟨e, _, _, rfl⟩
    · cases q : scriptH a vs ns b with
      | none => exact (z q).elim
      | some u =>
        rw [(at_ b u q).1]
        exact hk
    · obtain ⟨rfl, rfl⟩ := at_ b u z
      exact ⟨obj, by rw [List.length_map]; exact hl, vs, _, rv, obj⟩
end
/-- the end of a law's proof: the head's facts give the law's def, the def keeps its promise -/
theorem walk_ofG {l : PySem.W.OpenLaw} {n k : Nat} {q : Program} {loose : List Str} {XP : (Str → Option Value) → Heap → Prop} {YP : World → Heap → Prop} {d : DefRec} {CX : World → CXT} {x : Str}
    (hn : l.most = some n) (hn2 : n ≤ sizeLine) (hdf : d.params.defaults = []) (room : Room k callerA)
    (F : ∀ (w : World) (mg : Str → Option Value) (fa : Addr) (h : Heap), YP w h → h.Ns mainGlobals mg → mg d.name = some (.ref fa) →
      ∃ (K : PySem.W.Frag) (fd : FuncData) (sp : Sp), K.In h ∧ (∀ (s : Shared) (u : Value), BindsTo s fd ⟨[u], []⟩ [(x, u)]) ∧
        (∀ (H : Hp) (a : Addr) (ns : List Int), ns.length ≤ n → (∀ z ∈ ns, Builtin.Int.intBits z ≤ 1048576) → SqL K H a (ns.map V.int) → sp [.ref a] H (fun v _ => v = .bl true) fun _ _ _ => False) ∧
        ∀ base : Heap, K.In base → base.Ns mainGlobals mg → FnG l.prog w K mg base (CX w) k fa fd [x] sp)
    (noX : ∀ (w : World) (H : Hp) (s : Shared) (e : Value) (s' : Shared), CX w [] H s (fun _ _ _ => False) e s' → False) :
    PySem.W.WalkO q loose XP YP l.row.toRowW d [] (fun f vs => PySem.call f vs) := by
  refine Att.attach_callB hn hdf fun w s₀ s₁ mg mb fa o pm cd doc a vs ns G Y ho hd hcd hmg hobj hints hlen hbits hg => ?_
  obtain ⟨K, fd, sp, KX, hb, said, hF⟩ := F w mg fa _ Y G.T.g hmg
  exact law_callG KX G.T.g G.T.b G.T.builtins G.T.nolimit hg hobj hints (Nat.le_trans hlen hn2) room hF hb (fun H hS => said H a ns hlen hbits hS) fun H e s' => noX w H s₁ e s'
end RT

set_option Elab.async false
set_option linter.all false
set_option maxRecDepth 100000
set_option maxHeartbeats 4000000
/-! an instance called, by its own __call__; x != y by an own __eq__ -/
namespace PySem.W
open PySem PySem.Spec PySem.Calls PyProof.Rows
theorem rt_callInst {M : Model} {A : Around} {E : Value → Shared → Prop} {s : Shared} {pos : Pos} {x C : Addr} {Q : Value → Shared → Prop} {args : List (Bool × Sem Value)} (plain : (args.any (·.1) || ([] : List (Option Str × Sem Value)).any (·.1.isNone)) = false)
    (h : wpAny M A (evalArgs (.ref x) true args []) (fun a s1 => (∃ ox od, InstAt s1.heap x ox C od ∧ ox.data = .plain) ∧ wpAny M A (call (.ref x) ([] ++ a.pos) a.kw) Q E s1) E s) : wpAny M A (callWith pos (.ref x) [] args []) Q E s := by
  unfold callWith
  refine wpAny_bind (wpAny_holding (wpAny_mono h (fun a s1 h1 => wpAny_bind (wpAny_standAt ?_)) fun _ _ y => y))
  obtain ⟨⟨ox, od, I, hd⟩, go⟩ := h1
  have L := kco_keeper (M := M) I hd
  simp only [plain]
  refine wpAny_bind (L.here (wpAny_bind (wpAny_mono (wpAny_operateT go) (fun r s2 hr => wpAny_bind (wpAny_holding (wpAny_point (wpAny_pure hr)))) fun _ _ y => y)))
/-- x != b where the class has its own __eq__ and object's __ne__: what __eq__ says, turned -/
theorem rt_ne {prog : Program} {w : World} {A : Around} {E : Value → Shared → Prop} {s : Shared} {K : Frag} {x C f : Addr} {ox : Obj} {od : Option Obj} {b tb : Value} {Q : Value → Shared → Prop} (hu : A.units + 1 < cLine) (X : K.In s.heap) (I : InstAt s.heap x ox C od)
    (hb : Looks (model prog w) s.heap (typeOf b) tb) (hn : notFirst K C tb = true) (ne : findIn K (.ref C) "__ne__" = some (some (.builtin "object.__ne__"))) (hm : mroIn K C (.type "object") = some true)
    (eq : findIn K (.ref C) "__eq__" = some (some (.ref f))) (fn : isFn K (.ref f) = true) (h : wpAny (model prog w) A.in1 (call (.ref f) [.ref x, b]) (fun r s' => ∃ k, r = .bool k ∧ Q (.bool (!k)) s') E s) :
    wpAny (model prog w) A (richCompare .NotEq (.ref x) b) Q E s := by
  have inst : Looks (model prog w) s.heap (isInstance (.ref x) (.type "object")) true := I.type.andThen (looks_mroIn X hm)
  have body : wpAny (model prog w) A (call (.builtin "object.__ne__") [.ref x, b]) (fun r s' => ∃ k, r = .bool k ∧ Q (.bool k) s') E s := by
    refine wpAny_call (codeAny_call_builtin F.cmp_object.ne.plain F.cmpEntry_ne (check_slot (owner := "object") (n := "__ne__") F.cmpKind_ne F.cmpSplit_ne inst (F.cmpArgs_ne _ _) ?_))
    unfold Builtin.«object.__ne__»
    refine wpAny_bind (wpAny_of_eq (a := ((Value.ref x : Value), [b])) (by first | rfl | (simp only [slotArgs]; rfl)) ?_)
    refine wpAny_bind (wpAny_cRoomFor hu ?_)
    refine wpAny_bind (ifBound_K X I eq fn (wpAny_mono h (fun r s' z => ?_) fun _ _ z => z))
    obtain ⟨k, rfl, q⟩ := z
    exact wpAny_bind (wpAny_truthy_bool (wpAny_pure ⟨!k, rfl, q⟩))
  have one : wpAny (model prog w) A (tryCompare (.ref x) "__ne__" b) (fun r s' => ∃ v, r = some v ∧ Q v s') E s := by
    unfold tryCompare
    refine wpAny_bind ?_
    simp only [callSpecialIfBound?, bindSpecialIfBound?]
    refine wpAny_holding (wpAny_bind (wpAny_bind (wpAny_bind (I.type.here ((looks_findIn X ne).here ?_)))))
    simp only [F.cmp_object.ne.bind]
    refine wpAny_bind (wpAny_askSetting (wpAny_ite ?_))
    have last : wpAny (model prog w) A (call (.builtin "object.__ne__") ([.ref x] ++ [b]) >>= fun v => pure (some v)) (fun r s' => wpAny (model prog w) A (match r with
        | some .notImplemented | none => pure none
        | some v => pure (some v)) (fun r s' => ∃ v, r = some v ∧ Q v s') E s') E s := by
      refine wpAny_bind (wpAny_mono body (fun r s' z => ?_) fun _ _ z => z)
      obtain ⟨k, rfl, q⟩ := z
      exact wpAny_pure (wpAny_pure ⟨_, rfl, q⟩)
    split
    · exact wpAny_bind (wpAny_pure (wpAny_pure last))
    · exact wpAny_tryCatch (wpAny_bind (wpAny_pure (wpAny_pure last)))
  unfold richCompare
  simp only [oneThing_ref]
  refine wpAny_holding (wpAny_bind (wpAny_cRoomFor (by omega) ?_))
  refine wpAny_bind (I.type.here (wpAny_bind (hb.here ?_)))
  have out : ∀ {g : Option Value → Sem Value}, (∀ v, g (some v) = pure v) → wpAny (model prog w) A (tryCompare (.ref x) "__ne__" b >>= g) Q E s := fun {g} hg => wpAny_bind (wpAny_mono one (fun r s' z => by
    obtain ⟨v, rfl, q⟩ := z
    rw [hg]
    exact wpAny_pure q) fun _ _ z => z)
  split
  · rename_i q
    have e : subIn K tb (.ref C) = some false := by
      rcases Bool.or_eq_true_iff.mp hn with e | e
      · rw [beq_iff_eq.mp e] at q
        simp at q
      · exact beq_iff_eq.mp e
    refine wpAny_bind ((looks_subIn X e).here ?_)
    simp only [Bool.false_eq_true, if_false]
    exact out fun v => rfl
  · refine wpAny_bind (wpAny_pure ?_)
    simp only [Bool.false_eq_true, if_false]
    exact out fun v => rfl
end PySem.W
namespace RT
open PySem PySem.Spec PyProof.Rows L2
section
variable {X : Cx} {CX : CXT} {k i : Nat} {C f : Addr} {fd : FuncData} {ps : List Str} {sp : Sp} {E : XK} {x : Str} {p pos : Pos} {e : Expr} {es : List Expr} {t : TA}
/-- x(e, ..), x a local name that holds an instance of the class at C -/
def tCallO (i : Nat) (C : Addr) (sp : Sp) (E : XK) (t : TA) : TE := fun σ H Q => ∃ a, σ[i]? = some (some (.ref a)) ∧ t σ H fun vs H1 => (∃ dx fs, H1 a = some (.ins C dx fs)) ∧ sp (.ref a :: vs) H1 Q E
theorem pe_callO (hm : Meth X.K C "__call__" f) (hfn : PySem.W.fnIn X.K f = true) (F : FnOk X.prog X.w X.K X.mg X.base CX k f fd ps sp) (hr : Room k X.A) (hN : X.N[i]? = some x) (hv : Vis X.env.scope x) (hb : Binds X.K fd ps []) (hx : Passes CX X E) (ha : PA X (e :: es) t)
    (hdb : (x == ("__debug__" : Str)) = false := by decide) (hcd : (x == ("__classdict__" : Str)) = false := by decide)
    (he : starEach (e :: es) X.env = (false, eval e X.env) :: starEach es X.env := by rfl) (hpl : (backTo pos (starEach es X.env)).any (·.1) = false := by rfl) : PE X (.Call (.Name x p) (e :: es) [] pos) (tCallO i C sp E t) := by
  refine ⟨fun pins s σ H Q I h => ?_⟩
  obtain ⟨a, at_, ht⟩ := h
  refine wpAny_Call_Name_kw (thn ((pe_var (pos := p) hN hv hdb hcd).run pins s σ H (fun v H1 => v = .ref a ∧ H1 = H) I ⟨.ref a, at_, rfl, rfl⟩) fun u s1 ⟨v, H1, I1, r1, q1⟩ => ?_)
  obtain ⟨rfl, rfl⟩ := q1
  cases (show u = Value.ref a from r1)
  rw [he]
  refine PySem.W.rt_callInst (C := C) (by show ((false || (backTo pos (starEach es X.env)).any (·.1)) || false) = false; rw [hpl]; rfl) (Calls.evalArgs_plain ?_)
  have ha' : wpAny (model X.prog X.w) X.A (spliced (backTo pos (starEach (e :: es) X.env))) (AP X pins σ _) X.xe s1 := ha.run pos pins s1 σ _ _ I1 ht
  rw [he] at ha'
  refine thn ha' fun us s2 ⟨vs, H2, I2, r, ⟨dx, fs, ea⟩, q⟩ => ?_
  obtain ⟨mA, O, _⟩ := ins_get I2.hok ea
  obtain ⟨od, J, _⟩ := O.look
  refine ⟨⟨_, some od, J, rfl⟩, ?_⟩
  have r2 : Vals (.ref a :: vs) (.ref a :: us) := .cons rfl r
  have hl : (Value.ref a :: us).length = ps.length := r2.length.symm.trans (F.len _ _ _ _ q)
  have bd := hb s2 (.ref a :: us) I2.kIn (by simpa using hl)
  rw [List.append_nil] at bd
  refine wpAny_call (PySem.W.kco_code I2.kIn J rfl hm.at_ hm.fn hfn (codeAny_mono (F.run X.A X.stack s2 H2 ⟨.ref a :: us, []⟩ (.ref a :: us) (.ref a :: vs) Q E hr I2.env0 bd r2 q) fun r s' hq => ?_))
  match r, hq with
  | .error e, hq => exact hx pins σ H2 s2 e s' I2 hq
  | .ok (.ret u), hq => exact I2.after hq
/-- x != y by x's own __eq__ -/
def rNeO (K : PySem.W.Frag) (C : Addr) (sp : Sp) (E : XK) : R2 := fun x y H Q => ∃ a dx fs t, x = .ref a ∧ H a = some (.ins C dx fs) ∧ ((∃ b dy gs, y = .ref b ∧ H b = some (.ins C dy gs) ∧ t = .ref C) ∨ TyY K H y t) ∧ PySem.W.notFirst K C t = true ∧
  sp [x, y] H (fun v H' => ∃ k, v = .bl k ∧ Q (.bl (!k)) H') E
theorem op_neO (hne : PySem.W.findIn X.K (.ref C) "__ne__" = some (some (.builtin "object.__ne__"))) (hmr : PySem.W.mroIn X.K C (.type "object") = some true) (hm : Meth X.K C "__eq__" f) (F : FnOk X.prog X.w X.K X.mg X.base CX k f fd ps sp) (hr : Room (k + 1) X.A) (hb : Binds X.K fd ps []) (hx : Passes CX X E) :
    OpR X (compareOp .NotEq) (rNeO X.K C sp E) := by
  intro pins s σ H x y v u Q I rx ry h
  obtain ⟨a, dx, fs, t, rfl, ea, ty, hn, q⟩ := h
  cases (show v = Value.ref a from rx)
  obtain ⟨mA, O, _⟩ := ins_get I.hok ea
  obtain ⟨od, J, _⟩ := O.look
  have L : PySem.W.Looks (model X.prog X.w) s.heap (typeOf u) t := by
    rcases ty with ⟨b, dy, gs, rfl, eb, rfl⟩ | ty
    · cases (show u = Value.ref b from ry)
      obtain ⟨mB, O', _⟩ := ins_get I.hok eb
      obtain ⟨od', J', _⟩ := O'.look
      exact J'.type
    · obtain ⟨P, Z, p, _⟩ := kit_ofY I ry ty
      exact Z.ty _ _ I.kIn p
  show wpAny _ _ (richCompare .NotEq (.ref a) u) _ _ _
  have r2 : Vals [V.ref a, y] [Value.ref a, u] := .cons rfl (.cons ry .nil)
  have hl : ([Value.ref a, u] : List Value).length = ps.length := r2.length.symm.trans (F.len _ _ _ _ q)
  have bd := hb s [.ref a, u] I.kIn (by simpa using hl)
  rw [List.append_nil] at bd
  refine PySem.W.rt_ne (tb := t) (by have := hr.units; omega) I.kIn J L hn hne hmr hm.at_ hm.fn (wpAny_call (codeAny_mono (F.run X.A.in1 X.stack s H ⟨[.ref a, u], []⟩ [.ref a, u] [.ref a, y] _ E hr.in1 I.env0.in1 bd r2 q) fun r s' hq => ?_))
  match r, hq with
  | .error e, hq => exact hx pins σ H s e s' I hq
  | .ok (.ret z), hq =>
    obtain ⟨v, H', I', rv, b, rfl, qz⟩ := I.after hq
    cases (show z = Value.bool b from rv)
    exact ⟨b, rfl, .bl (!b), H', I', rfl, qz⟩
end
end RT

set_option Elab.async false
set_option linter.all false
set_option maxRecDepth 100000
set_option maxHeartbeats 4000000
/-! a head whose facts are any Bools of the written part, and defs by any address (a property's getter too) -/
namespace HP
open PySem PySem.Spec PyProof.Rows L2 He
/-- a def of the text, where it stands -/
structure DefA where
  adr : PySem.W.Frag → Addr
  name : Str
  qual : Str
  params : Arguments
  body : List Stmt
  scope : Scope
  dfl : List Dv := []
  kwd : List (Str × Dv) := []
def DefA.told (K : PySem.W.Frag) (d : DefA) : FnW := match K.lookup (d.adr K) with
  | some ⟨_, _, .func fd, _⟩ => some (fd.name, fd.qualname, fd.params, fd.body, fd.scope, fd.globals, fd.closure, fd.builtins)
  | _ => none
def DefA.want (d : DefA) : FnW := some (d.name, d.qual, d.params, .stmts d.body, d.scope, mainGlobals, [], builtinsNs)
def DefA.dvs (K : PySem.W.Frag) (d : DefA) : List V := d.dfl.map (Dv.v K)
def DefA.kws (K : PySem.W.Frag) (d : DefA) : List (Str × V) := d.kwd.map fun q => (q.1, q.2.v K)
def DefA.fine (K : PySem.W.Frag) (d : DefA) : Bool := PySem.W.keepIn K (.ref (d.adr K)) && (match K.lookup (d.adr K) with
  | some ⟨_, _, .func fd, _⟩ => PySem.W.codeIn K fd.code d.qual && (dflB K fd.defaults (d.dvs K) && kwdB K fd.kwdefaults (d.kws K))
  | _ => false)
theorem DefA.funD {K : PySem.W.Frag} {d : DefA} (e : d.told K = d.want) (c : d.fine K = true) : ∃ fd, FunD K d.name d.qual d.params d.body d.scope (d.dvs K) (d.kws K) (d.adr K) fd := by
  obtain ⟨kp, more⟩ := ba c
  unfold DefA.told at e
  split at e
  · rename_i oc od fd osl at_
    rw [at_] at more
    obtain ⟨k1, k2⟩ := ba more
    obtain ⟨k3, k4⟩ := ba k2
    cases fd
    unfold DefA.want at e
    injection e with e
    simp only [Prod.mk.injEq] at e
    obtain ⟨rfl, rfl, rfl, rfl, rfl, rfl, rfl, rfl⟩ := e
    exact ⟨_, ⟨oc, od, _, _, _, _, _, _, _, osl, rfl, at_, k1, dflB_ok k3, kwdB_ok k4⟩, kp⟩
  · cases e
abbrev Fact := PySem.W.Frag → Bool
abbrev Al := Bool × List FnW
def obsA (fa : List Fact) (fn : List DefA) (K : PySem.W.Frag) : Al := ((fa.all fun f => f K) && fn.all fun d => d.fine K, fn.map fun d => d.told K)
def wantA (fn : List DefA) : Al := (true, fn.map DefA.want)
def obsAG (n : Nat) (fa : List Fact) (fn : List DefA) (g : Addr → Option Obj) : Al := obsA fa fn (frG g (asD g n))
structure SaysA (fa : List Fact) (fn : List DefA) (K : PySem.W.Frag) : Prop where
  eq : obsA fa fn K = wantA fn
def hookA (n : Nat) (fa : List Fact) (fn : List DefA) : PySem.W.Hook where
  α := Al
  obs := fun s => obsAG n fa fn s.heap.get?
  val := fun _ => wantA fn
  says := fun _ h => ∃ K : PySem.W.Frag, K.In h ∧ SaysA fa fn K
  of := fun _ _ e => ⟨_, frG_in, ⟨e⟩⟩
  keeps := fun _ _ _ ⟨K, hK, c⟩ k => ⟨K, PySem.W.Frag.In.keeps hK k, c⟩
theorem obsAG_eq {n : Nat} {fa : List Fact} {fn : List DefA} {g : Addr → Option Obj} {s : Shared} (h : ∀ a, g a = s.heap.get? a) : obsAG n fa fn g = (hookA n fa fn).obs s := by
  rw [show g = s.heap.get? from funext h] <;> rfl
section
variable {fa : List Fact} {fn : List DefA} {K : PySem.W.Frag}
theorem SaysA.fact (c : SaysA fa fn K) (i : Nat) {f : Fact} (h : fa[i]? = some f := by rfl) : f K = true :=
  List.all_eq_true.mp (ba (congrArg Prod.fst c.eq)).1 f (List.mem_of_getElem? h)
theorem SaysA.def_ (c : SaysA fa fn K) (i : Nat) {d : DefA} (h : fn[i]? = some d := by rfl) : ∃ fd, FunD K d.name d.qual d.params d.body d.scope (d.dvs K) (d.kws K) (d.adr K) fd := by
  have hd : d ∈ fn := List.mem_of_getElem? h
  refine DefA.funD ?_ (List.all_eq_true.mp (ba (congrArg Prod.fst c.eq)).2 d hd)
  have e : fn.map (fun d => d.told K) = fn.map DefA.want := congrArg Prod.snd c.eq
  have e1 := congrArg (fun l => l[i]?) e
  simp only [List.getElem?_map, h, Option.map_some, Option.some.injEq] at e1
  exact e1
end
/-! ### facts beside He.Fa's -/
/-- a property of the class x -/
def getA (x f : Str) (K : PySem.W.Frag) : Addr := match PySem.W.recIn K (ma K (ga K x) f) "property" with
  | some (.ref g :: _) => g
  | _ => 0
def propB (x f : Str) : Fact := fun K => eqO (PySem.W.findIn K (.ref (ga K x)) f) (some (some (.ref (ma K (ga K x) f)))) && (eqO (PySem.W.specialIn K (.ref (ma K (ga K x) f)) "__get__") (some (some (.builtin "property.__get__"))) && (decide (PySem.W.takesIn K (.ref (ma K (ga K x) f)) = some true) &&
  (match PySem.W.recIn K (ma K (ga K x) f) "property" with
    | some (.ref _ :: _) => true
    | _ => false)))
theorem propB_ok {x f : Str} {K : PySem.W.Frag} (h : propB x f K = true) : PropOf K (ga K x) f (ma K (ga K x) f) (getA x f K) := by
  obtain ⟨h1, h⟩ := ba h
  obtain ⟨h2, h⟩ := ba h
  obtain ⟨h3, h4⟩ := ba h
  refine ⟨eqO_ok h1, eqO_ok h2, of_decide_eq_true h3, ?_⟩
  unfold getA
  split at h4
  · rename_i g rest e
    rw [e]
    exact ⟨rest, rfl⟩
  · cases h4
/-- own operators: the class goes first in its own order; no reflected method -/
def firstB (x : Str) : Fact := fun K => PySem.W.selfFirst K (ga K x)
def notFirstB (x : Str) (t : PySem.W.Frag → Value) : Fact := fun K => PySem.W.notFirst K (ga K x) (t K)
def rightB (x : Str) (op : Operator) (T : String) : Fact := fun K => eqO (PySem.W.findIn K (.ref (ga K x)) (dunderR op.info.2)) (some none) && ((PySem.W.findIn K (.type T) (PySem.dunder op.info.2)).isSome && ((PySem.W.findIn K (.type T) (dunderR op.info.2)).isSome && decide (PySem.W.subIn K (.type T) (.ref (ga K x)) = some false)))
theorem rightB_ok {x : Str} {op : Operator} {T : String} {K : PySem.W.Frag} (h : rightB x op T K = true) : RT.RightT K (ga K x) op T := by
  obtain ⟨h1, h⟩ := ba h
  obtain ⟨h2, h⟩ := ba h
  obtain ⟨h3, h4⟩ := ba h
  exact ⟨eqO_ok h1, Option.isSome_iff_exists.mp h2, Option.isSome_iff_exists.mp h3, of_decide_eq_true h4⟩
/-- isinstance of an instance of the class x asks its class rightly -/
def isiB (x : Str) : Fact := fun K => eqO (PySem.W.findIn K (.ref (ga K x)) "__class__") (some (some (.builtin "object.__class__"))) && (eqO (PySem.W.specialIn K (.builtin "object.__class__") "__get__") (some (some (.builtin "getset_descriptor.__get__"))) && (decide (PySem.W.takesIn K (.builtin "object.__class__") = some true) && decide (PySem.W.mroIn K (ga K x) (.type "object") = some true)))
structure IsiC (K : PySem.W.Frag) (C : Addr) : Prop where
  ha : PySem.W.findIn K (.ref C) "__class__" = some (some (.builtin "object.__class__"))
  hn : PySem.W.specialIn K (.builtin "object.__class__") "__get__" = some (some (.builtin "getset_descriptor.__get__"))
  ht : PySem.W.takesIn K (.builtin "object.__class__") = some true
  hm : PySem.W.mroIn K C (.type "object") = some true
theorem isiB_ok {x : Str} {K : PySem.W.Frag} (h : isiB x K = true) : IsiC K (ga K x) := by
  obtain ⟨h1, h⟩ := ba h
  obtain ⟨h2, h⟩ := ba h
  obtain ⟨h3, h4⟩ := ba h
  exact ⟨eqO_ok h1, eqO_ok h2, of_decide_eq_true h3, of_decide_eq_true h4⟩
/-- a global that is a tuple of flat values -/
def flatOf : Value → Option V
  | .none => some .non
  | .bool b => some (.bl b)
  | .int i _ => some (.int i)
  | .str x _ => some (.str x)
  | _ => none
theorem flatOf_ok {v : Value} {x : V} (h : flatOf v = some x) : RelV x v := by
  cases v <;> simp only [flatOf, Option.some.injEq, reduceCtorEq] at h <;> subst h <;> first | rfl | exact ⟨_, rfl⟩
theorem flats_ok : ∀ {vs : List Value} {xs : List V}, vs.map flatOf = xs.map some → Vals xs vs
  | [], [], _ => .nil
  | [], _ :: _, h => by cases h
  | _ :: _, [], h => by cases h
  | v :: vs, x :: xs, h => by
    simp only [List.map_cons, List.cons.injEq] at h
    exact .cons (flatOf_ok h.1) (flats_ok h.2)
def tupB (x : Str) (xs : List V) : Fact := fun K => match K.lookup (ga K x) with
  | some o => eqO (some (some o.cls)) (some (some (.type "tuple"))) && (match o.data with
    | .seq its _ => decide (its.toList.map flatOf = xs.map some) && decide (its.size ≤ sizeLine)
    | _ => false)
  | none => false
theorem tupB_ok {x : Str} {xs : List V} {K : PySem.W.Frag} (h : tupB x xs K = true) : ∀ H : Hp, SqT K H (ga K x) xs := by
  intro H
  unfold tupB at h
  split at h
  · rename_i o e
    obtain ⟨h1, h2⟩ := ba h
    split at h2
    · rename_i its n ed
      obtain ⟨h3, h4⟩ := ba h2
      exact .inr ⟨o, its, n, e, Option.some.inj (Option.some.inj (eqO_ok h1)), ed, of_decide_eq_true h4, flats_ok (of_decide_eq_true h3)⟩
    · cases h2
  · cases h
def neB (x : Str) : Fact := fun K => eqO (PySem.W.findIn K (.ref (ga K x)) "__ne__") (some (some (.builtin "object.__ne__")))
theorem neB_ok {x : Str} {K : PySem.W.Frag} (h : neB x K = true) : PySem.W.findIn K (.ref (ga K x)) "__ne__" = some (some (.builtin "object.__ne__")) := eqO_ok h
def fnB (x m : Str) : Fact := fun K => PySem.W.fnIn K (ma K (ga K x) m)
def kitB1 (t c : PySem.W.Frag → Value) (b : Bool) : Fact := fun K => decide (PySem.W.kitOne K (t K) (c K) = some b)
def kitA1 (t : PySem.W.Frag → Value) (cs : List Str) (b : Bool) : Fact := fun K => decide (PySem.W.kitAny K (t K) (cs.map fun x => .ref (ga K x)) = some b)
def fa_ (f : Fa) : Fact := fun K => f.ok K
end HP

set_option Elab.async false
set_option linter.all false
set_option maxRecDepth 100000
set_option maxHeartbeats 4000000
namespace K21
open PySem PySem.Spec PyProof.Rows L2 RT
def top (i : Nat) : Stmt := PySem.Challenge.pw_plotpens_k21_windows_of_numbers.main.body.getD i (.Pass ⟨0, 0, 0, 0⟩)
abbrev sis_integer : Stmt := top 4
abbrev sis_tuple_of : Stmt := top 5
abbrev sis_point : Stmt := top 6
abbrev scovered : Stmt := top 8
abbrev sodd_covered : Stmt := top 9
abbrev scount_covered_in : Stmt := top 10
abbrev scount_odd_in : Stmt := top 11
abbrev sodd_pieces : Stmt := top 12
abbrev scheck_intervals : Stmt := top 13
abbrev s_is_interval : Stmt := top 14
abbrev s_law_tank : Stmt := top 16
abbrev s_law_dip : Stmt := top 17
abbrev s_law_numbers : Stmt := top 18
abbrev s_law_right : Stmt := top 19
abbrev slaw : Stmt := top 20
abbrev Nis_integer : List Str := ["value"]
theorem scis_integer : FnScope Nis_integer ["value"] (defScope sis_integer) := ⟨rfl, rfl, rfl, by decide +kernel, rfl, by decide +kernel, by decide +kernel⟩
abbrev Nis_tuple_of : List Str := ["value", "many"]
theorem scis_tuple_of : FnScope Nis_tuple_of ["value", "many"] (defScope sis_tuple_of) := ⟨rfl, rfl, rfl, by decide +kernel, rfl, by decide +kernel, by decide +kernel⟩
abbrev Nis_point : List Str := ["value"]
theorem scis_point : FnScope Nis_point ["value"] (defScope sis_point) := ⟨rfl, rfl, rfl, by decide +kernel, rfl, by decide +kernel, by decide +kernel⟩
abbrev Ncovered : List Str := ["intervals"]
theorem sccovered : FnScope Ncovered ["intervals"] (defScope scovered) := ⟨rfl, rfl, rfl, by decide +kernel, rfl, by decide +kernel, by decide +kernel⟩
abbrev Nodd_covered : List Str := ["intervals"]
theorem scodd_covered : FnScope Nodd_covered ["intervals"] (defScope sodd_covered) := ⟨rfl, rfl, rfl, by decide +kernel, rfl, by decide +kernel, by decide +kernel⟩
abbrev Ncount_covered_in : List Str := ["intervals", "total", "reach", "start", "end", "first"]
theorem sccount_covered_in : FnScope Ncount_covered_in ["intervals"] (defScope scount_covered_in) := ⟨rfl, rfl, rfl, by decide +kernel, rfl, by decide +kernel, by decide +kernel⟩
abbrev Ncount_odd_in : List Str := ["intervals"]
theorem sccount_odd_in : FnScope Ncount_odd_in ["intervals"] (defScope scount_odd_in) := ⟨rfl, rfl, rfl, by decide +kernel, rfl, by decide +kernel, by decide +kernel⟩
abbrev Nodd_pieces : List Str := ["intervals", "ends"]
theorem scodd_pieces : FnScope Nodd_pieces ["intervals"] (defScope sodd_pieces) := ⟨rfl, rfl, rfl, by decide +kernel, rfl, by decide +kernel, by decide +kernel⟩
abbrev Ncheck_intervals : List Str := ["intervals"]
theorem sccheck_intervals : FnScope Ncheck_intervals ["intervals"] (defScope scheck_intervals) := ⟨rfl, rfl, rfl, by decide +kernel, rfl, by decide +kernel, by decide +kernel⟩
abbrev N_is_interval : List Str := ["value"]
theorem sc_is_interval : FnScope N_is_interval ["value"] (defScope s_is_interval) := ⟨rfl, rfl, rfl, by decide +kernel, rfl, by decide +kernel, by decide +kernel⟩
abbrev N_law_tank : List Str := ["script", "k", "cell"]
theorem sc_law_tank : FnScope N_law_tank ["script", "k"] (defScope s_law_tank) := ⟨rfl, rfl, rfl, by decide +kernel, rfl, by decide +kernel, by decide +kernel⟩
abbrev N_law_dip : List Str := ["tank", "bound", "found", "mixed"]
theorem sc_law_dip : FnScope N_law_dip ["tank", "bound"] (defScope s_law_dip) := ⟨rfl, rfl, rfl, by decide +kernel, rfl, by decide +kernel, by decide +kernel⟩
abbrev N_law_numbers : List Str := ["tank", "wide", "found", "turn"]
theorem sc_law_numbers : FnScope N_law_numbers ["tank"] (defScope s_law_numbers) := ⟨rfl, rfl, rfl, by decide +kernel, rfl, by decide +kernel, by decide +kernel⟩
abbrev N_law_right : List Str := ["tank", "numbers", "widest", "gaps", "length", "windows", "due", "told"]
theorem sc_law_right : FnScope N_law_right ["tank", "numbers"] (defScope s_law_right) := ⟨rfl, rfl, rfl, by decide +kernel, rfl, by decide +kernel, by decide +kernel⟩
abbrev Nlaw : List Str := ["script", "k", "tank", "turn", "told"]
theorem sclaw : FnScope Nlaw ["script"] (defScope slaw) := ⟨rfl, rfl, rfl, by decide +kernel, rfl, by decide +kernel, by decide +kernel⟩
/-! ### the head -/
def dis_integer : HP.DefA := ⟨fun K => He.fAd K ("is_integer", none), "is_integer", "is_integer", defArgs sis_integer, defBody sis_integer, defScope sis_integer, [], []⟩
def dis_tuple_of : HP.DefA := ⟨fun K => He.fAd K ("is_tuple_of", none), "is_tuple_of", "is_tuple_of", defArgs sis_tuple_of, defBody sis_tuple_of, defScope sis_tuple_of, [], []⟩
def dis_point : HP.DefA := ⟨fun K => He.fAd K ("is_point", none), "is_point", "is_point", defArgs sis_point, defBody sis_point, defScope sis_point, [], []⟩
def dcovered : HP.DefA := ⟨fun K => He.fAd K ("covered", none), "covered", "covered", defArgs scovered, defBody scovered, defScope scovered, [], []⟩
def dodd_covered : HP.DefA := ⟨fun K => He.fAd K ("odd_covered", none), "odd_covered", "odd_covered", defArgs sodd_covered, defBody sodd_covered, defScope sodd_covered, [], []⟩
def dcount_covered_in : HP.DefA := ⟨fun K => He.fAd K ("count_covered_in", none), "count_covered_in", "count_covered_in", defArgs scount_covered_in, defBody scount_covered_in, defScope scount_covered_in, [], []⟩
def dcount_odd_in : HP.DefA := ⟨fun K => He.fAd K ("count_odd_in", none), "count_odd_in", "count_odd_in", defArgs scount_odd_in, defBody scount_odd_in, defScope scount_odd_in, [], []⟩
def dodd_pieces : HP.DefA := ⟨fun K => He.fAd K ("odd_pieces", none), "odd_pieces", "odd_pieces", defArgs sodd_pieces, defBody sodd_pieces, defScope sodd_pieces, [], []⟩
def dcheck_intervals : HP.DefA := ⟨fun K => He.fAd K ("check_intervals", none), "check_intervals", "check_intervals", defArgs scheck_intervals, defBody scheck_intervals, defScope scheck_intervals, [], []⟩
def d_is_interval : HP.DefA := ⟨fun K => He.fAd K ("_is_interval", none), "_is_interval", "_is_interval", defArgs s_is_interval, defBody s_is_interval, defScope s_is_interval, [], []⟩
def d_law_tank : HP.DefA := ⟨fun K => He.fAd K ("_law_tank", none), "_law_tank", "_law_tank", defArgs s_law_tank, defBody s_law_tank, defScope s_law_tank, [], []⟩
def d_law_dip : HP.DefA := ⟨fun K => He.fAd K ("_law_dip", none), "_law_dip", "_law_dip", defArgs s_law_dip, defBody s_law_dip, defScope s_law_dip, [], []⟩
def d_law_numbers : HP.DefA := ⟨fun K => He.fAd K ("_law_numbers", none), "_law_numbers", "_law_numbers", defArgs s_law_numbers, defBody s_law_numbers, defScope s_law_numbers, [], []⟩
def d_law_right : HP.DefA := ⟨fun K => He.fAd K ("_law_right", none), "_law_right", "_law_right", defArgs s_law_right, defBody s_law_right, defScope s_law_right, [], []⟩
def dlaw : HP.DefA := ⟨fun K => He.fAd K ("law", none), "law", "law", defArgs slaw, defBody slaw, defScope slaw, [], []⟩
def fns : List HP.DefA := [dis_integer, dis_tuple_of, dis_point, dcovered, dodd_covered, dcount_covered_in, dcount_odd_in, dodd_pieces, dcheck_intervals, d_is_interval, d_law_tank, d_law_dip, d_law_numbers, d_law_right, dlaw]
def fa0 : List HP.Fact := [HP.fa_ (.glo "is_integer"), HP.fa_ (.glo "is_tuple_of"), HP.fa_ (.glo "is_point"), HP.fa_ (.glo "covered"), HP.fa_ (.glo "odd_covered"), HP.fa_ (.glo "count_covered_in"), HP.fa_ (.glo "count_odd_in"), HP.fa_ (.glo "odd_pieces"), HP.fa_ (.glo "check_intervals"), HP.fa_ (.glo "_is_interval"), HP.fa_ (.glo "_law_tank"), HP.fa_ (.glo "_law_dip"), HP.fa_ (.glo "_law_numbers"), HP.fa_ (.glo "_law_right"), HP.fa_ (.glo "law"), HP.fa_ (.glo "PlotError"), HP.fa_ (.glo "InvalidIntervals"), HP.fa_ (.free "ValueError"), HP.fa_ (.free "all"), HP.fa_ (.free "bool"), HP.fa_ (.free "int"), HP.fa_ (.free "isinstance"), HP.fa_ (.free "len"), HP.fa_ (.free "list"), HP.fa_ (.free "max")]
def fa1 : List HP.Fact := [HP.fa_ (.free "min"), HP.fa_ (.free "range"), HP.fa_ (.free "sorted"), HP.fa_ (.free "sum"), HP.fa_ (.free "tuple"), HP.fa_ (.free "zip")]
def facts : List HP.Fact := fa0 ++ fa1
def nm0 : List Str := ["PlotError", "InvalidIntervals", "is_integer", "is_tuple_of", "is_point", "covered", "odd_covered", "count_covered_in", "count_odd_in", "odd_pieces", "check_intervals", "_is_interval", "_law_tank", "_law_dip", "_law_numbers", "_law_right"]
def names : List Str := nm0
structure Tx (K : PySem.W.Frag) (mg : Str → Option Value) : Prop where
  g_is_integer : mg "is_integer" = some (.ref (He.ga K "is_integer"))
  g_is_tuple_of : mg "is_tuple_of" = some (.ref (He.ga K "is_tuple_of"))
  g_is_point : mg "is_point" = some (.ref (He.ga K "is_point"))
  g_covered : mg "covered" = some (.ref (He.ga K "covered"))
  g_odd_covered : mg "odd_covered" = some (.ref (He.ga K "odd_covered"))
  g_count_covered_in : mg "count_covered_in" = some (.ref (He.ga K "count_covered_in"))
  g_count_odd_in : mg "count_odd_in" = some (.ref (He.ga K "count_odd_in"))
  g_odd_pieces : mg "odd_pieces" = some (.ref (He.ga K "odd_pieces"))
  g_check_intervals : mg "check_intervals" = some (.ref (He.ga K "check_intervals"))
  g__is_interval : mg "_is_interval" = some (.ref (He.ga K "_is_interval"))
  g__law_tank : mg "_law_tank" = some (.ref (He.ga K "_law_tank"))
  g__law_dip : mg "_law_dip" = some (.ref (He.ga K "_law_dip"))
  g__law_numbers : mg "_law_numbers" = some (.ref (He.ga K "_law_numbers"))
  g__law_right : mg "_law_right" = some (.ref (He.ga K "_law_right"))
  g_law : mg "law" = some (.ref (He.ga K "law"))
  g_PlotError : mg "PlotError" = some (.ref (He.ga K "PlotError"))
  g_InvalidIntervals : mg "InvalidIntervals" = some (.ref (He.ga K "InvalidIntervals"))
  z_ValueError : mg "ValueError" = none
  z_all : mg "all" = none
  z_bool : mg "bool" = none
  z_int : mg "int" = none
  z_isinstance : mg "isinstance" = none
  z_len : mg "len" = none
  z_list : mg "list" = none
  z_max : mg "max" = none
  z_min : mg "min" = none
  z_range : mg "range" = none
  z_sorted : mg "sorted" = none
  z_sum : mg "sum" = none
  z_tuple : mg "tuple" = none
  z_zip : mg "zip" = none
structure Ds (K : PySem.W.Frag) where
  fd_is_integer : FuncData
  F_is_integer : FunD K "is_integer" "is_integer" (defArgs sis_integer) (defBody sis_integer) (defScope sis_integer) [] [] (dis_integer.adr K) fd_is_integer
  fd_is_tuple_of : FuncData
  F_is_tuple_of : FunD K "is_tuple_of" "is_tuple_of" (defArgs sis_tuple_of) (defBody sis_tuple_of) (defScope sis_tuple_of) [] [] (dis_tuple_of.adr K) fd_is_tuple_of
  fd_is_point : FuncData
  F_is_point : FunD K "is_point" "is_point" (defArgs sis_point) (defBody sis_point) (defScope sis_point) [] [] (dis_point.adr K) fd_is_point
  fd_covered : FuncData
  F_covered : FunD K "covered" "covered" (defArgs scovered) (defBody scovered) (defScope scovered) [] [] (dcovered.adr K) fd_covered
  fd_odd_covered : FuncData
  F_odd_covered : FunD K "odd_covered" "odd_covered" (defArgs sodd_covered) (defBody sodd_covered) (defScope sodd_covered) [] [] (dodd_covered.adr K) fd_odd_covered
  fd_count_covered_in : FuncData
  F_count_covered_in : FunD K "count_covered_in" "count_covered_in" (defArgs scount_covered_in) (defBody scount_covered_in) (defScope scount_covered_in) [] [] (dcount_covered_in.adr K) fd_count_covered_in
  fd_count_odd_in : FuncData
  F_count_odd_in : FunD K "count_odd_in" "count_odd_in" (defArgs scount_odd_in) (defBody scount_odd_in) (defScope scount_odd_in) [] [] (dcount_odd_in.adr K) fd_count_odd_in
  fd_odd_pieces : FuncData
  F_odd_pieces : FunD K "odd_pieces" "odd_pieces" (defArgs sodd_pieces) (defBody sodd_pieces) (defScope sodd_pieces) [] [] (dodd_pieces.adr K) fd_odd_pieces
  fd_check_intervals : FuncData
  F_check_intervals : FunD K "check_intervals" "check_intervals" (defArgs scheck_intervals) (defBody scheck_intervals) (defScope scheck_intervals) [] [] (dcheck_intervals.adr K) fd_check_intervals
  fd__is_interval : FuncData
  F__is_interval : FunD K "_is_interval" "_is_interval" (defArgs s_is_interval) (defBody s_is_interval) (defScope s_is_interval) [] [] (d_is_interval.adr K) fd__is_interval
  fd__law_tank : FuncData
  F__law_tank : FunD K "_law_tank" "_law_tank" (defArgs s_law_tank) (defBody s_law_tank) (defScope s_law_tank) [] [] (d_law_tank.adr K) fd__law_tank
  fd__law_dip : FuncData
  F__law_dip : FunD K "_law_dip" "_law_dip" (defArgs s_law_dip) (defBody s_law_dip) (defScope s_law_dip) [] [] (d_law_dip.adr K) fd__law_dip
  fd__law_numbers : FuncData
  F__law_numbers : FunD K "_law_numbers" "_law_numbers" (defArgs s_law_numbers) (defBody s_law_numbers) (defScope s_law_numbers) [] [] (d_law_numbers.adr K) fd__law_numbers
  fd__law_right : FuncData
  F__law_right : FunD K "_law_right" "_law_right" (defArgs s_law_right) (defBody s_law_right) (defScope s_law_right) [] [] (d_law_right.adr K) fd__law_right
  fd_law : FuncData
  F_law : FunD K "law" "law" (defArgs slaw) (defBody slaw) (defScope slaw) [] [] (dlaw.adr K) fd_law
theorem tx_of {K : PySem.W.Frag} {h : Heap} {mg : Str → Option Value} (X : K.In h) (G : h.Ns mainGlobals mg) (c : HP.SaysA facts fns K) : Tx K mg where
  g_is_integer := He.glo_ok X G (c.fact 0 rfl)
  g_is_tuple_of := He.glo_ok X G (c.fact 1 rfl)
  g_is_point := He.glo_ok X G (c.fact 2 rfl)
  g_covered := He.glo_ok X G (c.fact 3 rfl)
  g_odd_covered := He.glo_ok X G (c.fact 4 rfl)
  g_count_covered_in := He.glo_ok X G (c.fact 5 rfl)
  g_count_odd_in := He.glo_ok X G (c.fact 6 rfl)
  g_odd_pieces := He.glo_ok X G (c.fact 7 rfl)
  g_check_intervals := He.glo_ok X G (c.fact 8 rfl)
  g__is_interval := He.glo_ok X G (c.fact 9 rfl)
  g__law_tank := He.glo_ok X G (c.fact 10 rfl)
  g__law_dip := He.glo_ok X G (c.fact 11 rfl)
  g__law_numbers := He.glo_ok X G (c.fact 12 rfl)
  g__law_right := He.glo_ok X G (c.fact 13 rfl)
  g_law := He.glo_ok X G (c.fact 14 rfl)
  g_PlotError := He.glo_ok X G (c.fact 15 rfl)
  g_InvalidIntervals := He.glo_ok X G (c.fact 16 rfl)
  z_ValueError := He.free_ok X G (c.fact 17 rfl)
  z_all := He.free_ok X G (c.fact 18 rfl)
  z_bool := He.free_ok X G (c.fact 19 rfl)
  z_int := He.free_ok X G (c.fact 20 rfl)
  z_isinstance := He.free_ok X G (c.fact 21 rfl)
  z_len := He.free_ok X G (c.fact 22 rfl)
  z_list := He.free_ok X G (c.fact 23 rfl)
  z_max := He.free_ok X G (c.fact 24 rfl)
  z_min := He.free_ok X G (c.fact 25 rfl)
  z_range := He.free_ok X G (c.fact 26 rfl)
  z_sorted := He.free_ok X G (c.fact 27 rfl)
  z_sum := He.free_ok X G (c.fact 28 rfl)
  z_tuple := He.free_ok X G (c.fact 29 rfl)
  z_zip := He.free_ok X G (c.fact 30 rfl)
theorem ds_of {K : PySem.W.Frag} (c : HP.SaysA facts fns K) : Nonempty (Ds K) := by
  obtain ⟨f0, p0⟩ := c.def_ 0 (d := dis_integer) rfl
  obtain ⟨f1, p1⟩ := c.def_ 1 (d := dis_tuple_of) rfl
  obtain ⟨f2, p2⟩ := c.def_ 2 (d := dis_point) rfl
  obtain ⟨f3, p3⟩ := c.def_ 3 (d := dcovered) rfl
  obtain ⟨f4, p4⟩ := c.def_ 4 (d := dodd_covered) rfl
  obtain ⟨f5, p5⟩ := c.def_ 5 (d := dcount_covered_in) rfl
  obtain ⟨f6, p6⟩ := c.def_ 6 (d := dcount_odd_in) rfl
  obtain ⟨f7, p7⟩ := c.def_ 7 (d := dodd_pieces) rfl
  obtain ⟨f8, p8⟩ := c.def_ 8 (d := dcheck_intervals) rfl
  obtain ⟨f9, p9⟩ := c.def_ 9 (d := d_is_interval) rfl
  obtain ⟨f10, p10⟩ := c.def_ 10 (d := d_law_tank) rfl
  obtain ⟨f11, p11⟩ := c.def_ 11 (d := d_law_dip) rfl
  obtain ⟨f12, p12⟩ := c.def_ 12 (d := d_law_numbers) rfl
  obtain ⟨f13, p13⟩ := c.def_ 13 (d := d_law_right) rfl
  obtain ⟨f14, p14⟩ := c.def_ 14 (d := dlaw) rfl
  exact ⟨⟨f0, p0, f1, p1, f2, p2, f3, p3, f4, p4, f5, p5, f6, p6, f7, p7, f8, p8, f9, p9, f10, p10, f11, p11, f12, p12, f13, p13, f14, p14⟩⟩
theorem b_is_integer {K : PySem.W.Frag} (D : Ds K) : Binds K D.fd_is_integer ["value"] [] := D.F_is_integer.bindsN fun _ _ _ _ _ _ us hl => match us, hl with | [_], _ => rfl
theorem b_is_tuple_of {K : PySem.W.Frag} (D : Ds K) : Binds K D.fd_is_tuple_of ["value", "many"] [] := D.F_is_tuple_of.bindsN fun _ _ _ _ _ _ us hl => match us, hl with | [_, _], _ => rfl
theorem b_is_point {K : PySem.W.Frag} (D : Ds K) : Binds K D.fd_is_point ["value"] [] := D.F_is_point.bindsN fun _ _ _ _ _ _ us hl => match us, hl with | [_], _ => rfl
theorem b_covered {K : PySem.W.Frag} (D : Ds K) : Binds K D.fd_covered ["intervals"] [] := D.F_covered.bindsN fun _ _ _ _ _ _ us hl => match us, hl with | [_], _ => rfl
theorem b_odd_covered {K : PySem.W.Frag} (D : Ds K) : Binds K D.fd_odd_covered ["intervals"] [] := D.F_odd_covered.bindsN fun _ _ _ _ _ _ us hl => match us, hl with | [_], _ => rfl
theorem b_count_covered_in {K : PySem.W.Frag} (D : Ds K) : Binds K D.fd_count_covered_in ["intervals"] [] := D.F_count_covered_in.bindsN fun _ _ _ _ _ _ us hl => match us, hl with | [_], _ => rfl
theorem b_count_odd_in {K : PySem.W.Frag} (D : Ds K) : Binds K D.fd_count_odd_in ["intervals"] [] := D.F_count_odd_in.bindsN fun _ _ _ _ _ _ us hl => match us, hl with | [_], _ => rfl
theorem b_odd_pieces {K : PySem.W.Frag} (D : Ds K) : Binds K D.fd_odd_pieces ["intervals"] [] := D.F_odd_pieces.bindsN fun _ _ _ _ _ _ us hl => match us, hl with | [_], _ => rfl
theorem b_check_intervals {K : PySem.W.Frag} (D : Ds K) : Binds K D.fd_check_intervals ["intervals"] [] := D.F_check_intervals.bindsN fun _ _ _ _ _ _ us hl => match us, hl with | [_], _ => rfl
theorem b__is_interval {K : PySem.W.Frag} (D : Ds K) : Binds K D.fd__is_interval ["value"] [] := D.F__is_interval.bindsN fun _ _ _ _ _ _ us hl => match us, hl with | [_], _ => rfl
theorem b__law_tank {K : PySem.W.Frag} (D : Ds K) : Binds K D.fd__law_tank ["script", "k"] [] := D.F__law_tank.bindsN fun _ _ _ _ _ _ us hl => match us, hl with | [_, _], _ => rfl
theorem b__law_dip {K : PySem.W.Frag} (D : Ds K) : Binds K D.fd__law_dip ["tank", "bound"] [] := D.F__law_dip.bindsN fun _ _ _ _ _ _ us hl => match us, hl with | [_, _], _ => rfl
theorem b__law_numbers {K : PySem.W.Frag} (D : Ds K) : Binds K D.fd__law_numbers ["tank"] [] := D.F__law_numbers.bindsN fun _ _ _ _ _ _ us hl => match us, hl with | [_], _ => rfl
theorem b__law_right {K : PySem.W.Frag} (D : Ds K) : Binds K D.fd__law_right ["tank", "numbers"] [] := D.F__law_right.bindsN fun _ _ _ _ _ _ us hl => match us, hl with | [_, _], _ => rfl
theorem b_law {K : PySem.W.Frag} (D : Ds K) : Binds K D.fd_law ["script"] [] := D.F_law.bindsN fun _ _ _ _ _ _ us hl => match us, hl with | [_], _ => rfl
abbrev Rw : PySem.W.OpenRow := PySem.W.OpenLaw.row PySem.Challenge.rw_plotpens_k21_windows_of_numbers
abbrev hk : PySem.W.Hook := HP.hookA 6 facts fns
def ob (s : PySem.W.SharedT) : HP.Al := HP.obsAG 6 facts fns (HandSHeadRun.getT s)
theorem ob_eq (s : PySem.W.SharedT) : ob s = hk.obs s.abs := HP.obsAG_eq (HandSHeadRun.getT_eq s)
end K21

set_option Elab.async false
set_option linter.all false
set_option maxRecDepth 100000
set_option maxHeartbeats 0
namespace K21
open PySem PySem.Spec PyProof.Rows L2
theorem run0 (w : World) : HandSHeadRun.RunEq Rw (PySem.W.view Rw.prog [20]) hk ob 12000 names (w.withFollow "special-get-raises" false) := by
  intro os
  kernel_rfl
theorem run1 (w : World) : HandSHeadRun.RunEq Rw (PySem.W.view Rw.prog [20]) hk ob 12000 names (w.withFollow "special-get-raises" true) := by
  intro os
  kernel_rfl
theorem run (w : World) : HandSHeadRun.RunEq Rw (PySem.W.view Rw.prog [20]) hk ob 12000 names w := PySem.W.byRow2 "special-get-raises" (P := fun w => HandSHeadRun.RunEq Rw (PySem.W.view Rw.prog [20]) hk ob 12000 names w) run0 run1 w
end K21

set_option Elab.async false
set_option linter.all false
set_option maxRecDepth 100000
set_option maxHeartbeats 4000000
/-! slices of lists with a step -/
namespace RT
open PySem PySem.Spec PyProof.Rows L2
def pickV (xs : List V) (lo hi st : Option Int) : List V :=
  (sliceRange (sliceBounds lo hi st xs.length).1 (sliceBounds lo hi st xs.length).2.1 (sliceBounds lo hi st xs.length).2.2).filterMap fun i => xs[i]?
theorem pick_vals {xs : List V} {us : List Value} (r : Vals xs us) : ∀ l : List Nat, Vals (l.filterMap fun i => xs[i]?) (l.filterMap fun i => us[i]?)
  | [] => .nil
  | i :: l => by
    have ih := pick_vals r l
    cases e : xs[i]? with
    | none =>
      have e2 := r.none_of e
      rw [List.filterMap_cons_none (by exact e), List.filterMap_cons_none (by exact e2)]
      exact ih
    | some x =>
      obtain ⟨u, e2, ru⟩ := r.get e
      rw [List.filterMap_cons_some (by exact e), List.filterMap_cons_some (by exact e2)]
      exact .cons ru ih
def tPick (K : PySem.W.Frag) (to : TE) (tl th ts : TO) : TE := fun σ H Q => to σ H fun x H1 => ∃ (a : Addr) (xs : List V), x = .ref a ∧ tl σ H1 fun l H2 => th σ H2 fun u H3 => ts σ H3 fun o H4 => o ≠ some 0 ∧ SqL K H4 a xs ∧ ∀ p, H4 p = none → Q (.ref p) (upd H4 p (.lst (pickV xs l u o)))
section
variable {X : Cx} {e st : Expr} {lo hi : Option Expr} {to : TE} {tl th ts : TO} {p2 pos : Pos}
/-- xs[lo:hi:st] -/
theorem pe_step (ho : PE X e to) (hl : PO X lo tl) (hh : PO X hi th) (hs : PO X (some st) ts) : PE X (.Subscript e (.Slice lo hi (some st) p2) pos) (tPick X.K to tl th ts) := by
  refine ⟨fun pins s σ H Q I h => ?_⟩
  refine Subscript_ (thn (ho.run pins s σ H _ I h) fun v s1 ⟨x, H1, I1, r1, a, xs, ex, q1⟩ => ?_)
  subst ex
  obtain rfl : v = Value.ref a := r1
  refine wpAny_Slice (thn (hl.run pins s1 σ H1 _ I1 q1) fun vl s2 ⟨l, H2, I2, pl, q2⟩ => thn (hh.run pins s2 σ H2 _ I2 q2) fun vu s3 ⟨u, H3, I3, pu, q3⟩ => thn (hs.run pins s3 σ H3 _ I3 q3) fun vs s4 ⟨o, H4, I4, ps, h0, hx, q⟩ => ?_)
  have I5 : Inv X pins σ H4 { s4 with heap := s4.heap.push { cls := .type "slice", data := .fields #[vl, vu, vs] } } :=
    I4.kept (t' := s4.toks) fun _ _ w => Heap.get?_push_of_some _ w
  obtain ⟨its, r, ht, hz⟩ := I5.list hx
  have le : its.length ≤ sizeLine := by rw [← r.length]; exact hz
  refine tail_any (ops := [.ref a, .ref s4.heap.objs.size]) ht.isList.typeIs PySem.slot_list_getitem.lookup ?_ (by with_unfolding_all rfl)
  refine wpAny_getItem_list_slice ht.isList (Heap.IsSliceOf.new _ vl vu vs) pl pu ps h0 ?_ (by rw [List.size_toArray]; exact le)
  have e1 : slicePick its.toArray l u o = ((sliceRange (sliceBounds l u o xs.length).1 (sliceBounds l u o xs.length).2.1 (sliceBounds l u o xs.length).2.2).filterMap fun i => its[i]?).toArray := by
    unfold slicePick
    rw [List.size_toArray, r.length]
    have ef : (fun x => its.toArray[x]?) = fun i => its[i]? := funext fun i => List.getElem?_toArray
    rw [ef]
  have lz : (pickV xs l u o).length ≤ sizeLine := by
    have h1 := (pick_vals r (sliceRange (sliceBounds l u o xs.length).1 (sliceBounds l u o xs.length).2.1 (sliceBounds l u o xs.length).2.2)).length
    have h2 := slicePick_size_le its.toArray l u o
    rw [e1, List.size_toArray, List.size_toArray, ← h1] at h2
    exact Nat.le_trans h2 le
  refine ⟨.ref _, _, I5.laid (t' := s4.toks) (o := .lst (pickV xs l u o)) (fun _ _ w => Heap.get?_push_of_some _ w) (Nat.le_refl _) ?_, rfl, q _ (I5.hok.fresh (Nat.le_refl _))⟩
  rw [e1]
  exact ⟨lz, _, 0, pick_vals r _, Heap.get?_push_size _ rfl⟩
end
/-- each second one -/
def ev {α : Type} : List α → List α
  | [] => []
  | [x] => [x]
  | x :: _ :: r => x :: ev r
theorem pick_ev (xs : List V) : pickV xs none none (some 2) = ev xs := by
  have gen : ∀ (m : Nat) (ys zs : List V), ys.length ≤ m → (List.range ((ys.length + 1) / 2)).filterMap (fun i => (zs ++ ys)[zs.length + 2 * i]?) = ev ys := by
    intro m
    induction m with
    | zero =>
      intro ys zs h
      have : ys = [] := List.length_eq_zero_iff.mp (by omega)
      subst this
      rfl
    | succ m ih =>
      intro ys zs h
      match ys, h with
      | [], _ => rfl
      | [x], _ =>
        have e1 : ([x].length + 1) / 2 = 1 := by simp
        rw [e1, show List.range 1 = [0] from rfl]
        simp [ev]
      | x :: y :: r, h =>
        have e1 : ((x :: y :: r).length + 1) / 2 = (r.length + 1) / 2 + 1 := by simp only [List.length_cons]; omega
        rw [e1, List.range_succ_eq_map, List.filterMap_cons_some (b := x) (by simp), List.filterMap_map]
        show x :: _ = x :: ev r
        congr 1
        have h2 := ih r (zs ++ [x, y]) (by simp only [List.length_cons] at h; omega)
        rw [← h2]
        congr 1
        funext i
        show (zs ++ x :: y :: r)[zs.length + 2 * (i + 1)]? = ((zs ++ [x, y]) ++ r)[(zs ++ [x, y]).length + 2 * i]?
        rw [List.append_assoc]
        have e2 : (zs ++ [x, y]).length = zs.length + 2 := by simp
        rw [e2, show zs.length + 2 * (i + 1) = zs.length + 2 + 2 * i by omega]
        rfl
  have h := gen xs.length xs [] (Nat.le_refl _)
  rw [← h]
  unfold pickV
  show (sliceRange 0 (xs.length : Int) 2).filterMap _ = _
  unfold sliceRange
  rw [if_pos (by decide : (2 : Int) > 0)]
  have ec : (if (0 : Int) < (xs.length : Int) then ((xs.length : Int) - 0 + 2 - 1) / 2 else 0).toNat = (xs.length + 1) / 2 := by
    split <;> omega
  dsimp only
  rw [ec, List.filterMap_map]
  refine congrArg (fun f => List.filterMap f (List.range ((xs.length + 1) / 2))) ?_
  funext i
  show xs[((0 : Int) + 2 * (i : Int)).toNat]? = _
  rw [show ((0 : Int) + 2 * (i : Int)).toNat = 2 * i by omega]
  simp
theorem ev_map {α β : Type} (f : α → β) : ∀ xs : List α, ev (xs.map f) = (ev xs).map f
  | [] => rfl
  | [_] => rfl
  | x :: y :: r => by
    show f x :: ev (r.map f) = f x :: (ev r).map f
    rw [ev_map f r]
end RT

set_option Elab.async false
set_option linter.all false
set_option maxRecDepth 100000
set_option maxHeartbeats 4000000
namespace RT
open PySem PySem.Spec PyProof.Rows L2
theorem pick_gen : ∀ (m : Nat) (ys zs : List V), ys.length ≤ m → (List.range ((ys.length + 1) / 2)).filterMap (fun i => (zs ++ ys)[zs.length + 2 * i]?) = ev ys := by
  intro m
  induction m with
  | zero =>
    intro ys zs h
    have : ys = [] := List.length_eq_zero_iff.mp (by omega)
    subst this
    rfl
  | succ m ih =>
    intro ys zs h
    match ys, h with
    | [], _ => rfl
    | [x], _ =>
      have e1 : ([x].length + 1) / 2 = 1 := by simp
      rw [e1, show List.range 1 = [0] from rfl]
      simp [ev]
    | x :: y :: r, h =>
      have e1 : ((x :: y :: r).length + 1) / 2 = (r.length + 1) / 2 + 1 := by simp only [List.length_cons]; omega
      rw [e1, List.range_succ_eq_map, List.filterMap_cons_some (b := x) (by simp), List.filterMap_map]
      show x :: _ = x :: ev r
      congr 1
      have h2 := ih r (zs ++ [x, y]) (by simp only [List.length_cons] at h; omega)
      rw [← h2]
      congr 1
      funext i
      show (zs ++ x :: y :: r)[zs.length + 2 * (i + 1)]? = ((zs ++ [x, y]) ++ r)[(zs ++ [x, y]).length + 2 * i]?
      rw [List.append_assoc]
      have e2 : (zs ++ [x, y]).length = zs.length + 2 := by simp
      rw [e2, show zs.length + 2 * (i + 1) = zs.length + 2 + 2 * i by omega]
      rfl
/-- xs[1::2] -/
theorem pick_od (xs : List V) : pickV xs (some 1) none (some 2) = ev xs.tail := by
  cases xs with
  | nil => rfl
  | cons x r =>
    have h := pick_gen r.length r [x] (Nat.le_refl _)
    show pickV (x :: r) (some 1) none (some 2) = ev r
    rw [← h]
    unfold pickV
    have eb : sliceBounds (some 1) none (some 2) (x :: r).length = (1, ((x :: r).length : Int), 2) := by
      unfold sliceBounds
      simp
      omega
    rw [eb]
    show (sliceRange 1 ((x :: r).length : Int) 2).filterMap _ = _
    unfold sliceRange
    rw [if_pos (by decide : (2 : Int) > 0)]
    have ec : (if (1 : Int) < ((x :: r).length : Int) then (((x :: r).length : Int) - 1 + 2 - 1) / 2 else 0).toNat = (r.length + 1) / 2 := by
      rw [List.length_cons]
      split <;> omega
    dsimp only
    rw [ec, List.filterMap_map]
    refine congrArg (fun f => List.filterMap f (List.range ((r.length + 1) / 2))) ?_
    funext i
    show (x :: r)[((1 : Int) + 2 * (i : Int)).toNat]? = ([x] ++ r)[[x].length + 2 * i]?
    rw [show ((1 : Int) + 2 * (i : Int)).toNat = 1 + 2 * i by omega]
    rfl
end RT

set_option Elab.async false
set_option linter.all false
set_option maxRecDepth 100000
set_option maxHeartbeats 4000000
/-! list(zip(xs, ys)) of two lists -/
namespace RT
open PySem PySem.Spec PyProof.Rows L2 PySem.W
/-- what a zip holds while a list is filled from it -/
def ZSt (h : Heap) (z TI TO i1 i2 l1 l2 S : Addr) (xs ys : Array Value) (i : Nat) : Prop :=
  IsPair h TI (.ref i1) (.ref i2) ∧ h.IsListIter i1 l1 i ∧ h.IsListIter i2 l2 i ∧ h.IsList l1 xs ∧ h.IsList l2 ys ∧
    ((IsZip h z TI TO .none ∧ ∃ a b, IsPair h TO a b) ∨ ∃ T f oT, IsZipHeld h z TI TO T f ∧ h.get? T = some oT ∧ T ≠ z ∧ T ≠ i1 ∧ T ≠ i2 ∧ T ≠ S)
/-- all that a zip holds stands below S -/
structure ZLow (z TI TO i1 i2 l1 l2 S : Addr) : Prop where
  z : z < S
  TI : TI < S
  TO : TO < S
  i1 : i1 < S
  i2 : i2 < S
  l1 : l1 < S
  l2 : l2 < S
theorem ZSt.keep {h h' : Heap} {z TI TO i1 i2 l1 l2 S : Addr} {xs ys : Array Value} {i : Nat} (B : ZLow z TI TO i1 i2 l1 l2 S) (st : ZSt h z TI TO i1 i2 l1 l2 S xs ys i) (hk : ∀ b o, b ≠ S → h.get? b = some o → h'.get? b = some o) : ZSt h' z TI TO i1 i2 l1 l2 S xs ys i := by
  obtain ⟨hTI, h1, h2, hl1, hl2, hz⟩ := st
  refine ⟨hk _ _ (Nat.ne_of_lt B.TI) hTI, h1.at fun o e => hk _ o (Nat.ne_of_lt B.i1) e, h2.at fun o e => hk _ o (Nat.ne_of_lt B.i2) e, hl1.at fun o e => hk _ o (Nat.ne_of_lt B.l1) e, hl2.at fun o e => hk _ o (Nat.ne_of_lt B.l2) e, ?_⟩
  rcases hz with ⟨hz, a, b, hTO⟩ | ⟨T, f, oT, hz, hT, r1, r2, r3, r4⟩
  · exact .inl ⟨hk _ _ (Nat.ne_of_lt B.z) hz, a, b, hk _ _ (Nat.ne_of_lt B.TO) hTO⟩
  · exact .inr ⟨T, f, oT, hk _ _ (Nat.ne_of_lt B.z) hz, hk _ _ r4 hT, r1, r2, r3, r4⟩
structure ZG (xs ys : Array Value) (lo : Addr) (h : Heap) (as : List Addr) : Prop where
  rise : as.Pairwise (· < ·)
  above : ∀ a ∈ as, lo < a
  pairs : ∀ (j : Nat) (a : Addr), as[j]? = some a → ∃ x y, xs[j]? = some x ∧ ys[j]? = some y ∧ IsPair h a x y
theorem ZG.there {xs ys : Array Value} {lo : Addr} {h : Heap} {as : List Addr} (g : ZG xs ys lo h as) {a : Addr} (ha : a ∈ as) : a < h.objs.size := by
  obtain ⟨j, hj⟩ := List.mem_iff_getElem?.mp ha
  obtain ⟨_, _, _, _, e⟩ := g.pairs j a hj
  exact Heap.lt_size e
section
variable {prog : Program} {w : World} {A : Around} {E : Value → Shared → Prop} {s : Shared} {z TI TO i1 i2 l1 l2 S : Addr} {xs ys : Array Value}
theorem zl_item {i : Nat} {x y : Value} {Q : Option Value → Shared → Prop} (D : ZipApart z TI TO i1 i2 l1 l2) (B : ZLow z TI TO i1 i2 l1 l2 S) (st : ZSt s.heap z TI TO i1 i2 l1 l2 S xs ys i) (hS : S < s.heap.objs.size)
    (ex : xs[i]? = some x) (ey : ys[i]? = some y)
    (hQ : ∀ h', ZSt h' z TI TO i1 i2 l1 l2 S xs ys (i + 1) → IsPair h' s.heap.objs.size x y → (∀ b o, b ≠ z → b ≠ TO → b ≠ i1 → b ≠ i2 → s.heap.get? b = some o → h'.get? b = some o) → Q (some (.ref s.heap.objs.size)) { s with heap := h' }) :
    wpAny (model prog w) A (pyNext (.ref z)) Q E s := by
  obtain ⟨hTI, h1, h2, hl1, hl2, hz⟩ := st
  have lt : ∀ {c o}, s.heap.get? c = some o → s.heap.objs.size ≠ c := fun e => Nat.ne_of_gt (Heap.lt_size e)
  have n1 : s.heap.objs.size ≠ i1 := let ⟨_, e, _⟩ := h1; lt e
  have n2 : s.heap.objs.size ≠ i2 := let ⟨_, e, _⟩ := h2; lt e
  rcases hz with ⟨hz, a, b, hTO⟩ | ⟨T, f, oT, hz, hT, r1, r2, r3, r4⟩
  · refine wpAny_pyNext_zip_item D hz hTI hTO h1 h2 hl1 hl2 ex ey fun h' a1 a2 a3 a4 a5 a6 hk => ?_
    exact hQ h' ⟨hk _ _ D.TIz D.TITO D.TIi1 D.TIi2 hTI, a3, a4, hl1.at fun o e => hk _ o D.l1z D.l1TO D.l1i1 D.l1i2 e, hl2.at fun o e => hk _ o D.l2z D.l2TO D.l2i1 D.l2i2 e,
      .inr ⟨s.heap.objs.size, false, _, a1, a5, lt hz, n1, n2, Nat.ne_of_gt hS⟩⟩ a5 hk
  · refine wpAny_pyNext_zip_item_held D hz hT hTI h1 h2 hl1 hl2 ex ey fun h' a1 a3 a4 a5 a6 hk => ?_
    exact hQ h' ⟨hk _ _ D.TIz D.TIi1 D.TIi2 hTI, a3, a4, hl1.at fun o e => hk _ o D.l1z D.l1i1 D.l1i2 e, hl2.at fun o e => hk _ o D.l2z D.l2i1 D.l2i2 e,
      .inr ⟨T, true, oT, a1, hk _ _ r1 r2 r3 hT, r1, r2, r3, r4⟩⟩ a5 fun b o c1 _ c2 c3 e => hk b o c1 c2 c3 e
theorem zl_done {i : Nat} {Q : Option Value → Shared → Prop} (hh : A.handled = none) (D : ZipApart z TI TO i1 i2 l1 l2) (st : ZSt s.heap z TI TO i1 i2 l1 l2 S xs ys i)
    (hend : xs[i]? = none ∨ ys[i]? = none)
    (hQ : ∀ h', (∀ b o, b ≠ z → b ≠ TO → b ≠ i1 → b ≠ i2 → s.heap.get? b = some o → h'.get? b = some o) → Q none { s with heap := h' }) :
    wpAny (model prog w) A (pyNext (.ref z)) Q E s := by
  obtain ⟨hTI, h1, h2, hl1, hl2, hz⟩ := st
  rcases hz with ⟨hz, a, b, hTO⟩ | ⟨T, f, oT, hz, hT, r1, r2, r3, r4⟩
  · exact wpAny_pyNext_zip_end hh D hz hTI hTO h1 h2 hl1 hl2 hend fun h' hk => hQ h' hk
  · exact wpAny_pyNext_zip_end_held hh D hz hT hTI h1 h2 hl1 hl2 hend fun h' hk => hQ h' fun b o c1 _ c2 c3 e => hk b o c1 c2 c3 e
end
section
variable {prog : Program} {w : World} {A : Around} {s : Shared} {R : Result → Shared → Prop} {z TI TO i1 i2 l1 l2 S : Addr} {xs ys : Array Value}
theorem zl_loop (hh : A.handled = none) (D : ZipApart z TI TO i1 i2 l1 l2) (B : ZLow z TI TO i1 i2 l1 l2 S) (hn : min xs.size ys.size ≤ sizeLine) (res : Value) {h₁ : Heap}
    (hR : ∀ h' tk acc c as, (∀ b o, b ≠ S → b ≠ z → b ≠ TO → b ≠ i1 → b ≠ i2 → h₁.get? b = some o → h'.get? b = some o) → h'.get? S = some { cls := .type "list", dict := none, data := .seq acc c, slots := #[] } → as.length = min xs.size ys.size → ZG xs ys S h' as →
      acc.toList = as.map Value.ref → R (.ok (.ret res)) { s with heap := h', toks := tk }) :
    ∀ (k i : Nat) (h : Heap) (tk c : Nat) (acc : Array Value) (as : List Addr), min xs.size ys.size - i = k → i ≤ min xs.size ys.size → ZSt h z TI TO i1 i2 l1 l2 S xs ys i → (∀ b o, b ≠ S → b ≠ z → b ≠ TO → b ≠ i1 → b ≠ i2 → h₁.get? b = some o → h.get? b = some o) →
      h.get? S = some { cls := .type "list", dict := none, data := .seq acc c, slots := #[] } → acc.toList = as.map Value.ref → as.length = i → ZG xs ys S h as →
      codeAny (model prog w) A (.builtin "list.extend.loop" ⟨[.ref S, .ref z, res], []⟩) R { s with heap := h, toks := tk } := by
  have hSz : S ≠ z := Nat.ne_of_gt B.z
  have hSTO : S ≠ TO := Nat.ne_of_gt B.TO
  have hS1 : S ≠ i1 := Nat.ne_of_gt B.i1
  have hS2 : S ≠ i2 := Nat.ne_of_gt B.i2
  have off : ∀ b, S < b → b ≠ z ∧ b ≠ TO ∧ b ≠ i1 ∧ b ≠ i2 := fun b hb => ⟨Nat.ne_of_gt (Nat.lt_trans B.z hb), Nat.ne_of_gt (Nat.lt_trans B.TO hb), Nat.ne_of_gt (Nat.lt_trans B.i1 hb), Nat.ne_of_gt (Nat.lt_trans B.i2 hb)⟩
  intro k
  induction k with
  | zero =>
    intro i h tk c acc as hk hi hst hkeep hS hacc hal hG
    have hin : i = min xs.size ys.size := by omega
    have hend : xs[i]? = none ∨ ys[i]? = none := by
      rcases Nat.le_total xs.size ys.size with q | q
      · exact .inl (Array.getElem?_eq_none (by rw [hin, Nat.min_eq_left q]; exact Nat.le_refl _))
      · exact .inr (Array.getElem?_eq_none (by rw [hin, Nat.min_eq_right q]; exact Nat.le_refl _))
    refine codeAny_builtin PySem.F.entry_extend_loop ?_
    rw [Around.under_plainId PySem.F.plain_extend_loop _]
    show wpAny _ A.in1 (pyNext (.ref z) >>= _) _ _ _
    refine wpAny_bind (zl_done (s := { s with heap := h, toks := tk }) (A := A.in1) hh D hst hend fun h' he => ?_)
    refine wpAny_pure (hR h' tk acc c as (fun b o h1 h2 h3 h4 h5 e => he b o h2 h3 h4 h5 (hkeep b o h1 h2 h3 h4 h5 e)) (he S _ hSz hSTO hS1 hS2 hS) (by omega) ⟨hG.rise, hG.above, fun j a hj => ?_⟩ hacc)
    obtain ⟨x, y, e1, e2, e3⟩ := hG.pairs j a hj
    obtain ⟨o1, o2, o3, o4⟩ := off a (hG.above a (List.mem_of_getElem? hj))
    exact ⟨x, y, e1, e2, he a _ o1 o2 o3 o4 e3⟩
  | succ k ih =>
    intro i h tk c acc as hk hi hst hkeep hS hacc hal hG
    have hlt : i < min xs.size ys.size := by omega
    have ex : xs[i]? = some xs[i] := Array.getElem?_eq_getElem (by omega)
    have ey : ys[i]? = some ys[i] := Array.getElem?_eq_getElem (by omega)
    have hsz : acc.size = i := by rw [← Array.length_toList, hacc, List.length_map, hal]
    refine codeAny_builtin PySem.F.entry_extend_loop ?_
    rw [Around.under_plainId PySem.F.plain_extend_loop _]
    show wpAny _ A.in1 (pyNext (.ref z) >>= _) _ _ _
    refine wpAny_bind (zl_item (s := { s with heap := h, toks := tk }) D B hst (Heap.lt_size hS) ex ey fun h' hst' ht hkp => ?_)
    dsimp only at ht hkp ⊢
    have hS' := hkp S _ hSz hSTO hS1 hS2 hS
    have up : ∀ b o, b ≠ S → h'.get? b = some o → (h'.update S (Obj.mapSeq (·.push (Value.ref h.objs.size)))).get? b = some o := fun b o hb e => (Heap.get?_update_other _ _ (Ne.symm hb)).trans e
    have hSl : S < h.objs.size := Heap.lt_size hS
    show wpAny _ A.in1 (updateSeq S (·.push (Value.ref h.objs.size)) >>= _) _ _ _
    refine wpAny_bind ?_
    refine wpAny_updateSeq hS' rfl (wpAny_pure ⟨plainId_quiet PySem.F.plain_extend_loop _, ih (i + 1) _ tk _ (acc.push (Value.ref h.objs.size)) (as ++ [h.objs.size]) (by omega) hlt (hst'.keep B up)
      (fun b o h1 h2 h3 h4 h5 e => up b o h1 (hkp b o h2 h3 h4 h5 (hkeep b o h1 h2 h3 h4 h5 e))) (Heap.get?_update_self _ hS' rfl) (by rw [Array.toList_push, hacc, List.map_append]; rfl) (by rw [List.length_append, hal]; rfl) ⟨?_, ?_, ?_⟩⟩) (by rw [hsz]; omega) (by show (acc.push (Value.ref h.objs.size)).size ≤ sizeLine + 1; rw [Array.size_push, hsz]; omega)
    · refine List.pairwise_append.mpr ⟨hG.rise, List.pairwise_singleton _ _, fun a ha b hb => ?_⟩
      rw [List.mem_singleton.mp hb]
      exact hG.there ha
    · intro a ha
      rcases List.mem_append.mp ha with ha | ha
      · exact hG.above a ha
      · rw [List.mem_singleton.mp ha]; exact hSl
    · intro j b hj
      rcases Nat.lt_trichotomy j as.length with h1 | h1 | h1
      · rw [List.getElem?_append_left h1] at hj
        obtain ⟨x', y', e1, e2, e3⟩ := hG.pairs j b hj
        have hb := hG.above b (List.mem_of_getElem? hj)
        obtain ⟨o1, o2, o3, o4⟩ := off b hb
        exact ⟨x', y', e1, e2, up b _ (Nat.ne_of_gt hb) (hkp b _ o1 o2 o3 o4 e3)⟩
      · subst h1
        have hb : h.objs.size = b := by simpa using hj
        subst hb
        exact ⟨_, _, by rw [hal]; exact ex, by rw [hal]; exact ey, up _ _ (Nat.ne_of_gt hSl) ht⟩
      · have hnone : (as ++ [h.objs.size])[j]? = none := List.getElem?_eq_none (by rw [List.length_append, List.length_singleton]; omega)
        rw [hnone] at hj; cases hj
end
theorem zip_nolen : typeLookup (.type "zip") "__len__" = pure none := by rw [typeLookup_type, builtinLookup_eq_fast]; kernel_rfl
theorem zip_nohint : typeLookup (.type "zip") "__length_hint__" = pure none := by rw [typeLookup_type, builtinLookup_eq_fast]; kernel_rfl
section
variable {prog : Program} {w : World} {A : Around} {s : Shared} {z TI TO i1 i2 l1 l2 S : Addr} {xs ys : Array Value}
theorem zl_extend {R : Result → Shared → Prop} (hh : A.handled = none) (D : ZipApart z TI TO i1 i2 l1 l2) (B : ZLow z TI TO i1 i2 l1 l2 S) (hz : IsZip s.heap z TI TO .none) (st : ZSt s.heap z TI TO i1 i2 l1 l2 S xs ys 0) (res : Value) (c₀ : Nat) (hS : s.heap.get? S = some { cls := .type "list", data := .seq #[] c₀ })
    (hR : ∀ h' tk acc c as, (∀ b o, b ≠ S → b ≠ z → b ≠ TO → b ≠ i1 → b ≠ i2 → s.heap.get? b = some o → h'.get? b = some o) → h'.get? S = some { cls := .type "list", dict := none, data := .seq acc c, slots := #[] } → as.length = min xs.size ys.size → ZG xs ys S h' as →
      acc.toList = as.map Value.ref → R (.ok (.ret res)) { s with heap := h', toks := tk }) (hn : min xs.size ys.size ≤ sizeLine) :
    wpAny (model prog w) A.in1 (Builtin.List.listExtendWith (.ref S) (.ref z) res)
      (fun fin s' => match fin with | .done f => R (.ok f) s' | .again c' => c'.quiet = true ∧ codeAny (model prog w) A c' R s') (fun e s' => R (.error e) s') s := by
  have hT : s.TypeIs (.ref z) "zip" := ⟨_, hz, rfl⟩
  have key : ∀ (h : Heap) (c₁ tk : Nat), (∀ b o, b ≠ S → s.heap.get? b = some o → h.get? b = some o) →
      h.get? S = some { cls := .type "list", data := .seq #[] c₁ } → codeAny (model prog w) A (.builtin "list.extend.loop" ⟨[.ref S, .ref z, res], []⟩) R { s with heap := h, toks := tk } := by
    intro h c₁ tk hk hS₁
    exact zl_loop (s := s) (h₁ := s.heap) hh D B hn res hR
      (min xs.size ys.size) 0 h tk c₁ #[] [] (Nat.sub_zero _) (Nat.zero_le _) (st.keep B hk) (fun b o hb _ _ _ _ e => hk b o hb e) hS₁ rfl rfl
      ⟨List.Pairwise.nil, (fun _ ha => nomatch ha), (fun j a hj => by simp at hj)⟩
  unfold Builtin.List.listExtendWith
  refine wpAny_bind (wpAny_typeOf hT ?_)
  have h1 : Builtin.List.listSameRef (.ref S) (.ref z) = false := by
    have := Nat.ne_of_gt B.z
    simp [Builtin.List.listSameRef, this]
  have h2 : (Value.type "zip" == Value.type "list") = false := by decide
  have h3 : (Value.type "zip" == Value.type "tuple") = false := by decide
  simp only [h1, h2, h3, Bool.or_false, Bool.false_eq_true, if_false]
  refine wpAny_bind (wpAny_pyIter_zip hz ?_)
  refine wpAny_bind (wpAny_holding ?_)
  unfold Builtin.List.listLengthHint
  refine wpAny_bind (wpAny_specialOf hT zip_nolen ?_)
  show wpAny _ A.in1 (specialOf (Value.ref z) (Str.ofString "__length_hint__") >>= _) _ _ _
  refine wpAny_bind (wpAny_specialOf hT zip_nohint ?_)
  refine wpAny_pure ?_
  refine wpAny_ite_split (fun _ => ?_) (fun _ => wpAny_pure ⟨plainId_quiet PySem.F.plain_extend_loop _, key _ c₀ _ (fun b o _ e => e) hS⟩)
  refine wpAny_bind (wpAny_rule ?_)
  refine wpAny_bind ?_
  show wpAny _ _ (updateSeq S (·.push .none) >>= fun _ => updateSeq S (·.pop)) _ _ _
  refine wpAny_bind (wpAny_updateSeq hS rfl ?_)
  have hS₂ := Heap.get?_update_self (Obj.mapSeq (·.push Value.none)) hS rfl
  refine wpAny_updateSeq (hz := by seq_fits) hS₂ rfl ?_
  have hS₃ := Heap.get?_update_self (Obj.mapSeq (·.pop)) hS₂ rfl
  refine wpAny_pure ⟨plainId_quiet PySem.F.plain_extend_loop _, key _ _ _ (fun b o hb e => ?_) hS₃⟩
  exact (Heap.get?_update_other _ _ (Ne.symm hb)).trans ((Heap.get?_update_other _ _ (Ne.symm hb)).trans e)
theorem zl_init {R : Result → Shared → Prop} (hh : A.handled = none) (D : ZipApart z TI TO i1 i2 l1 l2) (B : ZLow z TI TO i1 i2 l1 l2 S) (hz : IsZip s.heap z TI TO .none) (st : ZSt s.heap z TI TO i1 i2 l1 l2 S xs ys 0) (hS : s.heap.get? S = some { cls := .type "list", data := .seq #[] })
    (hR : ∀ h' tk acc c as, (∀ b o, b ≠ S → b ≠ z → b ≠ TO → b ≠ i1 → b ≠ i2 → s.heap.get? b = some o → h'.get? b = some o) → h'.get? S = some { cls := .type "list", dict := none, data := .seq acc c, slots := #[] } → as.length = min xs.size ys.size → ZG xs ys S h' as →
      acc.toList = as.map Value.ref → R (.ok (.ret .none)) { s with heap := h', toks := tk }) (hn : min xs.size ys.size ≤ sizeLine) :
    wpAny (model prog w) A.in1 (Builtin.«list.__init__» ⟨[.ref S, .ref z], []⟩)
      (fun fin s' => match fin with | .done f => R (.ok f) s' | .again c' => c'.quiet = true ∧ codeAny (model prog w) A c' R s') (fun e s' => R (.error e) s') s := by
  show wpAny _ _ (do let old ← Builtin.List.listItems (.ref S); Builtin.List.listUpdate (.ref S) (fun _ => #[]); letGo old.toList.reverse; Builtin.List.listExtendWith (.ref S) (.ref z) .none) _ _ s
  refine wpAny_bind ?_
  unfold Builtin.List.listItems
  refine wpAny_bind (wpAny_seqItems hS rfl (wpAny_pure ?_))
  show wpAny _ _ (updateSeq S (fun _ => #[]) >>= fun _ => letGo (#[] : Array Value).toList.reverse >>= fun _ => Builtin.List.listExtendWith (.ref S) (.ref z) .none) _ _ s
  refine wpAny_bind (wpAny_updateSeq hS rfl ?_)
  have hS₂ := Heap.get?_update_self (Obj.mapSeq (fun _ => (#[] : Array Value))) hS rfl
  have oth : ∀ b o, b ≠ S → s.heap.get? b = some o → (s.heap.update S (Obj.mapSeq (fun _ => (#[] : Array Value)))).get? b = some o :=
    fun b o hb e => (Heap.get?_update_other _ _ (Ne.symm hb)).trans e
  refine wpAny_bind (wpAny_letGo ?_)
  refine zl_extend (s := { s with heap := s.heap.update S (Obj.mapSeq (fun _ => (#[] : Array Value))) }) hh D B (oth z _ (Nat.ne_of_lt B.z) hz) (st.keep B oth) .none _ hS₂ (fun h' tk acc c as hk hS' hl hG hacc => ?_) hn
  exact hR h' tk acc c as (fun b o hb b2 b3 b4 b5 e => hk b o hb b2 b3 b4 b5 (oth b o hb e)) hS' hl hG hacc
theorem zl_call {E : Value → Shared → Prop} {Q : Value → Shared → Prop} (hh : A.handled = none) (D : ZipApart z TI TO i1 i2 l1 l2) (B : ZLow z TI TO i1 i2 l1 l2 s.heap.objs.size) (hz : IsZip s.heap z TI TO .none)
    (hTI : IsPair s.heap TI (.ref i1) (.ref i2)) (hTO : ∃ a b, IsPair s.heap TO a b) (h1 : s.heap.IsListIter i1 l1 0) (h2 : s.heap.IsListIter i2 l2 0) (hl1 : s.heap.IsList l1 xs) (hl2 : s.heap.IsList l2 ys) (hn : min xs.size ys.size ≤ sizeLine)
    (hQ : ∀ h' tk acc c as, (∀ b o, b ≠ z → b ≠ TO → b ≠ i1 → b ≠ i2 → s.heap.get? b = some o → h'.get? b = some o) → h'.get? s.heap.objs.size = some { cls := .type "list", dict := none, data := .seq acc c, slots := #[] } → as.length = min xs.size ys.size → ZG xs ys s.heap.objs.size h' as →
      acc.toList = as.map Value.ref → Q (.ref s.heap.objs.size) { s with heap := h', toks := tk }) :
    wpAny (model prog w) A (call (.type "list") [.ref z]) Q E s := by
  refine callType_codes (Q₁ := fun obj s₁ => obj = .ref s.heap.objs.size ∧ s₁ = { s with heap := s.heap.push { cls := .type "list", data := .seq #[] } }) PySem.F.called_list (PySem.F.typeCall_list_1 _) PySem.F.entry_list_init
    (code_list_new _ ⟨rfl, rfl⟩) fun obj s₁ h₁ => ?_
  obtain ⟨rfl, rfl⟩ := h₁
  have hS : (s.heap.push { cls := .type "list", data := .seq #[] }).get? s.heap.objs.size = some { cls := .type "list", data := .seq #[] } := Heap.get?_push_size _ rfl
  have pu : ∀ {b o}, s.heap.get? b = some o → (s.heap.push { cls := .type "list", data := .seq #[] }).get? b = some o := fun e => Heap.get?_push_of_some _ e
  obtain ⟨a, b, hTO⟩ := hTO
  refine ⟨⟨_, hS, rfl⟩, PySem.F.args_list_init_2 _ _, zl_init (A := A.in1) (s := { s with heap := s.heap.push { cls := .type "list", data := .seq #[] } }) hh D B (pu hz) ⟨pu hTI, h1.at fun o e => pu e, h2.at fun o e => pu e, hl1.at fun o e => pu e, hl2.at fun o e => pu e, .inl ⟨pu hz, a, b, pu hTO⟩⟩ hS (fun h' tk acc c as hk hS' hl hG hacc => ?_) hn⟩
  exact ⟨rfl, hQ h' tk acc c as (fun b o b2 b3 b4 b5 e => hk b o (Nat.ne_of_lt (Heap.lt_size e)) b2 b3 b4 b5 (pu e)) hS' hl hG hacc⟩
end
end RT
namespace RT
open PySem PySem.Spec PyProof.Rows L2
/-- the pairs tracked at their addresses -/
def putP : Hp → List Addr → List (V × V) → Hp
  | H, a :: as, p :: ps => putP (upd H a (.tup [p.1, p.2])) as ps
  | H, _, _ => H
theorem putP_off {b : Addr} : ∀ (as : List Addr) (ps : List (V × V)) (H : Hp), b ∉ as → putP H as ps b = H b
  | [], _, _, _ => rfl
  | _ :: _, [], _, _ => rfl
  | a :: as, p :: ps, H, h => by
    show putP (upd H a (.tup [p.1, p.2])) as ps b = H b
    rw [putP_off as ps _ (fun z => h (List.mem_cons_of_mem _ z)), upd_ne (fun z => h (by rw [z]; exact List.mem_cons_self))]
theorem putP_at : ∀ (as : List Addr) (ps : List (V × V)) (H : Hp), as.Nodup → ∀ (j : Nat) (a : Addr) (p : V × V), as[j]? = some a → ps[j]? = some p → putP H as ps a = some (.tup [p.1, p.2])
  | [], _, _, _, j, a, p, h, _ => by cases h
  | _ :: _, [], _, _, j, a, p, _, h => by cases h
  | a :: as, q :: ps, H, hn, 0, b, p, h1, h2 => by
    have hn' := List.nodup_cons.mp hn
    have e1 : a = b := Option.some.inj h1
    have e2 : q = p := Option.some.inj h2
    subst e1 e2
    show putP (upd H a (.tup [q.1, q.2])) as ps a = some (.tup [q.1, q.2])
    rw [putP_off as ps _ hn'.1, upd_same]
  | a :: as, q :: ps, H, hn, j + 1, b, p, h1, h2 => by
    have hn' := List.nodup_cons.mp hn
    exact putP_at as ps _ hn'.2 j b p h1 h2
theorem vals_refs : ∀ as : List Addr, Vals (as.map V.ref) (as.map Value.ref)
  | [] => .nil
  | _ :: as => .cons rfl (vals_refs as)
section
variable {X : Cx} {pins : List (Addr × Obj)} {σ : L2.St} {H : Hp} {s : Shared}
theorem pairs_laid {h' : Heap} {tk : Nat} {S : Addr} {ps : List (V × V)} {acc : Array Value} {c : Nat} {as : List Addr} (I : Inv X pins σ H s) (hz : ps.length ≤ sizeLine) (hSz : s.heap.objs.size ≤ S)
    (hk : ∀ b o, s.heap.get? b = some o → h'.get? b = some o) (hS : h'.get? S = some { cls := .type "list", dict := none, data := .seq acc c, slots := #[] }) (hl : as.length = ps.length) (rise : as.Pairwise (· < ·)) (above : ∀ a ∈ as, S < a)
    (hp : ∀ (j : Nat) (a : Addr) (p : V × V), as[j]? = some a → ps[j]? = some p → ∃ u v, RelV p.1 u ∧ RelV p.2 v ∧ IsPair h' a u v) (hacc : acc.toList = as.map Value.ref) :
    ∃ H' : Hp, (∀ b o, H b = some o → H' b = some o) ∧ H S = none ∧ (∀ t ∈ as, H t = none) ∧ S ∉ as ∧ H' S = some (.lst (as.map V.ref)) ∧ (∀ (j : Nat) (a : Addr) (p : V × V), as[j]? = some a → ps[j]? = some p → H' a = some (.tup [p.1, p.2])) ∧ Inv X pins σ H' { s with heap := h', toks := tk } := by
  have hSn : S ∉ as := fun z => Nat.lt_irrefl _ (above _ z)
  have nd : as.Nodup := List.Pairwise.imp (fun {a b} (h : a < b) => Nat.ne_of_lt h) rise
  have new : ∀ t ∈ as, H t = none := fun t ht => I.hok.fresh (Nat.le_of_lt (Nat.lt_of_le_of_lt hSz (above t ht)))
  have newS : H S = none := I.hok.fresh hSz
  have atP := putP_at as ps (upd H S (.lst (as.map V.ref))) nd
  have off : ∀ b, b ∉ as → b ≠ S → putP (upd H S (.lst (as.map V.ref))) as ps b = H b := fun b h1 h2 => by rw [putP_off as ps _ h1, upd_ne h2]
  have low : ∀ b o, s.heap.get? b = some o → b ∉ as ∧ b ≠ S := fun b o e => ⟨fun z => absurd (Heap.lt_size e) (Nat.not_lt.mpr (Nat.le_of_lt (Nat.lt_of_le_of_lt hSz (above b z)))), Nat.ne_of_lt (Nat.lt_of_lt_of_le (Heap.lt_size e) hSz)⟩
  have kp : ∀ b u, H b = some u → (putP (upd H S (.lst (as.map V.ref))) as ps) b = some u := fun b u e => by
    rw [off b (fun z => by rw [new b z] at e; cases e) (fun z => by rw [z, newS] at e; cases e)]
    exact e
  have eS : putP (upd H S (.lst (as.map V.ref))) as ps S = some (.lst (as.map V.ref)) := by rw [putP_off as ps _ hSn, upd_same]
  refine ⟨putP (upd H S (.lst (as.map V.ref))) as ps, kp, newS, new, hSn, eS, atP, ?_⟩
  refine I.call' (ch := []) rfl ⟨fun b o q _ _ _ => hk b o q, fun b o q _ _ _ => ⟨o.slots, hk b o q⟩, fun b o q n _ => ?_, fun b o q _ => ⟨o, hk b o q⟩, fun b xs q => kp b _ q, fun b o u q => kp b _ q, fun b ps q => ⟨#[], by rw [kp b _ q]; simp⟩⟩ (fun b u q => ?_) I.bare fun b z => by simp at z
  · obtain ⟨z1, z2⟩ := low b o q
    rw [off b z1 z2]
    exact n
  · by_cases hb : b ∈ as
    · obtain ⟨j, ej⟩ := List.mem_iff_getElem?.mp hb
      have hj : j < ps.length := by
        have := (List.getElem?_eq_some_iff.mp ej).1
        omega
      have e2 : ps[j]? = some ps[j] := List.getElem?_eq_getElem hj
      rw [atP j b _ ej e2] at q
      cases q
      obtain ⟨x, y, r1, r2, f3⟩ := hp j b _ ej e2
      exact ⟨by show 2 ≤ sizeLine; decide, [x, y], .cons r1 (.cons r2 .nil), ⟨_, f3, rfl, _, rfl⟩⟩
    · by_cases hb2 : b = S
      · rw [hb2] at q ⊢
        rw [eS] at q
        cases q
        refine ⟨by rw [List.length_map]; omega, acc.toList, c, by rw [hacc]; exact vals_refs as, ?_⟩
        rw [Array.toArray_toList]
        exact hS
      · rw [off b hb hb2] at q
        exact (I.hok b u q).stay (fun d v _ y => hk d v y) (fun d y => kp d _ y) fun d xs y => kp d _ y
end
/-- list(zip(xs, ys)): a new list of new pairs -/
def tListZip (K : PySem.W.Frag) (ta : TA) : TE := fun σ H Q => ta σ H fun vs H1 => ∃ (a b : Addr) (xs ys : List V), vs = [.ref a, .ref b] ∧ SqL K H1 a xs ∧ SqL K H1 b ys ∧
  ∀ (H' : Hp) (p : Addr) (ts : List Addr), (∀ b o, H1 b = some o → H' b = some o) → H1 p = none → (∀ t ∈ ts, H1 t = none) → p ∉ ts → H' p = some (.lst (ts.map V.ref)) → ts.length = (xs.zip ys).length →
    (∀ (j : Nat) (t : Addr) (q : V × V), ts[j]? = some t → (xs.zip ys)[j]? = some q → H' t = some (.tup [q.1, q.2])) → Q (.ref p) H'
section
variable {X : Cx} {e e2 : Expr} {ta : TA} {p p2 pos pos2 : Pos}
theorem pe_listZip (hc : X.calm = true) (hgl : Gl X "list") (hml : X.mg "list" = none) (hg : Gl X "zip") (hm : X.mg "zip" = none) (ha : PA X [e, e2] ta)
    (hs1 : starEach [.Call (.Name "zip" p) [e, e2] [] pos] X.env = (false, eval (.Call (.Name "zip" p) [e, e2] [] pos) X.env) :: starEach [] X.env := by rfl)
    (hs : starEach [e, e2] X.env = (false, eval e X.env) :: starEach [e2] X.env := by rfl) (hpl : (backTo pos (starEach [e2] X.env)).any (·.1) = false := by rfl) :
    PE X (.Call (.Name "list" p2) [.Call (.Name "zip" p) [e, e2] [] pos] [] pos2) (tListZip X.K ta) := by
  refine ⟨fun pins s σ H Q I h => ?_⟩
  refine wpAny_Call_Name_kw (ld_blt I hgl hml boot_list ?_)
  refine PyProof.Rows.callWith_type1 ?_ hs1 rfl
  rw [hs1]
  show wpAny _ _ (spliced ((false, eval (.Call (.Name "zip" p) [e, e2] [] pos) X.env) :: backTo pos2 (starEach [] X.env))) _ _ s
  refine Calls.spliced_cons ?_
  refine Call_ (ld_blt I hg hm PyProof.Rows.boot_zip (PyProof.Rows.callWith_type1 (thn (ha.run pos pins s σ H _ I h) fun us s1 ⟨vs, H1, I1, r1, q1⟩ => ?_) hs hpl))
  obtain ⟨a, b, xs, ys, ex, hqx, hqy, q⟩ := q1
  subst ex
  cases r1 with
  | cons r rr =>
    cases rr with
    | cons r' rr =>
      cases rr
      cases r
      cases r'
      obtain ⟨its, rv, pl1, hz1⟩ := I1.list hqx
      obtain ⟨its2, rv2, pl2, hz2⟩ := I1.list hqy
      have la := pl1.lt
      have lb := pl2.lt
      refine call_zip_2 pl1.isList pl2.isList fun h' hz hTI hTO h1 h2 hsz hk => ?_
      refine Calls.spliced_nil ?_
      have len1 : its.toArray.size = xs.length := by rw [List.size_toArray, ← rv.length]
      have len2 : its2.toArray.size = ys.length := by rw [List.size_toArray, ← rv2.length]
      have B : ZLow (s1.heap.objs.size + 4) (s1.heap.objs.size + 2) (s1.heap.objs.size + 3) s1.heap.objs.size (s1.heap.objs.size + 1) a b h'.objs.size := by
        rw [hsz]
        refine ⟨?_, ?_, ?_, ?_, ?_, ?_, ?_⟩
        all_goals first | (exact Nat.lt_of_lt_of_le la (Nat.le_add_right _ _)) | (exact Nat.lt_of_lt_of_le lb (Nat.le_add_right _ _)) | (show _ < s1.heap.objs.size + 5; omega)
      refine zl_call (s := { s1 with heap := h' }) (I1.ok.hd hc) (PySem.W.ktu_apart s1.heap.objs.size a b la lb) B hz hTI ⟨_, _, hTO⟩ h1 h2 (pl1.isList.at fun o e => hk _ o e) (pl2.isList.at fun o e => hk _ o e) (by rw [len1, len2]; omega) fun h'' tk acc c as hk2 hS hl hG hacc => ?_
      have kept : ∀ b o, s1.heap.get? b = some o → h''.get? b = some o := fun b o e => by
        have lt := Heap.lt_size e
        refine hk2 b o ?_ ?_ ?_ ?_ (hk b o e)
        all_goals (intro z; rw [z] at lt; first | exact absurd lt (Nat.not_lt.mpr (Nat.le_add_right _ _)) | exact absurd lt (Nat.lt_irrefl _))
      have hlen : as.length = (xs.zip ys).length := by rw [hl, len1, len2, List.length_zip]
      obtain ⟨H', k1, k2, k3, k4, k5, k6, J⟩ := pairs_laid (tk := tk) (ps := xs.zip ys) I1 (by rw [List.length_zip]; omega) (by show s1.heap.objs.size ≤ h'.objs.size; rw [hsz]; exact Nat.le_add_right _ _) kept hS hlen hG.rise hG.above (fun j t q ej eq => by
        obtain ⟨u, v, e1, e2, e3⟩ := hG.pairs j t ej
        obtain ⟨g1, g2⟩ := List.getElem?_zip_eq_some.mp eq
        obtain ⟨u', hu', ru⟩ := rv.get g1
        obtain ⟨v', hv', rv'⟩ := rv2.get g2
        have eu : u' = u := by
          have : its.toArray[j]? = some u' := by simpa using hu'
          exact Option.some.inj (this.symm.trans e1)
        have ev : v' = v := by
          have : its2.toArray[j]? = some v' := by simpa using hv'
          exact Option.some.inj (this.symm.trans e2)
        subst eu ev
        exact ⟨_, _, ru, rv', e3⟩) hacc
      exact ⟨.ref _, H', J, rfl, q H' _ as k1 k2 k3 k4 k5 hlen k6⟩
end
end RT

set_option linter.all false
set_option maxRecDepth 100000
set_option maxHeartbeats 4000000
/-! integers held by intervals; windows -/
namespace SM
open RT
abbrev Iv := Int × Int
/-- how many of lo, lo + 1, .., lo + n - 1 -/
def cnt (f : Int → Bool) (lo : Int) : Nat → Nat
  | 0 => 0
  | n + 1 => cnt f lo n + (if f (lo + n) then 1 else 0)
theorem cnt_add (f : Int → Bool) (lo : Int) (n : Nat) : ∀ m, cnt f lo (n + m) = cnt f lo n + cnt f (lo + n) m
  | 0 => rfl
  | m + 1 => by
    show cnt f lo (n + m) + (if f (lo + ((n + m : Nat) : Int)) = true then 1 else 0) = cnt f lo n + (cnt f (lo + n) m + (if f (lo + (n : Int) + (m : Int)) = true then 1 else 0))
    rw [cnt_add f lo n m, show lo + ((n + m : Nat) : Int) = lo + (n : Int) + (m : Int) by omega]
    omega
theorem cnt_congr {f g : Int → Bool} {lo : Int} : ∀ {n : Nat}, (∀ x, lo ≤ x → x < lo + n → f x = g x) → cnt f lo n = cnt g lo n
  | 0, _ => rfl
  | n + 1, h => by
    show cnt f lo n + _ = cnt g lo n + _
    rw [cnt_congr fun x h1 h2 => h x h1 (by omega), h (lo + n) (by omega) (by omega)]
theorem cnt_all {f : Int → Bool} {lo : Int} : ∀ {n : Nat}, (∀ x, lo ≤ x → x < lo + n → f x = true) → cnt f lo n = n
  | 0, _ => rfl
  | n + 1, h => by
    show cnt f lo n + _ = n + 1
    rw [cnt_all fun x h1 h2 => h x h1 (by omega), h (lo + n) (by omega) (by omega)]
    rfl
theorem cnt_none {f : Int → Bool} {lo : Int} : ∀ {n : Nat}, (∀ x, lo ≤ x → x < lo + n → f x = false) → cnt f lo n = 0
  | 0, _ => rfl
  | n + 1, h => by
    show cnt f lo n + _ = 0
    rw [cnt_none fun x h1 h2 => h x h1 (by omega), h (lo + n) (by omega) (by omega)]
    rfl
theorem cnt_le (f : Int → Bool) (lo : Int) : ∀ n, cnt f lo n ≤ n
  | 0 => Nat.le_refl _
  | n + 1 => by
    have h := cnt_le f lo n
    show cnt f lo n + _ ≤ n + 1
    split <;> omega
theorem cnt_not (f : Int → Bool) (lo : Int) : ∀ n, cnt (fun x => !f x) lo n + cnt f lo n = n
  | 0 => rfl
  | n + 1 => by
    have h := cnt_not f lo n
    show (cnt (fun x => !f x) lo n + (if (!f (lo + n)) = true then 1 else 0)) + (cnt f lo n + (if f (lo + n) = true then 1 else 0)) = n + 1
    cases f (lo + n) <;> simp <;> omega
theorem cnt_xor (f g : Int → Bool) (lo : Int) : ∀ n, (cnt f lo n + cnt g lo n) % 2 = cnt (fun x => xor (f x) (g x)) lo n % 2
  | 0 => rfl
  | n + 1 => by
    have h := cnt_xor f g lo n
    show ((cnt f lo n + (if f (lo + n) = true then 1 else 0)) + (cnt g lo n + (if g (lo + n) = true then 1 else 0))) % 2 = (cnt (fun x => xor (f x) (g x)) lo n + (if xor (f (lo + n)) (g (lo + n)) = true then 1 else 0)) % 2
    cases f (lo + n) <;> cases g (lo + n) <;> simp <;> omega
theorem cnt_shift (f : Int → Bool) (lo d : Int) : ∀ n, cnt f (lo + d) n = cnt (fun x => f (x + d)) lo n
  | 0 => rfl
  | n + 1 => by
    show cnt f (lo + d) n + _ = cnt _ lo n + _
    rw [cnt_shift f lo d n, show lo + d + (n : Int) = lo + n + d by omega]
/-- how many intervals hold x -/
def held : List Iv → Int → Nat
  | [], _ => 0
  | p :: L, x => held L x + (if p.1 ≤ x ∧ x < p.2 then 1 else 0)
def pos (L : List Iv) (x : Int) : Bool := decide (0 < held L x)
def odd (L : List Iv) (x : Int) : Bool := decide (held L x % 2 = 1)
def Within (L : List Iv) (lo : Int) (n : Nat) : Prop := ∀ p ∈ L, lo ≤ p.1 ∧ p.2 ≤ lo + n
def CovOf (L : List Iv) (v : Int) : Prop := ∀ lo n, Within L lo n → v = (cnt (pos L) lo n : Int)
def OddOf (L : List Iv) (v : Int) : Prop := ∀ lo n, Within L lo n → v = (cnt (odd L) lo n : Int)
/-- windows of one length -/
def win (len : Int) (ns : List Int) : List Iv := ns.map fun a => (a, a + len)
/-- how many of the numbers are at most y -/
def upto : List Int → Int → Nat
  | [], _ => 0
  | a :: l, y => upto l y + (if a ≤ y then 1 else 0)
def gaps : List Int → List Int
  | [] => []
  | [_] => []
  | a :: b :: l => (b - a) :: gaps (b :: l)
def Asc (ns : List Int) : Prop := ns.Pairwise (· < ·)
def last : Int → List Int → Int
  | a, [] => a
  | _, b :: l => last b l
theorem last_ge : ∀ {l : List Int} {a : Int}, Asc (a :: l) → a ≤ last a l
  | [], a, _ => Int.le_refl a
  | b :: l, a, h => by
    have h1 := List.pairwise_cons.mp h
    have h2 := last_ge h1.2
    have h3 := h1.1 b (List.mem_cons_self ..)
    show a ≤ last b l
    omega
theorem le_last : ∀ {l : List Int} {a : Int}, Asc (a :: l) → ∀ b ∈ a :: l, b ≤ last a l
  | [], a, _, b, hb => by
    rw [List.mem_singleton.mp hb]
    exact Int.le_refl a
  | c :: l, a, h, b, hb => by
    rcases List.mem_cons.mp hb with rfl | hb
    · exact last_ge h
    · exact le_last (List.pairwise_cons.mp h).2 b hb
theorem upto_all : ∀ {l : List Int} {y : Int}, (∀ b ∈ l, b ≤ y) → upto l y = l.length
  | [], _, _ => rfl
  | b :: l, y, h => by
    show upto l y + _ = l.length + 1
    rw [upto_all fun c hc => h c (List.mem_cons_of_mem _ hc), if_pos (h b (List.mem_cons_self ..))]
theorem upto_none : ∀ {l : List Int} {y : Int}, (∀ b ∈ l, y < b) → upto l y = 0
  | [], _, _ => rfl
  | b :: l, y, h => by
    show upto l y + _ = 0
    rw [upto_none fun c hc => h c (List.mem_cons_of_mem _ hc), if_neg (by have := h b (List.mem_cons_self ..); omega)]
theorem upto_le : ∀ (l : List Int) (y : Int), upto l y ≤ l.length
  | [], _ => Nat.le_refl _
  | b :: l, y => by
    have := upto_le l y
    show upto l y + _ ≤ l.length + 1
    split <;> omega
def ups (l : List Int) (y : Int) : Bool := decide (upto l y % 2 = 1)
def evS : List Int → Int
  | [] => 0
  | [g] => g
  | g :: _ :: l => g + evS l
theorem ev_sum : ∀ l : List Int, (ev l).sum = evS l
  | [] => rfl
  | [g] => by simp [ev, evS]
  | g :: h :: l => by
    show (g :: ev l).sum = g + evS l
    rw [List.sum_cons, ev_sum l]
def odS : List Int → Int
  | [] => 0
  | _ :: l => evS l
theorem evS_cons (g : Int) (l : List Int) : evS (g :: l) = g + odS l := by
  cases l with
  | nil => simp [evS, odS]
  | cons h l => rfl
theorem gaps_sum : ∀ (l : List Int) (a : Int), (gaps (a :: l)).sum = last a l - a
  | [], a => by simp [gaps, last]
  | b :: l, a => by
    have h := gaps_sum l b
    show ((b - a) :: gaps (b :: l)).sum = last b l - a
    rw [List.sum_cons, h]
    omega
theorem ev_od : ∀ (l : List Int), evS l + odS l = l.sum
  | [] => rfl
  | g :: l => by
    rw [evS_cons, List.sum_cons, ← ev_od l]
    show g + odS l + evS l = _
    omega
/-- where an odd number of numbers is behind -/
theorem ups_cnt : ∀ (l : List Int) (a : Int), Asc (a :: l) → (cnt (ups (a :: l)) a (last a l - a).toNat : Int) = evS (gaps (a :: l)) ∧ (cnt (fun y => !ups (a :: l) y) a (last a l - a).toNat : Int) = odS (gaps (a :: l))
  | [], a, _ => by
    have e : (last a [] - a).toNat = 0 := by show (a - a).toNat = 0; omega
    rw [e]
    exact ⟨rfl, rfl⟩
  | b :: l, a, h => by
    have h1 := List.pairwise_cons.mp h
    have hab := h1.1 b (List.mem_cons_self ..)
    have hl := last_ge h1.2
    obtain ⟨i1, i2⟩ := ups_cnt l b h1.2
    have e : (last a (b :: l) - a).toNat = (b - a).toNat + (last b l - b).toNat := by show (last b l - a).toNat = _; omega
    have ea : a + ((b - a).toNat : Int) = b := by omega
    have front : ∀ x, a ≤ x → x < a + ((b - a).toNat : Int) → ups (a :: b :: l) x = true := fun x hx1 hx2 => by
      have z : upto (b :: l) x = 0 := upto_none fun c hc => by
        rcases List.mem_cons.mp hc with rfl | hc
        · omega
        · have := (List.pairwise_cons.mp h1.2).1 c hc
          omega
      show decide ((upto (b :: l) x + (if a ≤ x then 1 else 0)) % 2 = 1) = true
      rw [z, if_pos hx1]
      rfl
    have back : ∀ x, b ≤ x → ups (a :: b :: l) x = !ups (b :: l) x := fun x hx => by
      show decide ((upto (b :: l) x + (if a ≤ x then 1 else 0)) % 2 = 1) = !decide (upto (b :: l) x % 2 = 1)
      rw [if_pos (by omega)]
      by_cases p : upto (b :: l) x % 2 = 1
      · rw [decide_eq_true p, decide_eq_false (by omega)]
        rfl
      · rw [decide_eq_false p, decide_eq_true (by omega)]
        rfl
    rw [e, cnt_add, cnt_add, ea]
    have g1 : gaps (a :: b :: l) = (b - a) :: gaps (b :: l) := rfl
    refine ⟨?_, ?_⟩
    · rw [cnt_all front, cnt_congr (g := fun y => !ups (b :: l) y) fun x hx _ => back x hx, g1, evS_cons, ← i2]
      omega
    · rw [cnt_none fun x p q => by rw [front x p q]; rfl, cnt_congr (g := ups (b :: l)) fun x hx _ => by rw [back x hx, Bool.not_not], g1]
      show ((0 + cnt (ups (b :: l)) b (last b l - b).toNat : Nat) : Int) = evS (gaps (b :: l))
      rw [Nat.zero_add, i1]
theorem held_win_mid : ∀ (l : List Int) {len x : Int}, (∀ a ∈ l, x < a + len) → held (win len l) x = upto l x
  | [], _, _, _ => rfl
  | a :: l, len, x, h => by
    show held (win len l) x + (if a ≤ x ∧ x < a + len then 1 else 0) = upto l x + (if a ≤ x then 1 else 0)
    rw [held_win_mid l fun b hb => h b (List.mem_cons_of_mem _ hb)]
    have := h a (List.mem_cons_self ..)
    by_cases p : a ≤ x
    · rw [if_pos ⟨p, this⟩, if_pos p]
    · rw [if_neg fun q => p q.1, if_neg p]
theorem held_win_end : ∀ (l : List Int) {len x : Int}, (∀ a ∈ l, a ≤ x) → held (win len l) x + upto l (x - len) = l.length
  | [], _, _, _ => rfl
  | a :: l, len, x, h => by
    have ih := held_win_end l (len := len) (x := x) fun b hb => h b (List.mem_cons_of_mem _ hb)
    have := h a (List.mem_cons_self ..)
    show (held (win len l) x + (if a ≤ x ∧ x < a + len then 1 else 0)) + (upto l (x - len) + (if a ≤ x - len then 1 else 0)) = l.length + 1
    by_cases p : a ≤ x - len
    · rw [if_neg (by omega), if_pos p]
      omega
    · rw [if_pos (by omega), if_neg p]
      omega
theorem within_win {a : Int} {l : List Int} {len : Int} (h : Asc (a :: l)) (hl : 0 ≤ len) : Within (win len (a :: l)) a (last a l - a + len).toNat := by
  have hg := last_ge h
  intro p hp
  obtain ⟨b, hb, rfl⟩ := List.mem_map.mp hp
  have h1 := le_last h b hb
  have h2 : a ≤ b := by
    rcases List.mem_cons.mp hb with rfl | hb
    · exact Int.le_refl _
    · have := (List.pairwise_cons.mp h).1 b hb
      omega
  show a ≤ b ∧ b + len ≤ _
  omega
/-- long windows -/
theorem odd_long {a : Int} {l : List Int} {len v : Int} (h : Asc (a :: l)) (h1 : 1 ≤ len) (h2 : last a l - a ≤ len) (hv : OddOf (win len (a :: l)) v) : v = if (a :: l).length % 2 = 1 then len else 2 * evS (gaps (a :: l)) := by
  have hg := last_ge h
  have e := hv a _ (within_win h (by omega))
  obtain ⟨u1, u2⟩ := ups_cnt l a h
  have es : evS (gaps (a :: l)) + odS (gaps (a :: l)) = last a l - a := by rw [ev_od, gaps_sum]
  have en : (last a l - a + len).toNat = ((last a l - a).toNat + (len - (last a l - a)).toNat) + (last a l - a).toNat := by omega
  rw [en, cnt_add, cnt_add] at e
  have ge : ∀ b ∈ a :: l, a ≤ b := fun b hb => by
    rcases List.mem_cons.mp hb with rfl | hb
    · exact Int.le_refl _
    · have := (List.pairwise_cons.mp h).1 b hb
      omega
  have c1 : cnt (odd (win len (a :: l))) a (last a l - a).toNat = cnt (ups (a :: l)) a (last a l - a).toNat := cnt_congr fun x p q => by
    show decide (held (win len (a :: l)) x % 2 = 1) = decide (upto (a :: l) x % 2 = 1)
    rw [held_win_mid (a :: l) fun b hb => by have := ge b hb; omega]
  have c3 : ∀ d, d = a + (((last a l - a).toNat + (len - (last a l - a)).toNat : Nat) : Int) → cnt (odd (win len (a :: l))) d (last a l - a).toNat = cnt (fun y => decide (((a :: l).length - upto (a :: l) y) % 2 = 1)) a (last a l - a).toNat := fun d hd => by
    have e2 : d = a + len := by omega
    subst e2
    rw [cnt_shift]
    refine cnt_congr fun x p q => ?_
    show decide (held (win len (a :: l)) (x + len) % 2 = 1) = decide (((a :: l).length - upto (a :: l) x) % 2 = 1)
    have h3 := held_win_end (a :: l) (len := len) (x := x + len) fun b hb => by have := le_last h b hb; omega
    rw [show x + len - len = x by omega] at h3
    rw [show held (win len (a :: l)) (x + len) = (a :: l).length - upto (a :: l) x by omega]
  have mid : ∀ x, a + ((last a l - a).toNat : Int) ≤ x → x < a + ((last a l - a).toNat : Int) + ((len - (last a l - a)).toNat : Int) → odd (win len (a :: l)) x = decide ((a :: l).length % 2 = 1) := fun x p q => by
    show decide (held (win len (a :: l)) x % 2 = 1) = _
    rw [held_win_mid (a :: l) fun b hb => by have := ge b hb; omega, upto_all fun b hb => by have := le_last h b hb; omega]
  rw [c1, c3 _ rfl] at e
  by_cases hn : (a :: l).length % 2 = 1
  · rw [if_pos hn]
    have c2 : cnt (odd (win len (a :: l))) (a + ((last a l - a).toNat : Int)) (len - (last a l - a)).toNat = (len - (last a l - a)).toNat := cnt_all fun x p q => by rw [mid x p q, decide_eq_true hn]
    have c4 : cnt (fun y => decide (((a :: l).length - upto (a :: l) y) % 2 = 1)) a (last a l - a).toNat = cnt (fun y => !ups (a :: l) y) a (last a l - a).toNat := cnt_congr fun x _ _ => by
      have := upto_le (a :: l) x
      show decide _ = !decide (upto (a :: l) x % 2 = 1)
      by_cases p : upto (a :: l) x % 2 = 1
      · rw [decide_eq_true p, decide_eq_false (by omega)]
        rfl
      · rw [decide_eq_false p, decide_eq_true (by omega)]
        rfl
    rw [c2, c4] at e
    omega
  · rw [if_neg hn]
    have c2 : cnt (odd (win len (a :: l))) (a + ((last a l - a).toNat : Int)) (len - (last a l - a)).toNat = 0 := cnt_none fun x p q => by rw [mid x p q, decide_eq_false hn]
    have c4 : cnt (fun y => decide (((a :: l).length - upto (a :: l) y) % 2 = 1)) a (last a l - a).toNat = cnt (ups (a :: l)) a (last a l - a).toNat := cnt_congr fun x _ _ => by
      have := upto_le (a :: l) x
      show decide _ = decide (upto (a :: l) x % 2 = 1)
      by_cases p : upto (a :: l) x % 2 = 1
      · rw [decide_eq_true p, decide_eq_true (by omega)]
      · rw [decide_eq_false p, decide_eq_false (by omega)]
    rw [c2, c4] at e
    omega
def minS (len : Int) : List Int → Int
  | [] => 0
  | g :: l => (if len < g then len else g) + minS len l
theorem pos_win (l : List Int) (len x : Int) : pos (win len l) x = true ↔ ∃ b ∈ l, b ≤ x ∧ x < b + len := by
  induction l with
  | nil => exact ⟨fun h => by simp [pos, win, held] at h, fun ⟨b, hb, _⟩ => by cases hb⟩
  | cons a l ih =>
    show decide (0 < held (win len l) x + (if a ≤ x ∧ x < a + len then 1 else 0)) = true ↔ _
    rw [decide_eq_true_eq]
    have ih' : 0 < held (win len l) x ↔ ∃ b ∈ l, b ≤ x ∧ x < b + len := by
      rw [← ih]
      exact (decide_eq_true_iff).symm
    constructor
    · intro h
      by_cases p : a ≤ x ∧ x < a + len
      · exact ⟨a, List.mem_cons_self .., p⟩
      · rw [if_neg p] at h
        obtain ⟨b, hb, q⟩ := ih'.mp (by omega)
        exact ⟨b, List.mem_cons_of_mem _ hb, q⟩
    · rintro ⟨b, hb, q⟩
      rcases List.mem_cons.mp hb with rfl | hb
      · rw [if_pos q]
        omega
      · have := ih'.mpr ⟨b, hb, q⟩
        omega
theorem cov_cnt : ∀ (l : List Int) (a len : Int), Asc (a :: l) → 0 ≤ len → (cnt (pos (win len (a :: l))) a (last a l - a + len).toNat : Int) = len + minS len (gaps (a :: l))
  | [], a, len, _, hl => by
    have e : (last a [] - a + len).toNat = len.toNat := by show (a - a + len).toNat = _; omega
    rw [e, cnt_all fun x p q => (pos_win [a] len x).mpr ⟨a, List.mem_singleton.mpr rfl, by omega⟩]
    show ((len.toNat : Nat) : Int) = len + 0
    omega
  | b :: l, a, len, h, hl => by
    have h1 := List.pairwise_cons.mp h
    have hab := h1.1 b (List.mem_cons_self ..)
    have hg := last_ge h1.2
    have ih := cov_cnt l b len h1.2 hl
    have e : (last a (b :: l) - a + len).toNat = (b - a).toNat + (last b l - b + len).toNat := by show (last b l - a + len).toNat = _; omega
    have ea : a + ((b - a).toNat : Int) = b := by omega
    have ge : ∀ c ∈ b :: l, b ≤ c := fun c hc => by
      rcases List.mem_cons.mp hc with rfl | hc
      · exact Int.le_refl _
      · have := (List.pairwise_cons.mp h1.2).1 c hc
        omega
    rw [e, cnt_add, ea]
    have back : cnt (pos (win len (a :: b :: l))) b (last b l - b + len).toNat = cnt (pos (win len (b :: l))) b (last b l - b + len).toNat := cnt_congr fun x p _ => by
      rw [Bool.eq_iff_iff, pos_win, pos_win]
      constructor
      · rintro ⟨c, hc, q1, q2⟩
        rcases List.mem_cons.mp hc with rfl | hc
        · exact ⟨b, List.mem_cons_self .., p, by omega⟩
        · exact ⟨c, hc, q1, q2⟩
      · rintro ⟨c, hc, q⟩
        exact ⟨c, List.mem_cons_of_mem _ hc, q⟩
    have front : ∀ x, a ≤ x → x < b → pos (win len (a :: b :: l)) x = decide (x < a + len) := fun x p q => by
      rw [Bool.eq_iff_iff, pos_win, decide_eq_true_eq]
      constructor
      · rintro ⟨c, hc, q1, q2⟩
        rcases List.mem_cons.mp hc with rfl | hc
        · exact q2
        · have := ge c hc
          omega
      · intro r
        exact ⟨a, List.mem_cons_self .., p, r⟩
    rw [back]
    have g1 : minS len (gaps (a :: b :: l)) = (if len < b - a then len else b - a) + minS len (gaps (b :: l)) := rfl
    rw [g1]
    by_cases p : len < b - a
    · have e2 : (b - a).toNat = len.toNat + (b - a - len).toNat := by omega
      rw [if_pos p, e2, cnt_add, cnt_all fun x p1 p2 => by rw [front x p1 (by omega), decide_eq_true (by omega)], cnt_none fun x p1 p2 => by rw [front x (by omega) (by omega), decide_eq_false (by omega)]]
      omega
    · rw [if_neg p, cnt_all fun x p1 p2 => by rw [front x p1 (by omega), decide_eq_true (by omega)]]
      omega
theorem cov_win {a : Int} {l : List Int} {len v : Int} (h : Asc (a :: l)) (h1 : 0 ≤ len) (hv : CovOf (win len (a :: l)) v) : v = len + minS len (gaps (a :: l)) := by
  rw [hv a _ (within_win h h1)]
  exact cov_cnt l a len h h1
theorem gap_le : ∀ {l : List Int} {a : Int}, Asc (a :: l) → ∀ g ∈ gaps (a :: l), 1 ≤ g ∧ g ≤ last a l - a
  | [], _, _, g, hg => by cases hg
  | b :: l, a, h, g, hg => by
    have h1 := List.pairwise_cons.mp h
    have hab := h1.1 b (List.mem_cons_self ..)
    have hl := last_ge h1.2
    rcases List.mem_cons.mp (show g ∈ (b - a) :: gaps (b :: l) from hg) with rfl | hg
    · show 1 ≤ b - a ∧ b - a ≤ last b l - a
      omega
    · have := gap_le h1.2 g hg
      show 1 ≤ g ∧ g ≤ last b l - a
      omega
theorem minS_long {len : Int} : ∀ {gs : List Int}, (∀ g ∈ gs, g ≤ len) → minS len gs = gs.sum
  | [], _ => rfl
  | g :: gs, h => by
    show (if len < g then len else g) + minS len gs = _
    have := h g (List.mem_cons_self ..)
    rw [if_neg (by omega), minS_long fun x hx => h x (List.mem_cons_of_mem _ hx), List.sum_cons]
theorem cov_long {a : Int} {l : List Int} {len v : Int} (h : Asc (a :: l)) (h1 : 1 ≤ len) (h2 : last a l - a ≤ len) (hv : CovOf (win len (a :: l)) v) : v = (last a l - a) + len := by
  rw [cov_win h (by omega) hv, minS_long fun g hg => Int.le_trans (gap_le h g hg).2 h2, gaps_sum]
  omega
/-- parity -/
theorem odd_par (lo : Int) (n : Nat) : ∀ L : List Iv, Within L lo n → (∀ p ∈ L, p.1 ≤ p.2) → (cnt (odd L) lo n : Int) % 2 = (L.map fun p => p.2 - p.1).sum % 2
  | [], _, _ => by
    rw [cnt_none (f := odd []) fun x _ _ => rfl]
    rfl
  | p :: L, h, h2 => by
    have ih := odd_par lo n L (fun q hq => h q (List.mem_cons_of_mem _ hq)) fun q hq => h2 q (List.mem_cons_of_mem _ hq)
    have hp := h p (List.mem_cons_self ..)
    have hp2 := h2 p (List.mem_cons_self ..)
    have e : ∀ x, odd (p :: L) x = xor (odd L x) (decide (p.1 ≤ x ∧ x < p.2)) := fun x => by
      show decide ((held L x + (if p.1 ≤ x ∧ x < p.2 then 1 else 0)) % 2 = 1) = xor (decide (held L x % 2 = 1)) _
      by_cases q : p.1 ≤ x ∧ x < p.2
      · rw [if_pos q, decide_eq_true q]
        by_cases r : held L x % 2 = 1
        · rw [decide_eq_true r, decide_eq_false (by omega)]
          rfl
        · rw [decide_eq_false r, decide_eq_true (by omega)]
          rfl
      · rw [if_neg q, decide_eq_false q, Nat.add_zero]
        simp
    have c := cnt_xor (odd L) (fun x => decide (p.1 ≤ x ∧ x < p.2)) lo n
    rw [cnt_congr (f := odd (p :: L)) (g := fun x => xor (odd L x) (decide (p.1 ≤ x ∧ x < p.2))) fun x _ _ => e x]
    have c2 : cnt (fun x => decide (p.1 ≤ x ∧ x < p.2)) lo n = (p.2 - p.1).toNat := by
      have en : n = (p.1 - lo).toNat + ((p.2 - p.1).toNat + (lo + n - p.2).toNat) := by omega
      generalize hm : (lo + n - p.2).toNat = m at en
      rw [en, cnt_add, cnt_add, cnt_none fun x p1 p2 => decide_eq_false (by omega), cnt_all fun x p1 p2 => decide_eq_true (by omega), cnt_none fun x p1 p2 => decide_eq_false (by omega)]
      omega
    rw [c2] at c
    rw [List.map_cons, List.sum_cons]
    have c3 : ((cnt (fun x => xor (odd L x) (decide (p.1 ≤ x ∧ x < p.2))) lo n : Nat) : Int) % 2 = ((cnt (odd L) lo n : Int) + ((p.2 - p.1).toNat : Int)) % 2 := by omega
    rw [c3]
    omega
theorem win_sum (len : Int) : ∀ l : List Int, ((win len l).map fun p => p.2 - p.1).sum = (l.length : Int) * len
  | [] => by simp [win]
  | a :: l => by
    have ih := win_sum len l
    show ((a + len - a) :: (win len l).map fun p => p.2 - p.1).sum = ((l.length + 1 : Nat) : Int) * len
    rw [List.sum_cons, ih, show ((l.length + 1 : Nat) : Int) = (l.length : Int) + 1 by omega, Int.add_mul, Int.one_mul]
    omega
theorem odd_mod {a : Int} {l : List Int} {len v : Int} (h : Asc (a :: l)) (h1 : 0 ≤ len) (hv : OddOf (win len (a :: l)) v) : v % 2 = ((a :: l).length : Int) * len % 2 := by
  rw [hv a _ (within_win h h1), odd_par a _ _ (within_win h h1) fun p hp => ?_, win_sum]
  obtain ⟨b, hb, rfl⟩ := List.mem_map.mp hp
  show b ≤ b + len
  omega
/-- the least -/
def firstW (len a : Int) : List Int → Int
  | [] => len
  | b :: _ => if len < b - a then len else b - a
theorem odd_least {a : Int} {l : List Int} {len v : Int} (h : Asc (a :: l)) (h1 : 1 ≤ len) (hv : OddOf (win len (a :: l)) v) : firstW len a l ≤ v := by
  have e := hv a _ (within_win h (by omega))
  have hg := last_ge h
  obtain ⟨k, hk⟩ : ∃ k : Nat, k = (firstW len a l).toNat := ⟨_, rfl⟩
  have k0 : 0 ≤ firstW len a l ∧ firstW len a l ≤ last a l - a + len ∧ firstW len a l ≤ len := by
    cases l with
    | nil => exact ⟨by show 0 ≤ len; omega, by show len ≤ a - a + len; omega, Int.le_refl _⟩
    | cons b l =>
      have := (List.pairwise_cons.mp h).1 b (List.mem_cons_self ..)
      show 0 ≤ (if len < b - a then len else b - a) ∧ (if len < b - a then len else b - a) ≤ _ ∧ (if len < b - a then len else b - a) ≤ len
      split <;> omega
  have en : (last a l - a + len).toNat = k + ((last a l - a + len).toNat - k) := by omega
  rw [en, cnt_add, cnt_all fun x p q => ?_] at e
  · omega
  · show decide (held (win len (a :: l)) x % 2 = 1) = true
    have r : held (win len l) x = 0 := by
      have z : ∀ b ∈ l, x < b := by
        cases l with
        | nil => intro b hb; cases hb
        | cons b l =>
          have hb1 : x < b := by
            have : firstW len a (b :: l) = (if len < b - a then len else b - a) := rfl
            rw [this] at hk
            split at hk <;> omega
          intro c hc
          rcases List.mem_cons.mp hc with rfl | hc
          · exact hb1
          · have := (List.pairwise_cons.mp (List.pairwise_cons.mp h).2).1 c hc
            omega
      have p2 : ¬ (pos (win len l) x = true) := fun t => by
        obtain ⟨b, hb, q1, q2⟩ := (pos_win l len x).mp t
        have := z b hb
        omega
      have p3 : ¬ 0 < held (win len l) x := fun t => p2 (decide_eq_true t)
      omega
    show decide ((held (win len l) x + (if a ≤ x ∧ x < a + len then 1 else 0)) % 2 = 1) = true
    rw [r, if_pos ⟨p, by omega⟩]
    rfl
theorem held_one : ∀ {l : List Int} {x : Int}, Asc l → held (win 1 l) x ≤ 1
  | [], _, _ => Nat.zero_le _
  | a :: l, x, h => by
    have h1 := List.pairwise_cons.mp h
    have ih := held_one (x := x) h1.2
    show held (win 1 l) x + (if a ≤ x ∧ x < a + 1 then 1 else 0) ≤ 1
    by_cases p : a ≤ x ∧ x < a + 1
    · have z : ¬ (pos (win 1 l) x = true) := fun t => by
        obtain ⟨b, hb, q1, q2⟩ := (pos_win l 1 x).mp t
        have := h1.1 b hb
        omega
      have z2 : ¬ 0 < held (win 1 l) x := fun t => z (decide_eq_true t)
      rw [if_pos p]
      omega
    · rw [if_neg p]
      omega
theorem minS_one : ∀ {gs : List Int}, (∀ g ∈ gs, 1 ≤ g) → minS 1 gs = gs.length
  | [], _ => rfl
  | g :: gs, h => by
    show (if 1 < g then 1 else g) + minS 1 gs = ((gs.length + 1 : Nat) : Int)
    rw [minS_one fun x hx => h x (List.mem_cons_of_mem _ hx)]
    have := h g (List.mem_cons_self ..)
    split <;> omega
theorem gaps_len : ∀ (l : List Int) (a : Int), (gaps (a :: l)).length = l.length
  | [], _ => rfl
  | b :: l, a => by
    show (gaps (b :: l)).length + 1 = l.length + 1
    rw [gaps_len l b]
theorem odd_one {a : Int} {l : List Int} {v : Int} (h : Asc (a :: l)) (hv : OddOf (win 1 (a :: l)) v) : v = ((a :: l).length : Int) := by
  rw [hv a _ (within_win h (by omega))]
  have e : cnt (odd (win 1 (a :: l))) a (last a l - a + 1).toNat = cnt (pos (win 1 (a :: l))) a (last a l - a + 1).toNat := cnt_congr fun x _ _ => by
    have := held_one (x := x) h
    show decide (held (win 1 (a :: l)) x % 2 = 1) = decide (0 < held (win 1 (a :: l)) x)
    refine decide_eq_decide.mpr ?_
    omega
  rw [e, cov_cnt l a 1 h (by omega), minS_one fun g hg => (gap_le h g hg).1, gaps_len]
  show (1 : Int) + (l.length : Int) = ((l.length + 1 : Nat) : Int)
  omega
end SM

set_option linter.all false
set_option maxRecDepth 100000
set_option maxHeartbeats 4000000
/-! pieces between neighbouring ends -/
namespace SM
open RT
/-- the sum of the pieces at whose beginning f holds -/
def sumP (f : Int → Bool) : List Int → Int
  | [] => 0
  | [_] => 0
  | a :: b :: l => (if f a then b - a else 0) + sumP f (b :: l)
theorem cnt_pieces (f : Int → Bool) : ∀ (l : List Int) (a : Int), Asc (a :: l) → (∀ i x y, (a :: l)[i]? = some x → (a :: l)[i + 1]? = some y → ∀ z, x ≤ z → z < y → f z = f x) → (cnt f a (last a l - a).toNat : Int) = sumP f (a :: l)
  | [], a, _, _ => by
    have e : (last a [] - a).toNat = 0 := by show (a - a).toNat = 0; omega
    rw [e]
    rfl
  | b :: l, a, h, k => by
    have h1 := List.pairwise_cons.mp h
    have hab := h1.1 b (List.mem_cons_self ..)
    have hl := last_ge h1.2
    have ih := cnt_pieces f l b h1.2 fun i x y ex ey => k (i + 1) x y ex ey
    have e : (last a (b :: l) - a).toNat = (b - a).toNat + (last b l - b).toNat := by show (last b l - a).toNat = _; omega
    have ea : a + ((b - a).toNat : Int) = b := by omega
    have k0 := k 0 a b rfl rfl
    rw [e, cnt_add, ea]
    show ((cnt f a (b - a).toNat + cnt f b (last b l - b).toNat : Nat) : Int) = (if f a = true then b - a else 0) + sumP f (b :: l)
    cases hf : f a with
    | true =>
      rw [cnt_all fun x p q => by rw [k0 x p (by omega), hf], if_pos rfl, ← ih]
      omega
    | false =>
      rw [cnt_none fun x p q => by rw [k0 x p (by omega), hf], if_neg (by decide), ← ih]
      omega
/-- all ends stand in the list -/
def EndsIn (L : List Iv) (es : List Int) : Prop := ∀ p ∈ L, p.1 ∈ es ∧ p.2 ∈ es
theorem between {es : List Int} (h : Asc es) : ∀ {i : Nat} {x y : Int}, es[i]? = some x → es[i + 1]? = some y → ∀ c ∈ es, c ≤ x ∨ y ≤ c := by
  intro i x y ex ey c hc
  obtain ⟨j, hj, rfl⟩ := List.getElem_of_mem hc
  obtain ⟨hi, rfl⟩ := List.getElem?_eq_some_iff.mp ex
  obtain ⟨hi2, rfl⟩ := List.getElem?_eq_some_iff.mp ey
  have pw := List.pairwise_iff_getElem.mp h
  rcases Nat.lt_trichotomy j i with q | q | q
  · exact .inl (Int.le_of_lt (pw j i hj hi q))
  · subst q
    exact .inl (Int.le_refl _)
  · rcases Nat.lt_or_ge (i + 1) j with r | r
    · exact .inr (Int.le_of_lt (pw (i + 1) j hi2 hj r))
    · have : j = i + 1 := by omega
      subst this
      exact .inr (Int.le_refl _)
theorem held_const {es : List Int} (h : Asc es) {i : Nat} {x y : Int} (ex : es[i]? = some x) (ey : es[i + 1]? = some y) {z : Int} (z1 : x ≤ z) (z2 : z < y) : ∀ L : List Iv, EndsIn L es → held L z = held L x
  | [], _ => rfl
  | p :: L, k => by
    have ih := held_const h ex ey z1 z2 L fun q hq => k q (List.mem_cons_of_mem _ hq)
    obtain ⟨k1, k2⟩ := k p (List.mem_cons_self ..)
    have b1 := between h ex ey p.1 k1
    have b2 := between h ex ey p.2 k2
    show held L z + (if p.1 ≤ z ∧ z < p.2 then 1 else 0) = held L x + (if p.1 ≤ x ∧ x < p.2 then 1 else 0)
    rw [ih]
    by_cases q : p.1 ≤ x ∧ x < p.2
    · rw [if_pos q, if_pos (by omega)]
    · rw [if_neg q, if_neg (by omega)]
theorem within_ends {L : List Iv} {a : Int} {l : List Int} (h : Asc (a :: l)) (k : EndsIn L (a :: l)) : Within L a (last a l - a).toNat := by
  have hg := last_ge h
  intro p hp
  obtain ⟨k1, k2⟩ := k p hp
  have h1 : a ≤ p.1 := by
    rcases List.mem_cons.mp k1 with e | e
    · omega
    · have := (List.pairwise_cons.mp h).1 _ e
      omega
  have h2 := le_last h _ k2
  omega
theorem cov_pieces {L : List Iv} {es : List Int} {v : Int} (h : Asc es) (k : EndsIn L es) (hv : CovOf L v) : v = sumP (pos L) es := by
  cases es with
  | nil =>
    cases L with
    | nil => exact (hv 0 0 fun p hp => by cases hp).trans rfl
    | cons p L => exact absurd (k p (List.mem_cons_self ..)).1 (by simp)
  | cons a l =>
    rw [hv a _ (within_ends h k)]
    refine cnt_pieces (pos L) l a h fun i x y ex ey z z1 z2 => ?_
    unfold pos
    rw [held_const h ex ey z1 z2 L k]
theorem odd_pieces {L : List Iv} {es : List Int} {v : Int} (h : Asc es) (k : EndsIn L es) (hv : OddOf L v) : v = sumP (odd L) es := by
  cases es with
  | nil =>
    cases L with
    | nil => exact (hv 0 0 fun p hp => by cases hp).trans rfl
    | cons p L => exact absurd (k p (List.mem_cons_self ..)).1 (by simp)
  | cons a l =>
    rw [hv a _ (within_ends h k)]
    refine cnt_pieces (odd L) l a h fun i x y ex ey z z1 z2 => ?_
    unfold odd
    rw [held_const h ex ey z1 z2 L k]
theorem held_app (L M : List Iv) (x : Int) : held (L ++ M) x = held L x + held M x := by
  induction L with
  | nil => exact (Nat.zero_add _).symm
  | cons p L ih =>
    show held (L ++ M) x + _ = held L x + _ + held M x
    rw [ih]
    omega
theorem held_rev (L : List Iv) (x : Int) : held L.reverse x = held L x := by
  induction L with
  | nil => rfl
  | cons p L ih =>
    rw [List.reverse_cons, held_app, ih]
    show held L x + (0 + _) = held L x + _
    omega
theorem held_pos (L : List Iv) (x : Int) : 0 < held L x ↔ ∃ p ∈ L, p.1 ≤ x ∧ x < p.2 := by
  induction L with
  | nil => exact ⟨fun h => absurd h (Nat.lt_irrefl 0), fun ⟨p, hp, _⟩ => by cases hp⟩
  | cons p L ih =>
    show 0 < held L x + (if p.1 ≤ x ∧ x < p.2 then 1 else 0) ↔ _
    constructor
    · intro h
      by_cases q : p.1 ≤ x ∧ x < p.2
      · exact ⟨p, List.mem_cons_self .., q⟩
      · rw [if_neg q] at h
        obtain ⟨r, hr, e⟩ := ih.mp (by omega)
        exact ⟨r, List.mem_cons_of_mem _ hr, e⟩
    · rintro ⟨r, hr, e⟩
      rcases List.mem_cons.mp hr with rfl | hr
      · rw [if_pos e]
        omega
      · have := ih.mpr ⟨r, hr, e⟩
        omega
theorem cov_same {L M : List Iv} {v : Int} (h : ∀ p, p ∈ M ↔ p ∈ L) (hv : CovOf M v) : CovOf L v := fun lo n w => by
  rw [hv lo n fun p hp => w p ((h p).mp hp)]
  congr 1
  refine cnt_congr fun x _ _ => ?_
  unfold pos
  refine decide_eq_decide.mpr ?_
  rw [held_pos, held_pos]
  exact ⟨fun ⟨p, a, b⟩ => ⟨p, (h p).mp a, b⟩, fun ⟨p, a, b⟩ => ⟨p, (h p).mpr a, b⟩⟩
theorem odd_rev {L : List Iv} {v : Int} (hv : OddOf L.reverse v) : OddOf L v := fun lo n w => by
  rw [hv lo n fun p hp => w p (List.mem_reverse.mp hp)]
  congr 1
  refine cnt_congr fun x _ _ => ?_
  unfold odd
  rw [held_rev]
theorem span_all : ∀ L : List Iv, ∃ lo n, Within L lo n
  | [] => ⟨0, 0, fun p hp => by cases hp⟩
  | p :: L => by
    obtain ⟨lo, n, w⟩ := span_all L
    refine ⟨min lo p.1, (max (lo + n) p.2 - min lo p.1).toNat, fun q hq => ?_⟩
    rcases List.mem_cons.mp hq with rfl | hq
    · omega
    · have := w q hq
      omega
theorem odd_twice {L : List Iv} {v : Int} (hv : OddOf (L ++ L) v) : v = 0 := by
  obtain ⟨lo, n, w⟩ := span_all L
  rw [hv lo n fun p hp => w p (by rcases List.mem_append.mp hp with h | h <;> exact h), cnt_none fun x _ _ => ?_]
  · rfl
  · unfold odd
    rw [held_app]
    exact decide_eq_false (by omega)
/-- the pieces as pairs: how long, how many hold it -/
def pieces (L : List Iv) : List Int → List Iv
  | [] => []
  | [_] => []
  | a :: b :: l => (b - a, (held L a : Int)) :: pieces L (b :: l)
theorem pieces_len (L : List Iv) : ∀ es : List Int, (pieces L es).length = es.length - 1
  | [] => rfl
  | [_] => rfl
  | a :: b :: l => by
    show (pieces L (b :: l)).length + 1 = _
    rw [pieces_len L (b :: l)]
    simp
theorem pieces_at (L : List Iv) : ∀ (es : List Int) (i : Nat), (pieces L es)[i]? = (es[i]?).bind fun x => (es[i + 1]?).map fun y => (y - x, (held L x : Int))
  | [], i => by simp [pieces]
  | [a], i => by cases i <;> simp [pieces]
  | a :: b :: l, 0 => rfl
  | a :: b :: l, i + 1 => pieces_at L (b :: l) i
theorem pieces_pos (L : List Iv) : ∀ es : List Int, (((pieces L es).filter fun p => decide (p.2 > 0)).map (·.1)).sum = sumP (pos L) es
  | [] => rfl
  | [_] => rfl
  | a :: b :: l => by
    have ih := pieces_pos L (b :: l)
    show ((((b - a, (held L a : Int)) :: pieces L (b :: l)).filter fun p => decide (p.2 > 0)).map (·.1)).sum = (if pos L a = true then b - a else 0) + sumP (pos L) (b :: l)
    rw [← ih]
    by_cases q : 0 < held L a
    · rw [List.filter_cons_of_pos (by simpa using q), if_pos (by unfold pos; exact decide_eq_true q)]
      rfl
    · rw [List.filter_cons_of_neg (by simpa using q), if_neg (by unfold pos; simpa using q), Int.zero_add]
theorem pieces_odd (L : List Iv) : ∀ es : List Int, (((pieces L es).filter fun p => decide (p.2 % 2 = 1)).map (·.1)).sum = sumP (odd L) es
  | [] => rfl
  | [_] => rfl
  | a :: b :: l => by
    have ih := pieces_odd L (b :: l)
    show ((((b - a, (held L a : Int)) :: pieces L (b :: l)).filter fun p => decide (p.2 % 2 = 1)).map (·.1)).sum = (if odd L a = true then b - a else 0) + sumP (odd L) (b :: l)
    rw [← ih]
    by_cases q : held L a % 2 = 1
    · rw [List.filter_cons_of_pos (by rw [decide_eq_true_eq]; show ((held L a : Nat) : Int) % 2 = 1; omega), if_pos (by unfold odd; exact decide_eq_true q)]
      rfl
    · rw [List.filter_cons_of_neg (by rw [decide_eq_true_eq]; show ¬ ((held L a : Nat) : Int) % 2 = 1; omega), if_neg (by unfold odd; rw [decide_eq_true_eq]; exact q), Int.zero_add]
theorem held_len (L : List Iv) (x : Int) : (L.filter fun p => decide (p.1 ≤ x) && decide (x < p.2)).length = held L x := by
  induction L with
  | nil => rfl
  | cons p L ih =>
    show _ = held L x + (if p.1 ≤ x ∧ x < p.2 then 1 else 0)
    by_cases q : p.1 ≤ x ∧ x < p.2
    · rw [List.filter_cons_of_pos (by rw [decide_eq_true q.1, decide_eq_true q.2]; rfl), if_pos q, List.length_cons, ih]
    · rw [List.filter_cons_of_neg (by rw [Bool.and_eq_true, decide_eq_true_eq, decide_eq_true_eq]; exact q), if_neg q, ih]
      omega
/-- integer by integer -/
def heldL (L : List Iv) (lo : Int) (n : Nat) : List Int := (List.range n).map fun i : Nat => (held L (lo + (i : Int)) : Int)
theorem cov_small (L : List Iv) (lo : Int) : ∀ n, ((heldL L lo n).length : Int) - ((heldL L lo n).count 0 : Nat) = (cnt (pos L) lo n : Int)
  | 0 => rfl
  | n + 1 => by
    have ih := cov_small L lo n
    have e : heldL L lo (n + 1) = heldL L lo n ++ [(held L (lo + n) : Int)] := by
      unfold heldL
      rw [List.range_succ, List.map_append]
      rfl
    rw [e, List.length_append, List.count_append]
    show _ = ((cnt (pos L) lo n + (if pos L (lo + n) = true then 1 else 0) : Nat) : Int)
    have c : (List.count (0 : Int) [(held L (lo + n) : Int)]) = if 0 < held L (lo + n) then 0 else 1 := by
      by_cases q : 0 < held L (lo + n)
      · rw [if_pos q, List.count_eq_zero]
        intro z
        have := List.mem_singleton.mp z
        omega
      · rw [if_neg q, show held L (lo + n) = 0 by omega]
        rfl
    rw [c]
    by_cases q : 0 < held L (lo + n)
    · rw [if_pos q, if_pos (by unfold pos; exact decide_eq_true q)]
      simp only [List.length_singleton]
      omega
    · rw [if_neg q, if_neg (by unfold pos; rw [decide_eq_true_eq]; exact q)]
      simp only [List.length_singleton]
      omega
theorem odd_small (L : List Iv) (lo : Int) : ∀ n, ((heldL L lo n).map fun x => x % 2).sum = (cnt (odd L) lo n : Int)
  | 0 => rfl
  | n + 1 => by
    have ih := odd_small L lo n
    have e : heldL L lo (n + 1) = heldL L lo n ++ [(held L (lo + n) : Int)] := by
      unfold heldL
      rw [List.range_succ, List.map_append]
      rfl
    rw [e, List.map_append, List.sum_append, ih]
    show (cnt (odd L) lo n : Int) + ([(held L (lo + n) : Int) % 2]).sum = ((cnt (odd L) lo n + (if odd L (lo + n) = true then 1 else 0) : Nat) : Int)
    rw [List.sum_singleton]
    by_cases q : held L (lo + n) % 2 = 1
    · rw [if_pos (by unfold odd; exact decide_eq_true q)]
      omega
    · rw [if_neg (by unfold odd; rw [decide_eq_true_eq]; exact q)]
      omega
end SM

set_option linter.all false
set_option maxRecDepth 100000
set_option maxHeartbeats 4000000
/-! what a sweep over sorted intervals counts, and what sorted ends tell -/
namespace SM
open RT
theorem cnt_put {f g : Int → Bool} {lo : Int} {n : Nat} {m e : Int} (h1 : lo ≤ m) (h2 : m ≤ e) (h3 : e ≤ lo + n) (hin : ∀ x, m ≤ x → x < e → f x = false ∧ g x = true) (hout : ∀ x, x < m ∨ e ≤ x → g x = f x) :
    (cnt g lo n : Int) = cnt f lo n + (e - m) := by
  obtain ⟨a, ha⟩ : ∃ a : Nat, a = (m - lo).toNat := ⟨_, rfl⟩
  obtain ⟨b, hb⟩ : ∃ b : Nat, b = (e - m).toNat := ⟨_, rfl⟩
  obtain ⟨c, hc⟩ : ∃ c : Nat, n = a + (b + c) := ⟨n - a - b, by omega⟩
  have e1 : lo + (a : Int) = m := by omega
  have e2 : m + (b : Int) = e := by omega
  rw [hc, cnt_add, cnt_add f, e1, cnt_add, cnt_add f, e2]
  rw [cnt_congr (f := g) (g := f) (lo := lo) (n := a) fun x p q => hout x (.inl (by omega)), cnt_congr (f := g) (g := f) (lo := e) (n := c) fun x p q => hout x (.inr p),
    cnt_all (f := g) (lo := m) (n := b) fun x p q => (hin x p (by omega)).2, cnt_none (f := f) (lo := m) (n := b) fun x p q => (hin x p (by omega)).1]
  omega
theorem pos_app (L : List Iv) (p : Iv) (x : Int) : pos (L ++ [p]) x = (pos L x || decide (p.1 ≤ x ∧ x < p.2)) := by
  unfold pos
  rw [held_app]
  show decide (0 < held L x + (0 + if p.1 ≤ x ∧ x < p.2 then 1 else 0)) = _
  by_cases q : p.1 ≤ x ∧ x < p.2
  · rw [if_pos q, decide_eq_true q, Bool.or_true]
    exact decide_eq_true (by omega)
  · rw [if_neg q, decide_eq_false q, Bool.or_false]
    rfl
theorem pos_no {L : List Iv} {x b : Int} (h : ∀ q ∈ L, q.2 ≤ b) (hx : b ≤ x) : pos L x = false := by
  refine decide_eq_false fun z => ?_
  obtain ⟨q, hq, _, e⟩ := (held_pos L x).mp z
  have := h q hq
  omega
theorem within_app {L : List Iv} {p : Iv} {lo : Int} {n : Nat} (w : Within (L ++ [p]) lo n) : Within L lo n ∧ lo ≤ p.1 ∧ p.2 ≤ lo + n :=
  ⟨fun q hq => w q (List.mem_append.mpr (.inl hq)), w p (List.mem_append.mpr (.inr (List.mem_singleton.mpr rfl)))⟩
/-- an interval more, which goes beyond b -/
theorem cov_more {L : List Iv} {p : Iv} {v b : Int} (hv : CovOf L v) (h1 : p.1 ≤ b) (hle : ∀ q ∈ L, q.2 ≤ b) (hq : ∀ x, p.1 ≤ x → x < b → pos L x = true) (h2 : b < p.2) : CovOf (L ++ [p]) (v + (p.2 - b)) := fun lo n w => by
  obtain ⟨w1, w2, w3⟩ := within_app w
  rw [hv lo n w1]
  refine (cnt_put (f := pos L) (g := pos (L ++ [p])) (m := b) (e := p.2) (by omega) (by omega) w3 (fun x a c => ⟨pos_no hle a, ?_⟩) fun x hx => ?_).symm
  · rw [pos_app, decide_eq_true (show p.1 ≤ x ∧ x < p.2 by omega), Bool.or_true]
  · rw [pos_app]
    by_cases z : p.1 ≤ x ∧ x < p.2
    · rw [hq x z.1 (by omega), Bool.true_or]
    · rw [decide_eq_false z, Bool.or_false]
/-- .. which doesn't -/
theorem cov_less {L : List Iv} {p : Iv} {v b : Int} (hv : CovOf L v) (hq : ∀ x, p.1 ≤ x → x < b → pos L x = true) (h2 : p.2 ≤ b) : CovOf (L ++ [p]) v := fun lo n w => by
  obtain ⟨w1, w2, w3⟩ := within_app w
  rw [hv lo n w1]
  congr 1
  refine cnt_congr fun x _ _ => ?_
  rw [pos_app]
  by_cases z : p.1 ≤ x ∧ x < p.2
  · rw [hq x z.1 (by omega), Bool.true_or]
  · rw [decide_eq_false z, Bool.or_false]
theorem cov_zero : CovOf [] 0 := fun lo n _ => by
  rw [cnt_none (f := pos []) fun x _ _ => rfl]
  rfl
/-- every second difference -/
def alt : List Int → Int
  | a :: b :: r => (b - a) + alt r
  | _ => 0
def endsOf (L : List Iv) : List Int := L.flatMap fun p => [p.1, p.2]
theorem upto_cons (a : Int) (l : List Int) (x : Int) : upto (a :: l) x = upto l x + (if a ≤ x then 1 else 0) := rfl
theorem upto_perm {s t : List Int} (h : s.Perm t) (x : Int) : upto s x = upto t x := by
  induction h with
  | nil => rfl
  | cons a _ ih => rw [upto_cons, upto_cons, ih]
  | swap a b l =>
    rw [upto_cons, upto_cons, upto_cons, upto_cons]
    omega
  | trans _ _ h1 h2 => exact h1.trans h2
theorem held_upto : ∀ {L : List Iv}, (∀ p ∈ L, p.1 < p.2) → ∀ x : Int, held L x % 2 = upto (endsOf L) x % 2
  | [], _, x => rfl
  | p :: L, h, x => by
    have ih := held_upto (fun q hq => h q (List.mem_cons_of_mem _ hq)) x
    have hp := h p (List.mem_cons_self ..)
    show (held L x + (if p.1 ≤ x ∧ x < p.2 then 1 else 0)) % 2 = upto (p.1 :: p.2 :: endsOf L) x % 2
    rw [upto_cons, upto_cons]
    by_cases a : p.1 ≤ x
    · by_cases b : p.2 ≤ x
      · rw [if_neg (show ¬ (p.1 ≤ x ∧ x < p.2) by omega), if_pos a, if_pos b]
        omega
      · rw [if_pos (show p.1 ≤ x ∧ x < p.2 by omega), if_pos a, if_neg b]
        omega
    · rw [if_neg (show ¬ (p.1 ≤ x ∧ x < p.2) by omega), if_neg a, if_neg (show ¬ p.2 ≤ x by omega)]
      omega
theorem alt_cnt : ∀ (s : List Int) (lo : Int) (n : Nat), s.Pairwise (· ≤ ·) → s.length % 2 = 0 → (∀ x ∈ s, lo ≤ x ∧ x ≤ lo + n) → (cnt (fun x => decide (upto s x % 2 = 1)) lo n : Int) = alt s
  | [], lo, n, _, _, _ => by
    rw [cnt_none (f := fun x => decide (upto [] x % 2 = 1)) fun x _ _ => rfl]
    rfl
  | [a], lo, n, _, h, _ => by cases h
  | a :: b :: r, lo, n, hs, hl, hw => by
    have h1 := List.pairwise_cons.mp hs
    have h2 := List.pairwise_cons.mp h1.2
    have hab := h1.1 b (List.mem_cons_self ..)
    have ih := alt_cnt r lo n h2.2 (by
      have : (a :: b :: r).length = r.length + 2 := rfl
      omega) fun x hx => hw x (List.mem_cons_of_mem _ (List.mem_cons_of_mem _ hx))
    have wa := hw a (List.mem_cons_self ..)
    have wb := hw b (List.mem_cons_of_mem _ (List.mem_cons_self ..))
    show _ = (b - a) + alt r
    rw [← ih, cnt_put (f := fun x => decide (upto r x % 2 = 1)) (g := fun x => decide (upto (a :: b :: r) x % 2 = 1)) (m := a) (e := b) wa.1 hab wb.2 (fun x p q => ?_) fun x hx => ?_]
    · omega
    · have z : upto r x = 0 := upto_none fun c hc => by
        have := h2.1 c hc
        omega
      rw [upto_cons, upto_cons, z, if_pos p, if_neg (by omega)]
      exact ⟨rfl, rfl⟩
    · show decide (upto (a :: b :: r) x % 2 = 1) = decide (upto r x % 2 = 1)
      refine decide_eq_decide.mpr ?_
      rw [upto_cons, upto_cons]
      rcases hx with hx | hx
      · rw [if_neg (by omega), if_neg (by omega)]
        omega
      · rw [if_pos hx, if_pos (by omega)]
        omega
theorem endsOf_len (L : List Iv) : (endsOf L).length = 2 * L.length := by
  induction L with
  | nil => rfl
  | cons p L ih =>
    show (p.1 :: p.2 :: endsOf L).length = _
    rw [List.length_cons, List.length_cons, ih, List.length_cons]
    omega
theorem odd_alt {L : List Iv} {s : List Int} (h : ∀ p ∈ L, p.1 < p.2) (hp : s.Perm (endsOf L)) (hs : s.Pairwise (· ≤ ·)) : OddOf L (alt s) := fun lo n w => by
  rw [← alt_cnt s lo n hs (by rw [hp.length_eq, endsOf_len]; omega) fun x hx => ?_]
  · congr 1
    refine cnt_congr fun x _ _ => ?_
    unfold odd
    rw [held_upto h, upto_perm hp]
  · obtain ⟨p, hpL, hxp⟩ := List.mem_flatMap.mp (hp.mem_iff.mp hx)
    have h1 := w p hpL
    have h2 := h p hpL
    rcases List.mem_cons.mp hxp with rfl | hxp
    · omega
    · rw [List.mem_singleton.mp hxp]
      omega
theorem alt_zip : ∀ s : List Int, s.length % 2 = 0 → (List.zipWith (fun a b => b - a) (ev s) (ev s.tail)).sum = alt s
  | [], _ => rfl
  | [a], h => by cases h
  | a :: b :: r, h => by
    have ih := alt_zip r (by
      have : (a :: b :: r).length = r.length + 2 := rfl
      omega)
    cases r with
    | nil => rfl
    | cons c r =>
      show (List.zipWith (fun a b => b - a) (a :: ev (c :: r)) (b :: ev r)).sum = (b - a) + alt (c :: r)
      rw [List.zipWith_cons_cons, List.sum_cons, ← ih]
      rfl
end SM

set_option Elab.async false
set_option linter.all false
set_option maxRecDepth 100000
set_option maxHeartbeats 4000000
namespace K21
open PySem PySem.Spec PyProof.Rows L2 RT
theorem same_new {H : Hp} {p : Addr} {o : HO} (h : H p = none) : Same H (upd H p o) := fun b x e => by
  rw [upd_ne (ne_of_none e h)]
  exact e
theorem Same.sqt {K : PySem.W.Frag} {H H' : Hp} {a : Addr} {xs : List V} (e : Same H H') (h : SqT K H a xs) : SqT K H' a xs := by
  rcases h with (h | ⟨o, h⟩) | h
  · exact .inl (.inl (e _ _ h))
  · exact .inl (.inr ⟨o, e _ _ h⟩)
  · exact .inr h
theorem tupT {K : PySem.W.Frag} {H : Hp} {a : Addr} {xs : List V} (h : H a = some (.tup xs)) : SqT K H a xs := .inl (.inl h)
theorem lstL {K : PySem.W.Frag} {H : Hp} {a : Addr} {xs : List V} (h : H a = some (.lst xs)) : SqL K H a xs := .inl (.inl h)
/-- all but the list at t is as it was -/
def Keep (t : Addr) (H H' : Hp) : Prop := ∀ b o, b ≠ t → H b = some o → H' b = some o
theorem Keep.refl (t : Addr) (H : Hp) : Keep t H H := fun _ _ _ h => h
theorem Keep.trans {t : Addr} {H H1 H2 : Hp} (a : Keep t H H1) (b : Keep t H1 H2) : Keep t H H2 := fun c o n h => b c o n (a c o n h)
theorem Same.keep {t : Addr} {H H' : Hp} (e : Same H H') : Keep t H H' := fun b o _ h => e b o h
theorem keep_upd {t : Addr} {H : Hp} {o : HO} : Keep t H (upd H t o) := fun b u n h => by
  rw [upd_ne n]
  exact h
/-- the state of a cell's draws: digits, a number, a counter -/
def Tk (H : Hp) (t : Addr) (c : Nat) : Prop := ∃ A B : Int, H t = some (.lst [.int A, .int B, .int c]) ∧ 0 ≤ A ∧ 0 ≤ B ∧ B < 10000000000000000000000000000000000000000
theorem Tk.same {H H' : Hp} {t : Addr} {c : Nat} (h : Tk H t c) (e : Same H H') : Tk H' t c := by
  obtain ⟨A, B, h1, h2⟩ := h
  exact ⟨A, B, e _ _ h1, h2⟩
theorem p18 : (10 : Int) ^ ((18 : Int).toNat) = 1000000000000000000 := by decide
theorem p39 : (10 : Int) ^ ((39 : Int).toNat) = 1000000000000000000000000000000000000000 := by decide
theorem p42 : (10 : Int) ^ ((42 : Int).toNat) = 1000000000000000000000000000000000000000000 := by decide
theorem p41 : (10 : Int) ^ ((41 : Int).toNat) = 100000000000000000000000000000000000000000 := by decide
theorem pw_ok {j : Int} (h0 : 0 ≤ j) (h : j ≤ 1000000) : CPow 10 j := ⟨h0, h, by decide⟩
theorem bits_le {i : Int} {n : Nat} (hn : 0 < n) (h : i.natAbs < 2 ^ n) : Builtin.Int.intBits i ≤ n := by
  have h2 := PySem.Flt.log2_lt_of hn h
  unfold Builtin.Int.intBits
  split <;> omega
theorem cube_ok {i : Int} (h0 : 0 ≤ i) (h : i < 2 ^ 200) : CPowW i 3 := by
  have b : Builtin.Int.intBits i ≤ 200 := bits_le (by decide) (by omega)
  refine ⟨by decide, ?_⟩
  have e : ((Builtin.Int.intBits i : Nat) : Int) ≤ 200 := by omega
  omega
section
variable {P : Program} {w : World} {K : PySem.W.Frag} {mg : Str → Option Value} {base : Heap}
def spTank (K : PySem.W.Frag) : Sp := fun vs H Q _ => ∃ (a : Addr) (ns : List Int) (k : Nat), vs = [.ref a, .int k] ∧ SqL K H a (ns.map V.int) ∧ k ≤ 100 ∧ ∀ t H', Same H H' → H t = none → Tk H' t 0 → Q (.ref t) H'
theorem ok_tank (D : Ds K) (T : Tx K mg) : FnOk P w K mg base CX0 1 (d_law_tank.adr K) D.fd__law_tank ["script", "k"] (spTank K) := by
  refine D.F__law_tank.ok sc_law_tank (fun vs H Q E h => ?_) (fun cdv A outer s H vs Q E hr h => ?_)
  · obtain ⟨a, ns, k, rfl, _⟩ := h
    rfl
  · obtain ⟨a, ns, k, rfl, hS, hk, q⟩ := h
    have nd := sc_law_tank.nd
    refine ⟨_, PSs.nox (pss_cons (ps_set (i := 2) nd rfl (.inl rfl) pe_int)
      (pss_cons (ps_if (pt_cmpR op_lt (pv 1) (pe_callB call_len_seq (by rfl) T.z_len PySem.boot_len (pa_cons (pv 0) pa_nil)) (nomark _)) (pss_one (ps_set (i := 2) nd rfl (.inl rfl) (pe_ix ix_list (pv 0) (pv 1) (fun _ _ => rfl)))) pss_nil)
      (pss_one (ps_ret (pe_lst (pa_cons (pe_callB (call_max2 rfl) (by rfl) T.z_max (by decide +kernel) (pa_cons pe_int (pa_cons (pe_op op_sub (pv 2) (pe_op op_pow pe_int pe_int)) pa_nil)))
        (pa_cons (pe_op op_add (pe_op op_add (pe_op op_mod (pv 2) (pe_op op_add (pe_op op_pow pe_int pe_int) pe_int)) (pe_op op_mul pe_int (pv 1))) pe_int) (pa_cons pe_int pa_nil)))))))), ?_⟩
    refine ⟨_, rfl, _, rfl, a, _, rfl, .inl hS, _, _, rfl, rfl, _, rfl, ite2 (fun e => ?_) (fun e => ?_)⟩
    · have hk2 : k < ns.length := by
        have e2 := of_decide_eq_true e
        rw [List.length_map] at e2
        omega
      have g : (ns.map V.int)[k]? = some (.int ns[k]) := by
        rw [List.getElem?_map, List.getElem?_eq_getElem hk2]
        rfl
      refine ⟨_, rfl, _, rfl, a, _, _, _, rfl, rfl, hS, atI_nat g, ?_⟩
      refine ⟨_, rfl, _, _, rfl, rfl, pw_ok (by decide) (by decide), _, _, rfl, rfl, _, _, rfl, ?_⟩
      refine ⟨_, rfl, _, _, rfl, rfl, pw_ok (by decide) (by decide), _, _, rfl, rfl, _, _, rfl, rfl, (by show (0 : Int) < _; rw [p39]; decide), _, rfl, _, _, rfl, rfl, .inl ⟨by decide, by decide⟩, _, _, rfl, rfl, _, _, rfl, rfl, by show 3 ≤ sizeLine; decide, fun p hp => ?_⟩
      refine q p _ (same_new hp) hp ⟨_, _, upd_same, ?_, ?_⟩
      · split <;> omega
      · rw [p39]
        omega
    · refine ⟨_, rfl, _, _, rfl, rfl, pw_ok (by decide) (by decide), _, _, rfl, rfl, _, _, rfl, ?_⟩
      refine ⟨_, rfl, _, _, rfl, rfl, pw_ok (by decide) (by decide), _, _, rfl, rfl, _, _, rfl, rfl, (by show (0 : Int) < _; rw [p39]; decide), _, rfl, _, _, rfl, rfl, .inl ⟨by decide, by decide⟩, _, _, rfl, rfl, _, _, rfl, rfl, by show 3 ≤ sizeLine; decide, fun p hp => ?_⟩
      refine q p _ (same_new hp) hp ⟨_, _, upd_same, ?_, ?_⟩
      · split <;> omega
      · rw [p39]
        omega
def spDip : Sp := fun vs H Q _ => ∃ (t : Addr) (b : Int) (c : Nat), vs = [.ref t, .int b] ∧ Tk H t c ∧ c ≤ 100000 ∧ 1 ≤ b ∧ b ≤ 10000000000000000000000000000000000000000 ∧
  ∀ (v : Int) (c' : Nat) H', Keep t H H' → Tk H' t c' → c ≤ c' → c' ≤ c + 1 → 0 ≤ v → v < b → Q (.int v) H'
theorem ok_dip (D : Ds K) (T : Tx K mg) : FnOk P w K mg base CX0 1 (d_law_dip.adr K) D.fd__law_dip ["tank", "bound"] spDip := by
  refine D.F__law_dip.ok sc_law_dip (fun vs H Q E h => ?_) (fun cdv A outer s H vs Q E hr h => ?_)
  · obtain ⟨t, b, c, rfl, _⟩ := h
    rfl
  · obtain ⟨t, b, c, rfl, ⟨A1, B, et, hA, hB, hB2⟩, hc, hb, hb2, q⟩ := h
    have nd := sc_law_dip.nd
    refine ⟨_, PSs.nox (pss_cons (ps_if (pt_cmpR op_gt (pe_ix ix_list (pv 0) pe_int (fun _ _ => rfl)) pe_int (nomark _))
        (pss_cons (ps_set (i := 2) nd rfl (.inl rfl) (pe_op op_mod (pe_ix ix_list (pv 0) pe_int (fun _ _ => rfl)) (pv 1)))
          (pss_cons (ps_asg (pe_op op_fdivW (pe_ix ix_list (pv 0) pe_int (fun _ _ => rfl)) (pv 1)) (pg_sub (pv 0) pe_int set_list)) (pss_one (ps_ret (pv 2))))) pss_nil)
      (pss_cons (ps_asg (pe_op op_add (pe_ix ix_list (pv 0) pe_int (fun _ _ => rfl)) pe_int) (pg_sub (pv 0) pe_int set_list))
      (pss_cons (ps_set (i := 3) nd rfl (.inl rfl) (pe_op op_mod (pe_op op_powW (pe_op op_add (pe_ix ix_list (pv 0) pe_int (fun _ _ => rfl)) (pe_op op_mul pe_int (pe_ix ix_list (pv 0) pe_int (fun _ _ => rfl)))) pe_int) (pe_op op_add (pe_op op_pow pe_int pe_int) pe_int)))
      (pss_cons (ps_set (i := 3) nd rfl (.inl rfl) (pe_op op_mod (pe_op op_powW (pe_op op_add (pv 3) (pe_op op_mul pe_int (pe_ix ix_list (pv 0) pe_int (fun _ _ => rfl)))) pe_int) (pe_op op_add (pe_op op_pow pe_int pe_int) pe_int)))
      (pss_one (ps_ret (pe_op op_mod (pe_op op_fdivW (pv 3) pe_int) (pv 1)))))))), ?_⟩
    have g0 : atI [V.int A1, V.int B, V.int c] 0 = some (.int A1) := atI_nat (j := 0) rfl
    refine ⟨_, rfl, t, _, 0, _, rfl, rfl, lstL et, g0, _, _, rfl, rfl, _, rfl, ite2 (fun e => ?_) (fun e => ?_)⟩
    · have e0 : 0 < A1 := of_decide_eq_true e
      refine ⟨_, rfl, t, _, 0, _, rfl, rfl, lstL et, g0, _, rfl, _, _, rfl, rfl, hb, ?_⟩
      refine ⟨_, rfl, t, _, 0, _, rfl, rfl, lstL et, g0, _, rfl, _, _, rfl, rfl, wide_div (b := 200) (by omega) (by omega) (by decide) (by decide), ?_⟩
      refine ⟨_, rfl, t, _, 0, 0, rfl, rfl, et, rfl, _, rfl, ?_⟩
      exact q _ c _ keep_upd ⟨_, B, upd_same, Int.ediv_nonneg hA (by omega), hB, hB2⟩ (Nat.le_refl _) (by omega) (Int.emod_nonneg _ (by omega)) (Int.emod_lt_of_pos _ (by omega))
    · have g2 : atI [V.int A1, V.int B, V.int c] 2 = some (.int c) := atI_nat (j := 2) rfl
      refine ⟨_, rfl, t, _, 2, _, rfl, rfl, lstL et, g2, _, _, rfl, rfl, _, rfl, t, _, 2, 2, rfl, rfl, et, rfl, ?_⟩
      have et2 : upd H t (.lst ([V.int A1, V.int B, V.int c].set 2 (.int ((c : Int) + 1)))) t = some (.lst [.int A1, .int B, .int ((c : Int) + 1)]) := upd_same
      have k1 : atI [V.int A1, V.int B, V.int ((c : Int) + 1)] 1 = some (.int B) := atI_nat (j := 1) rfl
      have k2 : atI [V.int A1, V.int B, V.int ((c : Int) + 1)] 2 = some (.int ((c : Int) + 1)) := atI_nat (j := 2) rfl
      refine ⟨_, rfl, t, _, 1, _, rfl, rfl, lstL et2, k1, _, rfl, t, _, 2, _, rfl, rfl, lstL et2, k2, _, _, rfl, rfl, .inl ⟨by decide, by decide⟩, _, _, rfl, rfl, _, _, rfl, rfl, cube_ok (by omega) (by omega), _, _, rfl, rfl, pw_ok (by decide) (by decide), _, _, rfl, rfl, _, _, rfl, rfl, (by show (0 : Int) < _; rw [p42]; decide), ?_⟩
      have m0 : 0 ≤ (B + 86028157 * ((c : Int) + 1)) ^ (3 : Int).toNat % (10 ^ (42 : Int).toNat + 63) := Int.emod_nonneg _ (by rw [p42]; decide)
      have m1 : (B + 86028157 * ((c : Int) + 1)) ^ (3 : Int).toNat % (10 ^ (42 : Int).toNat + 63) < 1000000000000000000000000000000000000000063 := by
        rw [p42]
        exact Int.emod_lt_of_pos _ (by decide)
      refine ⟨_, rfl, _, rfl, t, _, 2, _, rfl, rfl, lstL et2, k2, _, _, rfl, rfl, .inl ⟨by decide, by decide⟩, _, _, rfl, rfl, _, _, rfl, rfl, cube_ok (by omega) (by omega), _, _, rfl, rfl, pw_ok (by decide) (by decide), _, _, rfl, rfl, _, _, rfl, rfl, (by show (0 : Int) < _; rw [p41]; decide), ?_⟩
      refine ⟨_, rfl, _, _, rfl, rfl, wide_div (b := 200) (by decide) (by decide) (by decide) (by decide), _, rfl, _, _, rfl, rfl, hb, ?_⟩
      exact q _ (c + 1) _ keep_upd ⟨A1, B, by rw [et2]; rfl, hA, hB, hB2⟩ (by omega) (Nat.le_refl _) (Int.emod_nonneg _ (by omega)) (Int.emod_lt_of_pos _ (by omega))
end
end K21

set_option Elab.async false
set_option linter.all false
set_option maxRecDepth 100000
set_option maxHeartbeats 4000000
namespace K21
open PySem PySem.Spec PyProof.Rows L2 RT SM
/-- a def of the module, with its promise -/
structure DefO (P : Program) (w : World) (K : PySem.W.Frag) (mg : Str → Option Value) (base : Heap) (nm : Str) (sp : Sp) where
  f : Addr
  fd : FuncData
  ps : List Str
  g : mg nm = some (.ref f)
  kp : PySem.W.keepIn K (.ref f) = true
  F : FnOk P w K mg base CX0 12 f fd ps sp
  b : Binds K fd ps []
/-- an interval -/
def IvAt (H : Hp) (v : V) (p : Iv) : Prop := ∃ t, v = .ref t ∧ H t = some (.tup [.int p.1, .int p.2])
theorem IvAt.same {H H' : Hp} {v : V} {p : Iv} (h : IvAt H v p) (s : Same H H') : IvAt H' v p := by
  obtain ⟨t, e, h⟩ := h
  exact ⟨t, e, s _ _ h⟩
abbrev Ivs (H : Hp) : List V → List Iv → Prop := Paired (IvAt H)
theorem Ivs.same {H H' : Hp} {vs : List V} {L : List Iv} (h : Ivs H vs L) (s : Same H H') : Ivs H' vs L := Paired.mono (fun _ _ q => IvAt.same q s) h
def Fine (L : List Iv) : Prop := L.length ≤ 900 ∧ ∀ p ∈ L, p.1 < p.2 ∧ p.1.natAbs < 2 ^ 500 ∧ p.2.natAbs < 2 ^ 500
def spSpan (K : PySem.W.Frag) (R : List Iv → Int → Prop) : Sp := fun vs H Q _ => ∃ (a : Addr) (us : List V) (L : List Iv), vs = [.ref a] ∧ SqL K H a us ∧ Ivs H us L ∧ Fine L ∧ ∀ v H', Same H H' → R L v → Q (.int v) H'
/-- the module of intervals, by what it promises -/
structure Spans (P : Program) (w : World) (K : PySem.W.Frag) (mg : Str → Option Value) (base : Heap) where
  cov : DefO P w K mg base "covered" (spSpan K CovOf)
  odd : DefO P w K mg base "odd_covered" (spSpan K OddOf)
theorem p30 : (10 : Int) ^ ((30 : Int).toNat) = 1000000000000000000000000000000 := by decide
theorem p29 : (10 : Int) ^ ((29 : Int).toNat) = 100000000000000000000000000000 := by decide
theorem p20 : (10 : Int) ^ ((20 : Int).toNat) = 100000000000000000000 := by decide
theorem wide_at {v : Int} (h0 : 0 ≤ v) (h : v < 3) : ∃ f : Int, atI [V.int 3, V.int 9, V.int (10 ^ ((20 : Int).toNat))] v = some (.int f) ∧ 1 ≤ f ∧ f ≤ 100000000000000000000 := by
  have e : v = 0 ∨ v = 1 ∨ v = 2 := by omega
  rcases e with rfl | rfl | rfl
  · exact ⟨3, atI_nat (j := 0) rfl, by decide, by decide⟩
  · exact ⟨9, atI_nat (j := 1) rfl, by decide, by decide⟩
  · exact ⟨_, atI_nat (j := 2) rfl, by rw [p20]; decide, by rw [p20]; decide⟩
theorem Keep.free {t : Addr} {H H' : Hp} {p : Addr} (e : Keep t H H') (h : H' p = none) (n : p ≠ t) : H p = none := by
  cases q : H p with
  | none => rfl
  | some o =>
    rw [e p o n q] at h
    cases h
theorem last_snoc : ∀ (l : List Int) (a b : Int), last a (l ++ [b]) = b
  | [], _, _ => rfl
  | c :: l, a, b => last_snoc l c b
theorem asc_snoc {a b : Int} {l : List Int} (h : Asc (a :: l)) (hb : last a l < b) : Asc (a :: (l ++ [b])) := by
  show ((a :: l) ++ [b]).Pairwise (· < ·)
  refine List.pairwise_append.mpr ⟨h, List.pairwise_singleton _ _, fun x hx y hy => ?_⟩
  rw [List.mem_singleton.mp hy]
  exact Int.lt_of_le_of_lt (le_last h x hx) hb
theorem getLast_at : ∀ (l : List Int) (a : Int), ((a :: l).map V.int)[l.length]? = some (.int (last a l))
  | [], a => rfl
  | b :: l, a => getLast_at l b
section
variable {P : Program} {w : World} {K : PySem.W.Frag} {mg : Str → Option Value} {base : Heap}
def spNums : Sp := fun vs H Q _ => ∃ (t : Addr) (c : Nat), vs = [.ref t] ∧ Tk H t c ∧ c ≤ 90000 ∧
  ∀ r (a : Int) (l : List Int) (c' : Nat) H', Keep t H H' → Tk H' t c' → c ≤ c' → c' ≤ c + 60 → H r = none → H' r = some (.lst ((a :: l).map V.int)) → Asc (a :: l) → l.length ≤ 40 →
    -100000000000000000000000000000 ≤ a → last a l ≤ 1000000000000000000000000000000 + 40 * 100000000000000000001 → Q (.ref r) H'
theorem ok_nums (D : Ds K) (T : Tx K mg) : FnOk P w K mg base CX0 2 (d_law_numbers.adr K) D.fd__law_numbers ["tank"] spNums := by
  have G : FnOk P w K mg base CX0 1 _ _ _ spDip := ok_dip D T
  refine D.F__law_numbers.ok sc_law_numbers (fun vs H Q E h => ?_) (fun cdv A outer s H vs Q E hr h => ?_)
  · obtain ⟨t, c, rfl, _⟩ := h
    rfl
  · obtain ⟨t, c, rfl, tk, hc, q⟩ := h
    have nd := sc_law_numbers.nd
    refine ⟨_, PSs.nox (pss_cons (ps_par (i := 1) (j := 2) (by rfl) nd rfl rfl (by decide) rfl rfl
        (pa_cons (pe_ix ix_list (pe_lst (pa_cons pe_int (pa_cons pe_int (pa_cons (pe_op op_pow pe_int pe_int) pa_nil)))) (pe_call G hr (by rfl) T.g__law_dip D.F__law_dip.kp (b__law_dip D) .nil pass0 (pa_cons (pv 0) (pa_cons pe_int pa_nil))) (fun _ _ => rfl))
          (pa_cons (pe_lst (pa_cons (pe_op op_sub (pe_call G hr (by rfl) T.g__law_dip D.F__law_dip.kp (b__law_dip D) .nil pass0 (pa_cons (pv 0) (pa_cons (pe_op op_pow pe_int pe_int) pa_nil))) (pe_op op_pow pe_int pe_int)) pa_nil)) pa_nil)) (by rfl))
      (pss_cons (ps_for PassesOwn.never rfl (pi_range1 (by rfl) T.z_range (pa_cons (pe_call G hr (by rfl) T.g__law_dip D.F__law_dip.kp (b__law_dip D) .nil pass0 (pa_cons (pv 0) (pa_cons pe_int pa_nil))) pa_nil)) (pg_name (i := 3) nd rfl (.inl rfl))
        (pss_one (ps_expr (pe_bm PySem.F.plainAttrs_list PySem.F.slot_list_append PySem.F.type_list_append mt_append (pv 2) (pa_cons (pe_op op_add (pe_op op_add (pe_ix ix_list (pv 2) (pe_un un_neg pe_int) (fun _ _ => rfl)) pe_int)
          (pe_call G hr (by rfl) T.g__law_dip D.F__law_dip.kp (b__law_dip D) .nil pass0 (pa_cons (pv 0) (pa_cons (pv 1) pa_nil)))) pa_nil)))))
      (pss_one (ps_ret (pv 2))))), ?_⟩
    obtain ⟨A0, B0, et, _⟩ := id tk
    refine ⟨_, _, rfl, rfl, pw_ok (by decide) (by decide), by show 3 ≤ sizeLine; decide, fun l hl => ?_⟩
    have tl : t ≠ l := ne_of_none et hl
    refine ⟨_, rfl, t, 3, c, rfl, tk.same (same_new hl), by omega, by decide, by decide, fun v1 c1 H1 k1 t1 l1 u1 a1 b1 => ?_⟩
    obtain ⟨wd, hw, w0, w1⟩ := wide_at a1 b1
    refine ⟨l, _, v1, _, rfl, rfl, lstL (k1 l _ (Ne.symm tl) upd_same), hw, ?_⟩
    refine ⟨_, rfl, _, _, rfl, rfl, pw_ok (by decide) (by decide), t, _, c1, rfl, t1, by omega, by rw [p30]; decide, by rw [p30]; decide, fun v2 c2 H2 k2 t2 l2 u2 a2 b2 => ?_⟩
    refine ⟨_, _, rfl, rfl, pw_ok (by decide) (by decide), _, _, rfl, rfl, by show 1 ≤ sizeLine; decide, fun f hf => ?_⟩
    rw [p30] at b2
    have z1 := same_new (o := .lst [.int (v2 - 10 ^ ((29 : Int).toNat))]) hf
    have k3 : Keep t H _ := (Same.keep (same_new hl)).trans (k1.trans (k2.trans (Same.keep z1)))
    obtain ⟨A2, B2, et2, _⟩ := id t2
    have tf : t ≠ f := ne_of_none et2 hf
    have hfH : H f = none := Keep.free ((Same.keep (same_new hl)).trans (k1.trans k2)) hf (Ne.symm tf)
    refine ⟨_, _, rfl, ?_⟩
    refine ⟨_, rfl, t, 40, c2, rfl, t2.same z1, by omega, by decide, by decide, fun v3 c3 H3 k4 t3 l3 u3 a3 b3 => ?_⟩
    refine ⟨v3, rfl, by omega, by omega, ?_⟩
    obtain ⟨a, ha⟩ : ∃ a : Int, a = v2 - 10 ^ ((29 : Int).toNat) := ⟨_, rfl⟩
    have a0 : -100000000000000000000000000000 ≤ a ∧ a ≤ 1000000000000000000000000000000 := by
      rw [ha, p29]
      omega
    have ef3 : H3 f = some (.lst [.int a]) := by
      rw [ha]
      exact k4 f _ (Ne.symm tf) upd_same
    have la0 : last a [] ≤ a + ((0 : Nat) : Int) * 100000000000000000001 := by
      show a ≤ _
      omega
    clear ha
    refine for_range (lo := 0) (n := v3.toNat) (fun i σ H' => ∃ (l : List Int) (c' : Nat) (z : Option V), Keep t H H' ∧ Tk H' t c' ∧ c ≤ c' ∧ c' ≤ c + 3 + i ∧ H' f = some (.lst ((a :: l).map V.int)) ∧ Asc (a :: l) ∧ l.length = i ∧ last a l ≤ a + i * 100000000000000000001 ∧ σ = [some (.ref t), some (.int wd), some (.ref f), z])
      ⟨[], c3, none, k3.trans k4, t3, by omega, by omega, ef3, List.pairwise_singleton _ _, rfl, la0, rfl⟩ (fun i σ' H' hi hp => ?_) fun σ' H' hp => ?_
    · obtain ⟨l4, c4, z, kk, tk4, lo4, up4, ef4, as4, len4, la4, rfl⟩ := hp
      have hi2 : i < 40 := by omega
      have lenm : ((a :: l4).map V.int).length = i + 1 := by rw [List.length_map, List.length_cons, len4]
      have gl : atI ((a :: l4).map V.int) (-1) = some (.int (last a l4)) := by
        show (ixN ((a :: l4).map V.int).length (-1)).bind (fun j => ((a :: l4).map V.int)[j]?) = some (V.int (last a l4))
        have e1 : ixN ((a :: l4).map V.int).length (-1) = some l4.length := by
          rw [lenm]
          unfold ixN
          rw [len4]
          simp
          omega
        rw [e1]
        exact getLast_at l4 a
      refine ⟨_, rfl, .inl ⟨rfl, _, lstL ef4⟩, _, rfl, 1, rfl, f, _, -1, _, rfl, rfl, lstL ef4, gl, ?_⟩
      refine ⟨_, _, rfl, rfl, _, rfl, _, rfl, t, wd, c4, rfl, tk4, by omega, w0, by omega, fun v5 c5 H5 k5 t5 l5 u5 a5 b5 => ⟨_, _, rfl, rfl, ?_⟩⟩
      have ef5 := k5 f _ (Ne.symm tf) ef4
      refine ⟨f, _, _, rfl, rfl, ef5, ?_, ?_⟩
      · rw [lenm]
        exact Nat.lt_of_lt_of_le (show i + 1 < 50 by omega) (by decide)
      refine ⟨l4 ++ [last a l4 + 1 + v5], c5, _, fun b o hb hbo => ?_, ?_, by omega, by omega, ?_, asc_snoc as4 (by omega), by rw [List.length_append, len4]; rfl, by rw [last_snoc]; omega, rfl⟩
      · rw [upd_ne (fun e => by rw [e, hfH] at hbo; cases hbo)]
        exact k5 b o hb (kk b o hb hbo)
      · obtain ⟨X1, X2, ex, hx⟩ := t5
        exact ⟨X1, X2, (upd_ne tf).trans ex, hx⟩
      · rw [upd_same, ← List.cons_append, List.map_append]
        rfl
    · obtain ⟨l4, c4, z, kk, tk4, lo4, up4, ef4, as4, len4, la4, rfl⟩ := hp
      refine ⟨_, rfl, q f a l4 c4 H' kk tk4 lo4 (by omega) hfH ef4 as4 (by omega) a0.1 ?_⟩
      have : v3.toNat ≤ 39 := by omega
      omega
end
end K21

set_option Elab.async false
set_option linter.all false
set_option maxRecDepth 100000
set_option maxHeartbeats 4000000
namespace K21
open PySem PySem.Spec PyProof.Rows L2 RT SM
/-- what a comprehension over the list at a asks -/
def LcP (K : PySem.W.Frag) (a : Addr) (g : TG) (tt : TT) (te : TE) (vs : List Nat) (σ : L2.St) (H1 : Hp) (D : Addr) (Qd : Hp → Prop) : Prop := ∃ W : Nat → Nat → Hp → Prop, (∃ m, W 0 m (upd H1 D (.lst []))) ∧ ∀ i m H, W i m H → ((Itl K a).stop i H ∧ Qd H) ∨ ((Itl K a).go i H ∧ ∃ Nx : Hp → Prop, (∀ H', Nx H' → ∃ m', m' < m ∧ W (i + 1) m' H') ∧ ∀ x H', (Itl K a).yld i H x H' → g x (wipe σ vs) H' fun σ2 H2 => wipe σ2 vs = wipe σ vs ∧ tt σ2 H2 fun b H3 => if b = true then te σ2 H3 fun y H4 => ∃ acc, H4 D = some (.lst acc) ∧ acc.length < sizeLine ∧ Nx (upd H4 D (.lst (acc ++ [y]))) else Nx H3)
theorem lc_map {K : PySem.W.Frag} {a D : Addr} {xs : List V} {te : TE} {vs : List Nat} {σ : L2.St} {H1 : Hp} {j : Nat} {Qd : Hp → Prop} (R : Nat → V → Hp → Prop) (hm : ∀ i v H H' us, R i v H → H D = some (.lst us) → Keep D H H' → R i v H') (hS : SqL K H1 a xs) (hD : H1 D = none) (hn : xs.length ≤ 5000)
    (hw : ∀ x, wipe ((wipe σ vs).set j (some x)) vs = wipe σ vs) (hs : ∀ i x H, xs[i]? = some x → Same H1 H → te ((wipe σ vs).set j (some x)) H fun y H4 => Same H H4 ∧ R i y H4)
    (te_mono : ∀ σ' H Q Q', (∀ y H4, Q y H4 → Q' y H4) → te σ' H Q → te σ' H Q') (hd : ∀ H us, Same H1 H → H D = some (.lst us) → us.length = xs.length → (∀ i, i < xs.length → ∃ v, us[i]? = some v ∧ R i v H) → Qd H) : LcP K a (gName j) tYes te vs σ H1 D Qd := by
  have sD : ∀ {H : Hp} {o : HO}, Same H1 H → Same H1 (upd H D o) := fun {H o} s b u h => by
    rw [upd_ne (ne_of_none h hD)]
    exact s b u h
  have sq : ∀ {H : Hp}, Same H1 H → SqL K H a xs := fun {H} s => by
    rcases hS with (h | ⟨o, h⟩) | h
    · exact .inl (.inl (s _ _ h))
    · exact .inl (.inr ⟨o, s _ _ h⟩)
    · exact .inr h
  refine lc_list (K := K) (a := a) (xs := xs) (fun i H => Same H1 H ∧ ∃ us, H D = some (.lst us) ∧ us.length = i ∧ ∀ k, k < i → ∃ v, us[k]? = some v ∧ R k v H) ⟨sD fun _ _ h => h, [], upd_same, rfl, fun k hk => absurd hk (Nat.not_lt_zero _)⟩ (fun i H hi p => sq p.1) (fun i x H hx p => ?_) fun H p => ?_
  · obtain ⟨s, us, eD, hl, hr⟩ := p
    have hi : i < xs.length := (List.getElem?_eq_some_iff.mp hx).1
    refine ⟨hw x, ?_⟩
    show te ((wipe σ vs).set j (some x)) H _
    refine te_mono _ _ _ _ (fun y H4 ⟨s4, r4⟩ => ?_) (hs i x H hx s)
    have eD4 := s4 _ _ eD
    refine ⟨us, eD4, ?_, sD (s.trans s4), us ++ [y], upd_same, by rw [List.length_append, hl]; rfl, fun k hk => ?_⟩
    · rw [hl]
      exact Nat.lt_of_lt_of_le (show i < 5000 by omega) (by decide)
    · by_cases e : k = i
      · subst e
        refine ⟨y, ?_, hm _ _ _ _ us r4 eD4 keep_upd⟩
        rw [← hl, List.getElem?_append_right (Nat.le_refl _), Nat.sub_self]
        rfl
      · obtain ⟨v, g, r⟩ := hr k (by omega)
        refine ⟨v, ?_, hm _ _ _ _ us r eD ((Same.keep s4).trans keep_upd)⟩
        rw [List.getElem?_append_left (by omega)]
        exact g
  · obtain ⟨s, us, eD, hl, hr⟩ := p
    exact hd H us s eD hl hr
theorem ivs_of {H : Hp} : ∀ {us : List V} {L : List Iv}, us.length = L.length → (∀ i, i < L.length → ∃ v, us[i]? = some v ∧ ∀ p, L[i]? = some p → IvAt H v p) → Ivs H us L
  | [], [], _, _ => .nil
  | [], _ :: _, h, _ => by cases h
  | _ :: _, [], h, _ => by cases h
  | u :: us, p :: L, h, k => by
    obtain ⟨v, e, q⟩ := k 0 (Nat.succ_pos _)
    cases e
    refine .cons (q p rfl) (ivs_of (by simpa using h) fun i hi => ?_)
    obtain ⟨v, e, q⟩ := k (i + 1) (Nat.succ_lt_succ hi)
    exact ⟨v, e, q⟩
/-- the windows of a list of numbers -/
theorem win_lc {K : PySem.W.Frag} {nm D : Addr} {ns : List Int} {len : Int} {tl : TE} {H1 : Hp} {Qd : Hp → Prop} {s0 s1 s2 s3 s4 s5 s6 s7 s8 s9 s10 s11 : Option V} (hS : H1 nm = some (.lst (ns.map V.int))) (hD : H1 D = none) (hn : ns.length ≤ 900)
    (htl : ∀ x H Q, Q (.int len) H → tl [s0, s1, s2, s3, s4, s5, s6, s7, s8, s9, some x, s11] H Q) (tl_mono : ∀ σ' H Q Q', (∀ y H4, Q y H4 → Q' y H4) → tl σ' H Q → tl σ' H Q')
    (hd : ∀ H' us, Same H1 H' → H' D = some (.lst us) → Ivs H' us (win len ns) → Qd H') :
    LcP K nm (gName 10) tYes (tTup (tCons (tVar 10) (tCons (tOp (rI0 fun i j => .int (i + j)) (tVar 10) tl) tNil))) [10] [s0, s1, s2, s3, s4, s5, s6, s7, s8, s9, s10, s11] H1 D Qd := by
  refine lc_map (fun i v H => ∀ p, (win len ns)[i]? = some p → IvAt H v p) (fun i v H H' us r eD k p hp => ?_) (lstL hS) hD (by rw [List.length_map]; omega) (fun x => rfl) (fun i x H hx s => ?_) (fun σ' H Q Q' hq h => ?_) fun H us s eD hl hr => ?_
  · obtain ⟨t, e, h⟩ := r p hp
    exact ⟨t, e, k t _ (fun z => by rw [z, eD] at h; cases h) h⟩
  · rw [List.getElem?_map] at hx
    obtain ⟨n, hn2, rfl⟩ := Option.map_eq_some_iff.mp hx
    refine ⟨_, rfl, _, rfl, htl _ _ _ ⟨_, _, rfl, rfl, by show 2 ≤ sizeLine; decide, fun t ht => ⟨same_new ht, fun p hp => ⟨t, rfl, ?_⟩⟩⟩⟩
    unfold win at hp
    rw [List.getElem?_map, hn2] at hp
    cases hp
    exact upd_same
  · obtain ⟨v, e1, w, e2, h⟩ := h
    refine ⟨v, e1, w, e2, tl_mono _ _ _ _ (fun y H4 z => ?_) h⟩
    obtain ⟨i, j, a1, a2, b, c⟩ := z
    exact ⟨i, j, a1, a2, b, fun p np => hq _ _ (c p np)⟩
  · refine hd H us s eD (ivs_of ?_ fun i hi => hr i ?_)
    · rw [hl]
      unfold win
      rw [List.length_map, List.length_map]
    · unfold win at hi
      rw [List.length_map] at hi ⊢
      exact hi
end K21

set_option Elab.async false
set_option linter.all false
set_option maxRecDepth 100000
set_option maxHeartbeats 8000000
set_option exponentiation.threshold 600
namespace K21
open PySem PySem.Spec PyProof.Rows L2 RT SM
abbrev NR : List Str := N_law_right ++ [("one" : Str), ("two" : Str), ("number_here" : Str), ("gap" : Str)]
theorem scR : FnScope NR ["tank", "numbers"] (defScope s_law_right) := ⟨rfl, rfl, rfl, by decide +kernel, rfl, by decide +kernel, by decide +kernel⟩
structure EnvR (H0 : Hp) (t nm gp : Addr) (a : Int) (l : List Int) (c0 c : Nat) (H : Hp) : Prop where
  k : Keep t H0 H
  tk : Tk H t c
  lo : c0 ≤ c
  en : H nm = some (.lst ((a :: l).map V.int))
  eg : H gp = some (.lst ((gaps (a :: l)).map V.int))
theorem EnvR.same {H0 H H' : Hp} {t nm gp : Addr} {a : Int} {l : List Int} {c0 c : Nat} (e : EnvR H0 t nm gp a l c0 c H) (s : Same H H') : EnvR H0 t nm gp a l c0 c H' := ⟨e.k.trans (Same.keep s), e.tk.same s, e.lo, s _ _ e.en, s _ _ e.eg⟩
theorem EnvR.dip {H0 H H' : Hp} {t nm gp : Addr} {a : Int} {l : List Int} {c0 c c' : Nat} (e : EnvR H0 t nm gp a l c0 c H) (k : Keep t H H') (tk : Tk H' t c') (lo : c ≤ c') (n1 : t ≠ nm) (n2 : t ≠ gp) : EnvR H0 t nm gp a l c0 c' H' :=
  ⟨e.k.trans k, tk, Nat.le_trans e.lo lo, k _ _ (Ne.symm n1) e.en, k _ _ (Ne.symm n2) e.eg⟩
abbrev items1 (w v : Int) : List V := [.int (if w > 1 then w else 1), .int (w + 1 + v), .int (w + 1), .int (10 ^ ((30 : Int).toNat) + w)]
abbrev items2 (w v : Int) : List V := [.int 1, .int 2, .int (1 + v), .int (if w / 2 > 1 then w / 2 else 1), .int (if w - 1 > 1 then w - 1 else 1)]
theorem mins_eq (len : Int) : ∀ gs : List Int, (gs.map fun g => if len < g then len else g).sum = minS len gs
  | [] => rfl
  | g :: gs => by
    rw [List.map_cons, List.sum_cons, mins_eq len gs]
    rfl
theorem us_of {us : List V} {gs : List Int} {f : Int → Int} (hl : us.length = gs.length) (h : ∀ i, i < gs.length → ∃ v, us[i]? = some v ∧ ∀ g, gs[i]? = some g → v = .int (f g)) : us = (gs.map f).map V.int := by
  refine List.ext_getElem? fun i => ?_
  rw [List.getElem?_map, List.getElem?_map]
  by_cases hi : i < gs.length
  · obtain ⟨v, e, k⟩ := h i hi
    rw [e, k _ (List.getElem?_eq_getElem hi), List.getElem?_eq_getElem hi]
    rfl
  · rw [List.getElem?_eq_none (by omega), List.getElem?_eq_none (by omega)]
    rfl
theorem gaps_zip : ∀ (l : List Int) (a : Int) (i : Nat), (gaps (a :: l))[i]? = ((a :: l)[i]?).bind fun x => ((l)[i]?).map fun y => y - x
  | [], a, i => by cases i <;> simp [gaps]
  | b :: l, a, 0 => rfl
  | b :: l, a, i + 1 => gaps_zip l b i
theorem fine_win {a : Int} {l : List Int} {len : Int} (h : Asc (a :: l)) (hl : l.length ≤ 40) (a0 : -100000000000000000000000000000 ≤ a) (b0 : last a l ≤ 1000000000000000000000000000000 + 40 * 100000000000000000001) (l0 : 1 ≤ len) (l1 : len ≤ 10000000000000000000000000000000000000000) : Fine (win len (a :: l)) := by
  refine ⟨by unfold win; rw [List.length_map, List.length_cons]; omega, fun p hp => ?_⟩
  obtain ⟨b, hb, rfl⟩ := List.mem_map.mp hp
  have h1 := le_last h b hb
  have h2 : a ≤ b := by
    rcases List.mem_cons.mp hb with rfl | hb
    · exact Int.le_refl _
    · have := (List.pairwise_cons.mp h).1 b hb
      omega
  have z : (2 : Nat) ^ 140 ≤ 2 ^ 500 := Nat.pow_le_pow_right (by decide) (by decide)
  have z2 : (2 : Nat) ^ 140 = 1393796574908163946345982392040522594123776 := by decide
  show b < b + len ∧ b.natAbs < _ ∧ (b + len).natAbs < _
  refine ⟨by omega, by omega, by omega⟩
section
variable {P : Program} {w : World} {K : PySem.W.Frag} {mg : Str → Option Value} {base : Heap}
def spRight : Sp := fun vs H Q _ => ∃ (t nm : Addr) (c : Nat) (a : Int) (l : List Int), vs = [.ref t, .ref nm] ∧ Tk H t c ∧ c ≤ 90000 ∧ H nm = some (.lst ((a :: l).map V.int)) ∧ Asc (a :: l) ∧ l.length ≤ 40 ∧ -100000000000000000000000000000 ≤ a ∧ last a l ≤ 1000000000000000000000000000000 + 40 * 100000000000000000001 ∧
  t ≠ nm ∧ ∀ c' H', Keep t H H' → Tk H' t c' → c ≤ c' → c' ≤ c + 3 → Q (.bl true) H'
theorem ok_right (D : Ds K) (T : Tx K mg) (M : Spans P w K mg base) : FnOk P w K mg base CX0 13 (d_law_right.adr K) D.fd__law_right ["tank", "numbers"] spRight := by
  have G : FnOk P w K mg base CX0 1 _ _ _ spDip := ok_dip D T
  refine D.F__law_right.ok scR (fun vs H Q E h => ?_) (fun cdv A outer s H vs Q E hr h => ?_)
  · obtain ⟨t, nm, c, a, l, rfl, _⟩ := h
    rfl
  · obtain ⟨t, nm, c, a, l, rfl, tk, hc, en, asc, hl, a0, b0, tnm, q⟩ := h
    have nd := scR.nd
    have hr1 := hr.mono (show 1 ≤ 12 by decide)
    refine ⟨_, PSs.nox (pss_cons (ps_par (i := 2) (j := 3) (by rfl) nd rfl rfl (by decide) rfl rfl
        (pa_cons (pe_op op_sub (pe_ix ix_list (pv 1) (pe_un un_neg pe_int) (fun _ _ => rfl)) (pe_ix ix_list (pv 1) pe_int (fun _ _ => rfl)))
          (pa_cons (pe_lc (own := [(("one" : Str), 8), (("two" : Str), 9)]) (g := gTup K 2 (gCons (gName 8) (gCons (gName 9) gNil))) (tt := tYes) (te := tOp (rI0 fun i j => .int (i - j)) (tVar 9) (tVar 8)) rfl nd (pi_zip (by rfl) T.z_zip (pa_cons (pv 1) (pa_cons (pe_slice sl_list (pv 1) (po_some pe_int) po_none) pa_nil)))
            (blkOk_by (own := [(("one" : Str), 8), (("two" : Str), 9)]) (N := NR) (sc := defScope s_law_right) (by decide +kernel)) (fun _ _ _ _ _ => pg_tup rfl (pgs_cons (pg_name (i := 8) nd rfl (Or.inl rfl)) (pgs_cons (pg_name (i := 9) nd rfl (Or.inl rfl)) pgs_nil))) (fun _ _ _ _ _ => pts_nil) (fun _ _ _ _ _ => pe_op op_sub (pv 9) (pv 8))) pa_nil)) (by rfl))
      (pss_cons (ps_for PassesOwn.never rfl (pi_list (pe_lst (pa_cons (pe_callB (call_max2 rfl) (by rfl) T.z_max (by decide +kernel) (pa_cons pe_int (pa_cons (pv 2) pa_nil)))
            (pa_cons (pe_op op_add (pe_op op_add (pv 2) pe_int) (pe_call G hr1 (by rfl) T.g__law_dip D.F__law_dip.kp (b__law_dip D) .nil pass0 (pa_cons (pv 0) (pa_cons (pe_op op_pow pe_int pe_int) pa_nil))))
            (pa_cons (pe_op op_add (pv 2) pe_int) (pa_cons (pe_op op_add (pe_op op_pow pe_int pe_int) (pv 2)) pa_nil)))))) (pg_name (i := 4) nd rfl (.inr rfl))
          (pss_cons (ps_setLc (i := 5) (own := [(("number_here" : Str), 10)]) (g := gName 10) (tt := tYes) (te := tTup (tCons (tVar 10) (tCons (tOp (rI0 fun i j => .int (i + j)) (tVar 10) (tVar 4)) tNil))) rfl nd rfl rfl (sw_true rfl rfl rfl (by decide +kernel)) (pi_list (pv 1))
              (blkOk_by (own := [(("number_here" : Str), 10)]) (N := NR) (sc := defScope s_law_right) (by decide +kernel)) (fun _ _ _ _ _ => pg_name (i := 10) nd rfl (Or.inl rfl)) (fun _ _ _ _ _ => pts_nil) (fun _ _ _ _ _ => pe_tup (pa_cons (pv 10) (pa_cons (pe_op op_add (pv 10) (pv 4)) pa_nil))))
          (pss_cons (ps_set (i := 6) nd rfl (.inl rfl) (pe_ifExp (pt_cmpR op_eq (pe_op op_mod (pe_callB call_len_seq (by rfl) T.z_len PySem.boot_len (pa_cons (pv 1) pa_nil)) pe_int) pe_int (nomark _)) (pv 4) (pe_op op_mul pe_int (pe_callB (cr_sum rfl) (by rfl) T.z_sum (by decide +kernel) (pa_cons (pe_step (pv 3) po_none po_none (po_some pe_int)) pa_nil)))))
          (pss_one (ps_if (PW.pt (pw_or (pt_cmpR op_ne (pe_call M.odd.F hr (by rfl) M.odd.g M.odd.kp M.odd.b .nil pass0 (pa_cons (pv 5) pa_nil)) (pv 6) (nomark _))
              (pw_or1 (pt_cmpR op_ne (pe_call M.cov.F hr (by rfl) M.cov.g M.cov.kp M.cov.b .nil pass0 (pa_cons (pv 5) pa_nil)) (pe_op op_add (pv 2) (pv 4)) (nomark _))))) (pss_one (ps_ret pe_bl)) pss_nil)))))
      (pss_cons (ps_for PassesOwn.never rfl (pi_list (pe_lst (pa_cons pe_int (pa_cons pe_int
            (pa_cons (pe_op op_add pe_int (pe_call G hr1 (by rfl) T.g__law_dip D.F__law_dip.kp (b__law_dip D) .nil pass0 (pa_cons (pv 0) (pa_cons pe_int pa_nil))))
            (pa_cons (pe_callB (call_max2 rfl) (by rfl) T.z_max (by decide +kernel) (pa_cons pe_int (pa_cons (pe_op op_fdiv (pv 2) pe_int) pa_nil)))
            (pa_cons (pe_callB (call_max2 rfl) (by rfl) T.z_max (by decide +kernel) (pa_cons pe_int (pa_cons (pe_op op_sub (pv 2) pe_int) pa_nil))) pa_nil))))))) (pg_name (i := 4) nd rfl (.inr rfl))
          (pss_cons (ps_setLc (i := 5) (own := [(("number_here" : Str), 10)]) (g := gName 10) (tt := tYes) (te := tTup (tCons (tVar 10) (tCons (tOp (rI0 fun i j => .int (i + j)) (tVar 10) (tVar 4)) tNil))) rfl nd rfl rfl (sw_true rfl rfl rfl (by decide +kernel)) (pi_list (pv 1))
              (blkOk_by (own := [(("number_here" : Str), 10)]) (N := NR) (sc := defScope s_law_right) (by decide +kernel)) (fun _ _ _ _ _ => pg_name (i := 10) nd rfl (Or.inl rfl)) (fun _ _ _ _ _ => pts_nil) (fun _ _ _ _ _ => pe_tup (pa_cons (pv 10) (pa_cons (pe_op op_add (pv 10) (pv 4)) pa_nil))))
          (pss_cons (ps_if (pt_cmpR op_ne (pe_call M.cov.F hr (by rfl) M.cov.g M.cov.kp M.cov.b .nil pass0 (pa_cons (pv 5) pa_nil)) (pe_op op_add (pv 4) (pe_callB (cr_sum rfl) (by rfl) T.z_sum (by decide +kernel) (pa_cons (pe_lc (own := [(("gap" : Str), 11)]) (g := gName 11) (tt := tYes)
              (te := tCB (fun xs H Q => ∃ i j, xs = [.int i, .int j] ∧ Q (.int (if j < i then j else i)) H) (tCons (tVar 11) (tCons (tVar 4) tNil))) rfl nd (pi_list (pv 3)) (blkOk_by (own := [(("gap" : Str), 11)]) (N := NR) (sc := defScope s_law_right) (by decide +kernel)) (fun _ _ _ _ _ => pg_name (i := 11) nd rfl (Or.inl rfl)) (fun _ _ _ _ _ => pts_nil)
              (fun _ _ _ _ _ => pe_callB (call_min2 rfl) (by rfl) T.z_min (by decide +kernel) (pa_cons (pv 11) (pa_cons (pv 4) pa_nil)))) pa_nil))) (nomark _)) (pss_one (ps_ret pe_bl)) pss_nil)
          (pss_cons (ps_set (i := 7) nd rfl (.inl rfl) (pe_call M.odd.F hr (by rfl) M.odd.g M.odd.kp M.odd.b .nil pass0 (pa_cons (pv 5) pa_nil)))
          (pss_one (ps_if (PW.pt (pw_or (pt_cmpR op_ne (pe_op op_mod (pv 7) pe_int) (pe_op op_mod (pe_op op_mul (pe_callB call_len_seq (by rfl) T.z_len PySem.boot_len (pa_cons (pv 1) pa_nil)) (pv 4)) pe_int) (nomark _))
              (pw_or1 (pt_cmpR op_lt (pv 7) (pe_callB (cr_min rfl) (by rfl) T.z_min (by decide +kernel) (pa_cons (pe_op op_cat (pe_lst (pa_cons (pv 4) pa_nil)) (pe_slice sl_list (pv 3) po_none (po_some pe_int))) pa_nil)) (nomark _))))) (pss_one (ps_ret pe_bl)) pss_nil))))))
      (pss_one (ps_ret (pe_cmpR op_eq (pe_call M.odd.F hr (by rfl) M.odd.g M.odd.kp M.odd.b .nil pass0 (pa_cons (pe_lc (own := [(("number_here" : Str), 10)]) (g := gName 10) (tt := tYes) (te := tTup (tCons (tVar 10) (tCons (tOp (rI0 fun i j => .int (i + j)) (tVar 10) (tC (.int 1))) tNil))) rfl nd (pi_list (pv 1))
              (blkOk_by (own := [(("number_here" : Str), 10)]) (N := NR) (sc := defScope s_law_right) (by decide +kernel)) (fun _ _ _ _ _ => pg_name (i := 10) nd rfl (Or.inl rfl)) (fun _ _ _ _ _ => pts_nil) (fun _ _ _ _ _ => pe_tup (pa_cons (pv 10) (pa_cons (pe_op op_add (pv 10) pe_int) pa_nil)))) pa_nil))
          (pe_callB call_len_seq (by rfl) T.z_len PySem.boot_len (pa_cons (pv 1) pa_nil)) (nomark _))))))), ?_⟩
    have gl : atI ((a :: l).map V.int) (-1) = some (.int (last a l)) := by
      show (ixN ((a :: l).map V.int).length (-1)).bind (fun j => ((a :: l).map V.int)[j]?) = some (V.int (last a l))
      have e1 : ixN ((a :: l).map V.int).length (-1) = some l.length := by
        rw [List.length_map, List.length_cons]
        unfold ixN
        simp
        omega
      rw [e1]
      exact getLast_at l a
    have g0 : atI ((a :: l).map V.int) 0 = some (.int a) := atI_nat (j := 0) rfl
    have hg := last_ge asc
    have cut1 : cutV ((a :: l).map V.int) (some 1) none = l.map V.int := by
      unfold cutV
      have e1 : HT.sIx ((a :: l).map V.int).length 0 (some 1) = 1 := by
        have := HT.sIx_nat ((a :: l).map V.int).length 0 1
        rw [show ((1 : Nat) : Int) = 1 from rfl] at this
        rw [this, List.length_map, List.length_cons]
        omega
      rw [e1]
      show List.take _ (l.map V.int) = _
      refine List.take_of_length_le ?_
      show (l.map V.int).length ≤ ((a :: l).map V.int).length - 1
      simp
    refine ⟨_, rfl, 1, rfl, nm, _, -1, _, rfl, rfl, lstL en, gl, _, rfl, nm, _, 0, _, rfl, rfl, lstL en, g0, _, _, rfl, rfl, ?_⟩
    refine ⟨_, rfl, _, rfl, _, rfl, nm, _, rfl, lstL en, fun p hp => ?_⟩
    rw [cut1]
    have sp := same_new (o := .lst (l.map V.int)) hp
    refine ⟨nm, p, _, _, rfl, lstL (sp _ _ en), lstL upd_same, fun gp hgp => ?_⟩
    have nmgp : nm ≠ gp := ne_of_none (sp _ _ en) hgp
    have pgp : p ≠ gp := ne_of_none upd_same hgp
    have tk1 := tk.same sp
    obtain ⟨A0, B0, et, _⟩ := id tk1
    have tgp : t ≠ gp := ne_of_none et hgp
    have hn : l.length = min ((a :: l).map V.int).length (l.map V.int).length := by simp
    have glen := gaps_len l a
    refine lc_it (walk_zip (K := K) (a := nm) (b := p) (xs := (a :: l).map V.int) (ys := l.map V.int) hn) (fun i H' => Same (upd H p (.lst (l.map V.int))) H' ∧ H' gp = some (.lst (((gaps (a :: l)).take i).map V.int)))
      ⟨fun b o h => by rw [upd_ne (ne_of_none h hgp)]; exact h, upd_same⟩ (fun i H' hi hp' => ⟨lstL (hp'.1 _ _ (sp _ _ en)), lstL (hp'.1 _ _ upd_same)⟩) (fun i x H2 H3 hi hp' y => ?_) fun H2 hp' => ?_
    · obtain ⟨s2, e2⟩ := hp'
      obtain ⟨Tt, u, v, rfl, hT, rfl, hu, hv⟩ := y
      dsimp only at hu hv
      rw [List.getElem?_map] at hu hv
      obtain ⟨iu, hiu, rfl⟩ := Option.map_eq_some_iff.mp hu
      obtain ⟨iv, hiv, rfl⟩ := Option.map_eq_some_iff.mp hv
      have sT := same_new (o := .tup [.int iu, .int iv]) hT
      have gz := gaps_zip l a i
      rw [hiu, hiv] at gz
      refine ⟨Tt, _, rfl, tupT upd_same, rfl, _, _, rfl, _, _, rfl, rfl, rfl, _, rfl, _, rfl, _, _, rfl, rfl, _, sT _ _ e2, ?_, ?_, ?_⟩
      · rw [List.length_map, List.length_take]
        exact Nat.lt_of_lt_of_le (show min i (gaps (a :: l)).length < 100 by omega) (by decide)
      · intro b o h
        rw [upd_ne (ne_of_none h hgp)]
        exact sT _ _ (s2 _ _ h)
      · rw [upd_same, List.take_succ, gz, List.map_append]
        rfl
    obtain ⟨s2, e2⟩ := hp'
    rw [← glen, List.take_length] at e2
    have env : EnvR H t nm gp a l c c H2 := ⟨Same.keep (sp.trans s2), tk1.same s2, Nat.le_refl _, s2 _ _ (sp _ _ en), e2⟩
    clear hn s2 e2 sp tk1 et
    refine ⟨_, _, rfl, ?_⟩
    dsimp only [List.set_cons_zero, List.set_cons_succ]
    -- long windows
    have w0 : 0 ≤ last a l - a := by omega
    have w1 : last a l - a ≤ 2000000000000000000000000000000 := by omega
    refine ⟨_, rfl, _, _, rfl, _, rfl, _, _, rfl, rfl, _, rfl, _, _, rfl, rfl, pw_ok (by decide) (by decide), t, _, c, rfl, env.tk, by omega, by rw [p30]; decide, by rw [p30]; decide, fun v1 c1 H3 k1 t1 l1 u1 a1 b1 => ?_⟩
    rw [p30] at b1
    refine ⟨_, _, rfl, rfl, _, rfl, _, _, rfl, rfl, _, _, rfl, rfl, pw_ok (by decide) (by decide), _, rfl, _, _, rfl, rfl, by show 4 ≤ sizeLine; decide, fun L1 hL1 => ?_⟩
    have env3 := env.dip k1 t1 l1 tnm tgp
    obtain ⟨w, hw⟩ : ∃ w : Int, w = last a l - a := ⟨_, rfl⟩
    refine ⟨L1, rfl, ⟨_, lstL upd_same⟩, for_list (xs := items1 (last a l - a) v1) (fun i σ H' => ∃ z4 z5 z6 z7 z8 z9 z10 z11, EnvR H t nm gp a l c c1 H' ∧ H' L1 = some (.lst (items1 (last a l - a) v1)) ∧ σ = [some (.ref t), some (.ref nm), some (.int (last a l - a)), some (.ref gp), z4, z5, z6, z7, z8, z9, z10, z11])
      ⟨_, _, _, _, _, _, _, _, env3.same (same_new hL1), upd_same, rfl⟩ (fun i σ' H' hi hp => ?_) (fun i x σ' H' hx hp => ?_) fun σ' H' hp => ?_⟩
    · obtain ⟨z4, z5, z6, z7, z8, z9, z10, z11, env, eL, rfl⟩ := hp
      exact lstL eL
    · obtain ⟨z4, z5, z6, z7, z8, z9, z10, z11, env, eL, rfl⟩ := hp
      obtain ⟨len, rfl, q1, q2, q3⟩ : ∃ len : Int, x = .int len ∧ 1 ≤ len ∧ last a l - a ≤ len ∧ len ≤ 10000000000000000000000000000000000000000 := by
        have hm := List.mem_of_getElem? hx
        simp only [List.mem_cons, List.not_mem_nil, or_false] at hm
        rcases hm with rfl | rfl | rfl | rfl
        · refine ⟨_, rfl, ?_, ?_, ?_⟩ <;> split <;> omega
        · exact ⟨_, rfl, by omega, by omega, by omega⟩
        · exact ⟨_, rfl, by omega, by omega, by omega⟩
        · refine ⟨_, rfl, ?_, ?_, ?_⟩ <;> rw [p30] <;> omega
      have fine := fine_win asc hl a0 b0 q1 q3
      refine ⟨_, rfl, nm, rfl, ⟨_, lstL env.en⟩, fun dw hdw => ?_⟩
      refine win_lc env.en hdw (by simp only [List.length_cons]; omega) (fun x H Q h => ⟨_, rfl, h⟩) (fun σ' H Q Q' hq h => ?_) (fun H5 us s5 e5 iv => ?_)
      · obtain ⟨v, e, h⟩ := h
        exact ⟨v, e, hq _ _ h⟩
      have env5 := env.same s5
      have eL5 := s5 _ _ eL
      have lenm : ((a :: l).map V.int).length = (a :: l).length := List.length_map ..
      refine ⟨_, rfl, nm, _, rfl, .inl (lstL env5.en), _, _, rfl, rfl, by show (0 : Int) < 2; decide, rfl, _, rfl, ite2 (fun e => ?b1) (fun e => ?b2)⟩
      case' b1 =>
        have hn1 : (a :: l).length % 2 = 1 := by
          have e2 := of_decide_eq_true e
          injection e2 with e3
          rw [lenm] at e3
          have e3 : (((a :: l).length : Nat) : Int) % 2 = 1 := e3
          omega
        have hv : ∀ v, OddOf (win len (a :: l)) v → decide (V.int v = V.int len) = true := fun v ov => by
          rw [odd_long asc q1 q2 ov, if_pos hn1]
          exact decide_eq_true rfl
        have env6 := env5
        have eL6 := eL5
        have e6 := e5
        have iv6 := iv
        refine ⟨_, rfl, ?_⟩
      case' b2 =>
        have hn1 : ¬ (a :: l).length % 2 = 1 := fun z => e (decide_eq_true (by
          rw [lenm]
          show V.int ((((a :: l).length : Nat) : Int) % 2) = V.int 1
          rw [show (((a :: l).length : Nat) : Int) % 2 = 1 by omega]))
        have hv : ∀ v, OddOf (win len (a :: l)) v → decide (V.int v = V.int (2 * (ev (gaps (a :: l))).sum)) = true := fun v ov => by
          rw [odd_long asc q1 q2 ov, if_neg hn1, ev_sum]
          exact decide_eq_true rfl
        refine ⟨_, rfl, gp, _, rfl, _, rfl, by decide, lstL env5.eg, fun pk hpk => ⟨pk, ev (gaps (a :: l)), rfl, lstL (by rw [upd_same, pick_ev, ev_map]), _, _, rfl, rfl, .inl ⟨by decide, by decide⟩, ?_⟩⟩
        have s6 := same_new (o := .lst (pickV ((gaps (a :: l)).map V.int) none none (some 2))) hpk
        have env6 := env5.same s6
        have eL6 := s6 _ _ eL5
        have e6 := s6 _ _ e5
        have iv6 := Ivs.same iv s6
      all_goals
        refine ⟨_, rfl, dw, us, _, rfl, lstL e6, iv6, fine, fun v7 H7 s7 ov => ⟨_, rfl, rfl, false, by rw [hv v7 ov]; rfl, iteF ?_⟩⟩
        refine ⟨_, rfl, dw, us, _, rfl, lstL (s7 _ _ e6), Ivs.same iv6 s7, fine, fun v8 H8 s8 cv => ⟨_, rfl, _, rfl, _, _, rfl, rfl, rfl, false, ?_, iteF ?_⟩⟩
        · rw [cov_long asc q1 q2 cv]
          exact congrArg (fun b => V.bl (!b)) (decide_eq_true rfl)
        exact ⟨_, _, _, _, _, _, _, _, (env6.same s7).same s8, s8 _ _ (s7 _ _ eL6), rfl⟩
    clear env3 env
    obtain ⟨z4, z5, z6, z7, z8, z9, z10, z11, env, _, rfl⟩ := hp
    -- shorter windows
    refine ⟨_, rfl, t, 12, c1, rfl, env.tk, by omega, by decide, by decide, fun v2 c2 H9 k2 t2 l2 u2 a2 b2 => ⟨_, _, rfl, rfl, _, rfl, _, _, rfl, rfl, ⟨by decide, by decide⟩, _, _, rfl, _, rfl, _, _, rfl, rfl, _, _, rfl, by show 5 ≤ sizeLine; decide, fun L2 hL2 => ?_⟩⟩
    have env9 := env.dip k2 t2 l2 tnm tgp
    refine ⟨L2, rfl, ⟨_, lstL upd_same⟩, for_list (xs := items2 (last a l - a) v2) (fun i σ H' => ∃ z4 z5 z6 z7 z8 z9 z10 z11, EnvR H t nm gp a l c c2 H' ∧ H' L2 = some (.lst (items2 (last a l - a) v2)) ∧ σ = [some (.ref t), some (.ref nm), some (.int (last a l - a)), some (.ref gp), z4, z5, z6, z7, z8, z9, z10, z11])
      ⟨_, _, _, _, _, _, _, _, env9.same (same_new hL2), upd_same, rfl⟩ (fun i σ' H' hi hp => ?_) (fun i x σ' H' hx hp => ?_) fun σ' H' hp => ?_⟩
    · obtain ⟨z4, z5, z6, z7, z8, z9, z10, z11, env, eL, rfl⟩ := hp
      exact lstL eL
    · obtain ⟨z4, z5, z6, z7, z8, z9, z10, z11, env, eL, rfl⟩ := hp
      obtain ⟨len, rfl, q1, q3⟩ : ∃ len : Int, x = .int len ∧ 1 ≤ len ∧ len ≤ 10000000000000000000000000000000000000000 := by
        have hm := List.mem_of_getElem? hx
        simp only [List.mem_cons, List.not_mem_nil, or_false] at hm
        rcases hm with rfl | rfl | rfl | rfl | rfl
        · exact ⟨_, rfl, by omega, by omega⟩
        · exact ⟨_, rfl, by omega, by omega⟩
        · exact ⟨_, rfl, by omega, by omega⟩
        · refine ⟨_, rfl, ?_, ?_⟩ <;> split <;> omega
        · refine ⟨_, rfl, ?_, ?_⟩ <;> split <;> omega
      have fine := fine_win asc hl a0 b0 q1 q3
      refine ⟨_, rfl, nm, rfl, ⟨_, lstL env.en⟩, fun dw hdw => ?_⟩
      refine win_lc env.en hdw (by simp only [List.length_cons]; omega) (fun x H Q h => ⟨_, rfl, h⟩) (fun σ' H Q Q' hq h => ?_) (fun H5 us s5 e5 iv => ?_)
      · obtain ⟨v, e, h⟩ := h
        exact ⟨v, e, hq _ _ h⟩
      have env5 := env.same s5
      have eL5 := s5 _ _ eL
      have lenm : ((a :: l).map V.int).length = (a :: l).length := List.length_map ..
      dsimp only [List.set_cons_zero, List.set_cons_succ]
      refine ⟨_, rfl, dw, us, _, rfl, lstL e5, iv, fine, fun v6 H6 s6 cv => ?_⟩
      have env6 := env5.same s6
      refine ⟨_, rfl, _, rfl, gp, rfl, ⟨_, lstL env6.eg⟩, fun dg hdg => ?_⟩
      refine lc_map (fun i v _ => ∀ g, (gaps (a :: l))[i]? = some g → v = .int (if len < g then len else g)) (fun i v H H' us r _ _ => r) (lstL env6.eg) hdg (by rw [List.length_map, gaps_len]; omega) (fun x => rfl) (fun i x H hx s => ?_) (fun σ' H Q Q' hq h => ?_) fun H7 ms s7 e7 hl7 hr7 => ?_
      · rw [List.getElem?_map] at hx
        obtain ⟨n, hn2, rfl⟩ := Option.map_eq_some_iff.mp hx
        refine ⟨_, rfl, _, rfl, _, _, rfl, fun _ _ h => h, fun g hg2 => ?_⟩
        rw [hn2] at hg2
        cases hg2
        rfl
      · obtain ⟨v, e1, w, e2, i, j, e3, h⟩ := h
        exact ⟨v, e1, w, e2, i, j, e3, hq _ _ h⟩
      rw [List.length_map] at hl7 hr7
      have em := us_of hl7 hr7
      subst em
      have env7 := env6.same s7
      have eL7 := s7 _ _ (s6 _ _ eL5)
      have e57 := s7 _ _ (s6 _ _ e5)
      refine ⟨dg, _, rfl, lstL e7, _, _, rfl, rfl, rfl, false, ?_, iteF ?_⟩
      · rw [cov_win asc (by omega) cv, mins_eq]
        exact congrArg (fun b => V.bl (!b)) (decide_eq_true rfl)
      refine ⟨_, rfl, dw, us, _, rfl, lstL e57, Ivs.same (Ivs.same iv s6) s7, fine, fun v8 H8 s8 ov => ?_⟩
      have env8 := env7.same s8
      dsimp only [List.set_cons_zero, List.set_cons_succ]
      refine ⟨_, rfl, _, _, rfl, rfl, by show (0 : Int) < 2; decide, _, rfl, nm, _, rfl, .inl (lstL env8.en), _, rfl, _, _, rfl, rfl, .inl ⟨by omega, by rw [lenm, List.length_cons]; omega⟩, _, _, rfl, rfl, by show (0 : Int) < 2; decide, rfl, false, ?_, iteF ?_⟩
      · rw [lenm]
        have := odd_mod asc (by omega) ov
        show V.bl (!decide (V.int (v8 % 2) = V.int ((((a :: l).length : Nat) : Int) * len % 2))) = V.bl false
        rw [this]
        exact congrArg (fun b => V.bl (!b)) (decide_eq_true rfl)
      refine ⟨_, rfl, _, rfl, by show 1 ≤ sizeLine; decide, fun A1 hA1 => ?_⟩
      have sA := same_new (o := .lst [.int len]) hA1
      refine ⟨_, rfl, _, rfl, gp, _, rfl, lstL (sA _ _ env8.eg), fun B1 hB1 => ?_⟩
      have sB := same_new (o := .lst (cutV ((gaps (a :: l)).map V.int) none (some 1))) hB1
      have cut0 : cutV ((gaps (a :: l)).map V.int) none (some 1) = ((gaps (a :: l)).take 1).map V.int := by
        unfold cutV
        have e2 : HT.sIx ((gaps (a :: l)).map V.int).length ((gaps (a :: l)).map V.int).length (some 1) = min 1 ((gaps (a :: l)).map V.int).length := by
          have := HT.sIx_nat ((gaps (a :: l)).map V.int).length ((gaps (a :: l)).map V.int).length 1
          rw [show ((1 : Nat) : Int) = 1 from rfl] at this
          exact this
        rw [e2, List.map_take]
        show ((List.map V.int (gaps (a :: l))).drop 0).take (min 1 _ - 0) = _
        rw [List.drop_zero, Nat.sub_zero]
        by_cases z : ((gaps (a :: l)).map V.int).length = 0
        · rw [List.length_eq_zero_iff.mp z]
          simp
        · rw [Nat.min_eq_left (by omega)]
      refine ⟨A1, B1, _, _, rfl, rfl, sB _ _ upd_same, upd_same, ?_, fun C1 hC1 => ?_⟩
      · rw [cut0, List.length_map, List.length_take]
        exact Nat.le_trans (show 1 + min 1 (gaps (a :: l)).length ≤ 10 by omega) (by decide)
      have sC := same_new (o := .lst ([.int len] ++ cutV ((gaps (a :: l)).map V.int) none (some 1))) hC1
      refine ⟨C1, len :: (gaps (a :: l)).take 1, rfl, lstL (by rw [upd_same, cut0]; rfl), by simp, fun m hm1 hm2 => ?_⟩
      have lo := odd_least asc q1 ov
      have mle : m ≤ v8 := by
        refine Int.le_trans ?_ lo
        cases l with
        | nil => exact hm2 len (List.mem_cons_self ..)
        | cons b l =>
          have h1 := hm2 len (List.mem_cons_self ..)
          have h2 := hm2 (b - a) (List.mem_cons_of_mem _ (List.mem_cons_self ..))
          show m ≤ (if len < b - a then len else b - a)
          split <;> omega
      refine ⟨_, _, rfl, rfl, false, congrArg V.bl (decide_eq_false (by omega)), iteF ?_⟩
      exact ⟨_, _, _, _, _, _, _, _, ((env8.same sA).same sB).same sC, sC _ _ (sB _ _ (sA _ _ (s8 _ _ eL7))), rfl⟩
    clear env9 env
    obtain ⟨z4, z5, z6, z7, z8, z9, z10, z11, env, _, rfl⟩ := hp
    -- windows of one integer
    refine ⟨_, rfl, nm, rfl, ⟨_, lstL env.en⟩, fun dw hdw => ?_⟩
    refine win_lc (len := 1) env.en hdw (by simp only [List.length_cons]; omega) (fun x H Q h => h) (fun σ' H Q Q' hq h => hq _ _ h) (fun H5 us s5 e5 iv => ?_)
    refine ⟨dw, us, _, rfl, lstL e5, iv, fine_win asc hl a0 b0 (by decide) (by decide), fun v6 H6 s6 ov => ?_⟩
    have env6 := (env.same s5).same s6
    refine ⟨_, rfl, nm, _, rfl, .inl (lstL env6.en), rfl, ?_⟩
    have ef : decide (V.int v6 = V.int (((a :: l).map V.int).length : Int)) = true := by
      rw [odd_one asc ov, List.length_map]
      exact decide_eq_true rfl
    rw [ef]
    exact q c2 H6 env6.k env6.tk env6.lo (by omega)
end
end K21

set_option Elab.async false
set_option linter.all false
set_option maxRecDepth 100000
set_option maxHeartbeats 8000000
set_option exponentiation.threshold 600
namespace K21
open PySem PySem.Spec PyProof.Rows L2 RT SM
abbrev NL : List Str := Nlaw ++ [("numbers" : Str), ("one" : Str)]
theorem scL : FnScope NL ["script"] (defScope slaw) := ⟨rfl, rfl, rfl, by decide +kernel, rfl, by decide +kernel, by decide +kernel⟩
theorem same_ne {H0 H H1 : Hp} {t : Addr} (h0 : H0 t = none) (s : Same H0 H) (k : Keep t H H1) : Same H0 H1 := fun b o h => k b o (ne_of_none h h0) (s b o h)
theorem same_sql {K : PySem.W.Frag} {H H' : Hp} {a : Addr} {xs : List V} (e : Same H H') (h : SqL K H a xs) : SqL K H' a xs := by
  rcases h with (h | ⟨o, h⟩) | h
  · exact .inl (.inl (e _ _ h))
  · exact .inl (.inr ⟨o, e _ _ h⟩)
  · exact .inr h
theorem win_lcG {K : PySem.W.Frag} {nm D : Addr} {ns : List Int} {len : Int} {tl : TE} {H1 : Hp} {Qd : Hp → Prop} {σ : L2.St} {j : Nat} (hS : H1 nm = some (.lst (ns.map V.int))) (hD : H1 D = none) (hn : ns.length ≤ 900)
    (hj : ∀ x, ((wipe σ [j]).set j (some x))[j]? = some (some x)) (hw : ∀ x, wipe ((wipe σ [j]).set j (some x)) [j] = wipe σ [j])
    (htl : ∀ x H Q, Q (.int len) H → tl ((wipe σ [j]).set j (some x)) H Q) (tl_mono : ∀ σ' H Q Q', (∀ y H4, Q y H4 → Q' y H4) → tl σ' H Q → tl σ' H Q')
    (hd : ∀ H' us, Same H1 H' → H' D = some (.lst us) → Ivs H' us (win len ns) → Qd H') :
    LcP K nm (gName j) tYes (tTup (tCons (tVar j) (tCons (tOp (rI0 fun i j => .int (i + j)) (tVar j) tl) tNil))) [j] σ H1 D Qd := by
  refine lc_map (fun i v H => ∀ p, (win len ns)[i]? = some p → IvAt H v p) (fun i v H H' us r eD k p hp => ?_) (lstL hS) hD (by rw [List.length_map]; omega) hw (fun i x H hx s => ?_) (fun σ' H Q Q' hq h => ?_) fun H us s eD hl hr => ?_
  · obtain ⟨t, e, h⟩ := r p hp
    exact ⟨t, e, k t _ (fun z => by rw [z, eD] at h; cases h) h⟩
  · rw [List.getElem?_map] at hx
    obtain ⟨n, hn2, rfl⟩ := Option.map_eq_some_iff.mp hx
    refine ⟨_, hj _, _, hj _, htl _ _ _ ⟨_, _, rfl, rfl, by show 2 ≤ sizeLine; decide, fun t ht => ⟨same_new ht, fun p hp => ⟨t, rfl, ?_⟩⟩⟩⟩
    unfold win at hp
    rw [List.getElem?_map, hn2] at hp
    cases hp
    exact upd_same
  · obtain ⟨v, e1, w, e2, h⟩ := h
    refine ⟨v, e1, w, e2, tl_mono _ _ _ _ (fun y H4 z => ?_) h⟩
    obtain ⟨i, j, a1, a2, b, c⟩ := z
    exact ⟨i, j, a1, a2, b, fun p np => hq _ _ (c p np)⟩
  · refine hd H us s eD (ivs_of ?_ fun i hi => hr i ?_)
    · rw [hl]
      unfold win
      rw [List.length_map, List.length_map]
    · unfold win at hi
      rw [List.length_map] at hi ⊢
      exact hi
section
variable {P : Program} {w : World} {K : PySem.W.Frag} {mg : Str → Option Value} {base : Heap}
def spLaw (K : PySem.W.Frag) : Sp := fun vs H Q _ => ∃ (a : Addr) (ns : List Int), vs = [.ref a] ∧ SqL K H a (ns.map V.int) ∧ ∀ H', Q (.bl true) H'
theorem ok_law (D : Ds K) (T : Tx K mg) (M : Spans P w K mg base) : FnOk P w K mg base CX0 14 (dlaw.adr K) D.fd_law ["script"] (spLaw K) := by
  have GT : FnOk P w K mg base CX0 1 _ _ _ (spTank K) := ok_tank D T
  have GN : FnOk P w K mg base CX0 2 _ _ _ spNums := ok_nums D T
  have GR : FnOk P w K mg base CX0 13 _ _ _ spRight := ok_right D T M
  refine D.F_law.ok scL (fun vs H Q E h => ?_) (fun cdv A outer s H vs Q E hr h => ?_)
  · obtain ⟨a, ns, rfl, _⟩ := h
    rfl
  · obtain ⟨a, ns, rfl, hS, q⟩ := h
    have nd := scL.nd
    refine ⟨_, PSs.nox (pss_cons (ps_for PassesOwn.never rfl (pi_range1 (by rfl) T.z_range (pa_cons (pe_callB (call_max2 rfl) (by rfl) T.z_max (by decide +kernel) (pa_cons pe_int (pa_cons (pe_callB (call_min2 rfl) (by rfl) T.z_min (by decide +kernel) (pa_cons pe_int (pa_cons (pe_callB call_len_seq (by rfl) T.z_len PySem.boot_len (pa_cons (pv 0) pa_nil)) pa_nil))) pa_nil))) pa_nil)) (pg_name (i := 1) nd rfl (.inl rfl))
        (pss_cons (ps_set (i := 2) nd rfl (.inl rfl) (pe_call GT (hr.mono (by decide)) (by rfl) T.g__law_tank D.F__law_tank.kp (b__law_tank D) .nil pass0 (pa_cons (pv 0) (pa_cons (pv 1) pa_nil))))
        (pss_one (ps_for PassesOwn.never rfl (pi_range1 (by rfl) T.z_range (pa_cons pe_int pa_nil)) (pg_name (i := 3) nd rfl (.inl rfl))
          (pss_one (ps_if (pt_not (pt_val (pe_call GR hr (by rfl) T.g__law_right D.F__law_right.kp (b__law_right D) .nil pass0 (pa_cons (pv 2) (pa_cons (pe_call GN (hr.mono (by decide)) (by rfl) T.g__law_numbers D.F__law_numbers.kp (b__law_numbers D) .nil pass0 (pa_cons (pv 2) pa_nil)) pa_nil))))) (pss_one (ps_ret pe_bl)) pss_nil))))))
      (pss_cons (ps_setLc (i := 4) (own := [(("numbers" : Str), 5)]) (g := gName 5) (tt := tYes) (te := tCall (spSpan K OddOf) [] E0 (tCons (tLc (iList K (tVar 5)) (gName 6) tYes (tTup (tCons (tVar 6) (tCons (tOp (rI0 fun i j => .int (i + j)) (tVar 6) (tC (.int 10))) tNil))) [6]) tNil)) rfl nd rfl rfl (sw_true rfl rfl rfl (by decide +kernel))
          (pi_list (pe_lst (pa_cons (pe_lst (pa_cons pe_int (pa_cons pe_int (pa_cons pe_int pa_nil)))) (pa_cons (pe_lst (pa_cons pe_int (pa_cons pe_int (pa_cons pe_int pa_nil)))) (pa_cons (pe_lst (pa_cons pe_int (pa_cons pe_int pa_nil))) pa_nil)))))
          (blkOk_by (own := [(("numbers" : Str), 5)]) (N := NL) (sc := defScope slaw) (by decide +kernel)) (fun _ _ _ _ _ => pg_name (i := 5) nd rfl (Or.inl rfl)) (fun _ _ _ _ _ => pts_nil)
          (fun _ _ _ _ _ => pe_call M.odd.F (hr.mono (by decide)) (by rfl) M.odd.g M.odd.kp M.odd.b .nil pass0 (pa_cons (pe_lc (own := [(("one" : Str), 6)]) (g := gName 6) (tt := tYes) (te := tTup (tCons (tVar 6) (tCons (tOp (rI0 fun i j => .int (i + j)) (tVar 6) (tC (.int 10))) tNil))) rfl nd (pi_list (pv 5))
            (blkOk_by (own := [(("one" : Str), 6)]) (N := NL) (by rfl)) (fun _ _ _ _ _ => pg_name (i := 6) nd rfl (Or.inl rfl)) (fun _ _ _ _ _ => pts_nil) (fun _ _ _ _ _ => pe_tup (pa_cons (pv 6) (pa_cons (pe_op op_add (pv 6) pe_int) pa_nil)))) pa_nil)))
      (pss_one (ps_ret (pe_cmpR (op_eqD hr.units) (pv 4) (pe_lst (pa_cons pe_int (pa_cons pe_int (pa_cons pe_int pa_nil)))) (nomark _)))))), ?_⟩
    refine ⟨_, rfl, a, _, rfl, .inl hS, _, _, rfl, _, _, rfl, _, rfl, ?b1, ?b2, ?_⟩
    case b1 => split <;> omega
    case b2 => split <;> split <;> omega
    refine for_range (lo := 0) (fun i σ H' => ∃ z1 z2 z3 z4 z5 z6, SqL K H' a (ns.map V.int) ∧ σ = [some (.ref a), z1, z2, z3, z4, z5, z6]) ⟨none, none, none, none, none, none, hS, rfl⟩ (fun k σ' H0 hk hp => ?_) fun σ' H' hp => ?_
    · obtain ⟨z1, z2, z3, z4, z5, z6, hS0, rfl⟩ := hp
      have hk8 : k < 9 := by
        have h2 := hk
        split at h2 <;> split at h2 <;> omega
      refine ⟨_, rfl, _, rfl, a, ns, k, by rw [Int.zero_add]; rfl, hS0, by omega, fun t Ht st h0 tk0 => ?_⟩
      refine ⟨4, rfl, by decide, by decide, ?_⟩
      refine for_range (lo := 0) (n := 4) (fun i σ H' => ∃ (c : Nat) (z3 z4 z5 z6 : Option V), Same H0 H' ∧ Tk H' t c ∧ c ≤ 100 * i ∧ σ = [some (.ref a), some (.int (0 + k)), some (.ref t), z3, z4, z5, z6]) ⟨0, z3, z4, z5, z6, st, tk0, Nat.zero_le _, rfl⟩ (fun j σ' H hj hp => ?_) fun σ' H' hp => ?_
      · obtain ⟨c, z3, z4, z5, z6, s0, tk, hcj, rfl⟩ := hp
        obtain ⟨X1, X2, et, _⟩ := id tk
        refine ⟨_, rfl, _, rfl, t, c, rfl, tk, by omega, fun r n0 l c1 H1 k1 t1 l1 u1 hrn er asc hl b0 b1 => ?_⟩
        refine ⟨t, r, c1, n0, l, rfl, t1, by omega, er, asc, hl, b0, b1, ne_of_none et hrn, fun c2 H2 k2 t2 l2 u2 => ?_⟩
        exact ⟨true, rfl, iteF ⟨c2, _, _, _, _, same_ne h0 s0 (k1.trans k2), t2, by omega, rfl⟩⟩
      · obtain ⟨c, z3, z4, z5, z6, s0, tk, hcj, rfl⟩ := hp
        exact ⟨_, _, _, _, _, _, same_sql s0 hS0, rfl⟩
    obtain ⟨z1, z2, z3, z4, z5, z6, _, rfl⟩ := hp
    refine ⟨by show 3 ≤ sizeLine; decide, fun a1 h1 => ⟨by show 3 ≤ sizeLine; decide, fun a2 h2 => ⟨by show 2 ≤ sizeLine; decide, fun a3 h3 => ⟨by show 3 ≤ sizeLine; decide, fun L hL => ?_⟩⟩⟩⟩
    have s1 := same_new (o := .lst [.int 0, .int 1, .int 3]) h1
    have s2 := same_new (o := .lst [.int 0, .int 1, .int 5]) h2
    have s3 := same_new (o := .lst [.int 0, .int 4]) h3
    have sL := same_new (o := .lst [.ref a1, .ref a2, .ref a3]) hL
    obtain ⟨H9, e9⟩ : ∃ X, X = upd (upd (upd (upd H' a1 (.lst [.int 0, .int 1, .int 3])) a2 (.lst [.int 0, .int 1, .int 5])) a3 (.lst [.int 0, .int 4])) L (.lst [.ref a1, .ref a2, .ref a3]) := ⟨_, rfl⟩
    have f1 : H9 a1 = some (.lst (([0, 1, 3] : List Int).map V.int)) := by rw [e9]; exact sL _ _ (s3 _ _ (s2 _ _ upd_same))
    have f2 : H9 a2 = some (.lst (([0, 1, 5] : List Int).map V.int)) := by rw [e9]; exact sL _ _ (s3 _ _ upd_same)
    have f3 : H9 a3 = some (.lst (([0, 4] : List Int).map V.int)) := by rw [e9]; exact sL _ _ upd_same
    have fL : H9 L = some (.lst [.ref a1, .ref a2, .ref a3]) := by rw [e9]; exact upd_same
    refine ⟨L, rfl, ⟨_, lstL upd_same⟩, fun dd hdd => ?_⟩
    rw [← e9] at hdd ⊢
    clear e9 sL s3 s2 s1
    refine lc_list (K := K) (a := L) (xs := [.ref a1, .ref a2, .ref a3]) (fun i H => Same H9 H ∧ H dd = some (.lst ((([10, 10, 8] : List Int).take i).map V.int))) ⟨same_new hdd, upd_same⟩ (fun i H hi p => lstL (p.1 _ _ fL)) (fun i x H hx p => ?_) fun H p => ?_
    · obtain ⟨s, eD⟩ := p
      obtain ⟨ai, n0, l, wv, rfl, eai, asc, hl, hw, hres, fine⟩ : ∃ (ai : Addr) (n0 : Int) (l : List Int) (wv : Int), x = .ref ai ∧ H9 ai = some (.lst ((n0 :: l).map V.int)) ∧ Asc (n0 :: l) ∧ l.length ≤ 40 ∧ ([10, 10, 8] : List Int)[i]? = some wv ∧ (∀ v, OddOf (win 10 (n0 :: l)) v → v = wv) ∧ Fine (win 10 (n0 :: l)) := by
        match i, hx with
        | 0, hx =>
          cases hx
          have asc : Asc [0, 1, 3] := by unfold Asc; decide
          exact ⟨a1, 0, [1, 3], 10, rfl, f1, asc, by decide, rfl, fun v ov => (odd_long asc (by decide) (by decide) ov).trans (by decide), fine_win asc (by decide) (by decide) (by decide) (by decide) (by decide)⟩
        | 1, hx =>
          cases hx
          have asc : Asc [0, 1, 5] := by unfold Asc; decide
          exact ⟨a2, 0, [1, 5], 10, rfl, f2, asc, by decide, rfl, fun v ov => (odd_long asc (by decide) (by decide) ov).trans (by decide), fine_win asc (by decide) (by decide) (by decide) (by decide) (by decide)⟩
        | 2, hx =>
          cases hx
          have asc : Asc [0, 4] := by unfold Asc; decide
          exact ⟨a3, 0, [4], 8, rfl, f3, asc, by decide, rfl, fun v ov => (odd_long asc (by decide) (by decide) ov).trans (by decide), fine_win asc (by decide) (by decide) (by decide) (by decide) (by decide)⟩
        | n + 3, hx => cases hx
      have hi3 : i < 3 := (List.getElem?_eq_some_iff.mp hw).1
      refine ⟨rfl, _, rfl, ai, rfl, ⟨_, lstL (s _ _ eai)⟩, fun dw hdw => ?_⟩
      refine win_lcG (len := 10) (s _ _ eai) hdw (by simp only [List.length_cons]; omega) (fun x => rfl) (fun x => rfl) (fun x H Q h => h) (fun σ' H Q Q' hq h => hq _ _ h) fun H5 us s5 e5 iv => ?_
      refine ⟨dw, us, _, rfl, lstL e5, iv, fine, fun v6 H6 s6 ov => ⟨_, s6 _ _ (s5 _ _ eD), ?_, ?_, ?_⟩⟩
      · rw [List.length_map, List.length_take]
        exact Nat.lt_of_lt_of_le (show min i _ < 10 by omega) (by decide)
      · intro b o h
        rw [upd_ne (ne_of_none h hdd)]
        exact s6 _ _ (s5 _ _ (s _ _ h))
      · rw [upd_same, List.take_succ, hw, List.map_append, hres v6 ov]
        rfl
    obtain ⟨s, eD⟩ := p
    refine ⟨_, rfl, by show 3 ≤ sizeLine; decide, fun p np => ?_⟩
    have sp := same_new (o := .lst [.int 10, .int 10, .int 8]) np
    refine ⟨.list [.int 10, .int 10, .int 8], .list [.int 10, .int 10, .int 8], .lst (lstL (sp _ _ eD)) (.cons (.int _) (.cons (.int _) (.cons (.int _) .nil))), .lst (lstL upd_same) (.cons (.int _) (.cons (.int _) (.cons (.int _) .nil))), rfl, rfl, ?_⟩
    exact q _
end
end K21

set_option Elab.async false
set_option linter.all false
set_option maxRecDepth 100000
set_option maxHeartbeats 4000000
set_option exponentiation.threshold 600
namespace K21
open PySem PySem.Spec PyProof.Rows L2 RT SM
theorem Ivs.get {H : Hp} : ∀ {vs : List V} {L : List Iv}, Ivs H vs L → ∀ {i : Nat} {v : V}, vs[i]? = some v → ∃ p, L[i]? = some p ∧ IvAt H v p
  | _, _, .nil, i, v, e => by cases e
  | _, _, .cons h r, 0, v, e => by cases e; exact ⟨_, rfl, h⟩
  | _, _, .cons h r, i + 1, v, e => Ivs.get (H := H) r e
theorem Ivs.len {H : Hp} {vs : List V} {L : List Iv} (h : Ivs H vs L) : vs.length = L.length := Paired.length h
theorem Ivs.snoc {H : Hp} {vs : List V} {L : List Iv} {v : V} {p : Iv} (h : Ivs H vs L) (k : IvAt H v p) : Ivs H (vs ++ [v]) (L ++ [p]) := Paired.snoc h k
theorem Ivs.keep {D : Addr} {H H' : Hp} {vs us : List V} {L : List Iv} (h : Ivs H vs L) (eD : H D = some (.lst us)) (k : Keep D H H') : Ivs H' vs L :=
  Paired.mono (fun v p q => by
    obtain ⟨t, e, q⟩ := q
    exact ⟨t, e, k t _ (fun z => by rw [z, eD] at q; cases q) q⟩) h
theorem lc_ivs {K : PySem.W.Frag} {a D : Addr} {us : List V} {L : List Iv} {tt : TT} {te : TE} {vs : List Nat} {σ : L2.St} {H1 : Hp} {i j : Nat} {Qd : Hp → Prop} (b : Iv → Bool) (f : Iv → Int) (hS : SqL K H1 a us) (iv : Ivs H1 us L) (hn : L.length ≤ 2000) (hD : H1 D = none)
    (hw : ∀ x y, wipe (((wipe σ vs).set i (some x)).set j (some y)) vs = wipe σ vs)
    (htt : ∀ (p : Iv) (H : Hp) (Q : Bool → Hp → Prop), p ∈ L → Same H1 H → Q (b p) H → tt (((wipe σ vs).set i (some (.int p.1))).set j (some (.int p.2))) H Q)
    (hte : ∀ (p : Iv) (H : Hp) (Q : VK), p ∈ L → Same H1 H → Q (.int (f p)) H → te (((wipe σ vs).set i (some (.int p.1))).set j (some (.int p.2))) H Q)
    (hd : ∀ H, Same H1 H → H D = some (.lst (((L.filter b).map f).map V.int)) → Qd H) : LcP K a (gTup K 2 (gCons (gName i) (gCons (gName j) gNil))) tt te vs σ H1 D Qd := by
  have sD : ∀ {H : Hp} {o : HO}, Same H1 H → Same H1 (upd H D o) := fun {H o} s b u h => by
    rw [upd_ne (ne_of_none h hD)]
    exact s b u h
  have hl := iv.len
  refine lc_list (K := K) (a := a) (xs := us) (fun n H => Same H1 H ∧ H D = some (.lst ((((L.take n).filter b).map f).map V.int))) ⟨sD fun _ _ h => h, upd_same⟩ (fun n H hi p => same_sql p.1 hS) (fun n x H hx p => ?_) fun H p => ?_
  · obtain ⟨s, eD⟩ := p
    obtain ⟨q, hq, t, rfl, et⟩ := iv.get hx
    have hm : q ∈ L := List.mem_of_getElem? hq
    have tk : L.take (n + 1) = L.take n ++ [q] := by rw [List.take_succ, hq]; rfl
    refine ⟨t, _, rfl, tupT (s _ _ et), rfl, _, _, rfl, _, _, rfl, rfl, hw _ _, htt q H _ hm s ?_⟩
    cases hb : b q with
    | true =>
      refine hte q H _ hm s ⟨_, eD, ?_, sD s, ?_⟩
      · rw [List.length_map, List.length_map]
        have h1 : ((L.take n).filter b).length ≤ (L.take n).length := List.length_filter_le _ _
        rw [List.length_take] at h1
        exact Nat.lt_of_lt_of_le (show _ < 2001 by omega) (by decide)
      · rw [upd_same, tk, List.filter_append, List.filter_cons_of_pos hb, List.map_append, List.map_append]
        rfl
    | false =>
      refine ⟨s, ?_⟩
      rw [tk, List.filter_append, List.filter_cons_of_neg (by rw [hb]; decide), eD, List.filter_nil, List.append_nil]
  · obtain ⟨s, eD⟩ := p
    rw [hl, List.take_length] at eD
    exact hd H s eD
theorem filter_true {α : Type} (L : List α) : L.filter (fun _ => true) = L := List.filter_eq_self.mpr fun _ _ => rfl
theorem free_same {H H' : Hp} {p : Addr} (s : Same H H') (h : H' p = none) : H p = none := by
  cases e : H p with
  | none => rfl
  | some o =>
    rw [s _ _ e] at h
    cases h
theorem dec_i (a b : Int) : decide (V.int a = V.int b) = decide (a = b) := by
  rw [dec_int]
  rfl
theorem ite_t {c : Bool} {A B : Prop} (e : c = true) (h : A) : if c = true then A else B := by
  rw [e]
  exact iteT h
theorem ite_f {c : Bool} {A B : Prop} (e : c = false) (h : B) : if c = true then A else B := by
  rw [e]
  exact iteF h
end K21

set_option Elab.async false
set_option linter.all false
set_option maxRecDepth 100000
set_option maxHeartbeats 4000000
set_option exponentiation.threshold 600
namespace K21
open PySem PySem.Spec PyProof.Rows L2 RT SM
section
variable {P : Program} {w : World} {K : PySem.W.Frag} {mg : Str → Option Value} {base : Heap}
theorem kit_ii {K : PySem.W.Frag} : PySem.W.kitOne K (.type "int") (.type "int") = some true := kit_ty (by decide +kernel)
theorem kit_ib {K : PySem.W.Frag} : PySem.W.kitOne K (.type "int") (.type "bool") = some false := kit_ty (by decide +kernel)
theorem kit_tt {K : PySem.W.Frag} : PySem.W.kitOne K (.type "tuple") (.type "tuple") = some true := kit_ty (by decide +kernel)
theorem kit_ll {K : PySem.W.Frag} : PySem.W.kitOne K (.type "list") (.type "list") = some true := kit_ty (by decide +kernel)
theorem ty_list {H : Hp} {a : Addr} {xs : List V} (h : SqL K H a xs) : TyY K H (.ref a) (.type "list") := by
  rcases h with (h | ⟨o, h⟩) | ⟨o, its, n, hk, hc, _⟩
  · exact .base (.base (.lst h))
  · exact .base (.base (.frz h))
  · exact .base (.kList hk hc)
def spIsInt : Sp := fun vs H Q _ => ∃ v : Int, vs = [.int v] ∧ Q (.bl true) H
theorem ok_isint (D : Ds K) (T : Tx K mg) : FnOk P w K mg base CX0 1 (dis_integer.adr K) D.fd_is_integer ["value"] spIsInt := by
  refine D.F_is_integer.ok scis_integer (fun vs H Q E h => ?_) (fun cdv A outer s H vs Q E hr h => ?_)
  · obtain ⟨v, rfl, _⟩ := h
    rfl
  · obtain ⟨v, rfl, q⟩ := h
    refine ⟨_, PSs.nox (pss_one (ps_ret (pe_and (pe_callB call_isiY (by rfl) T.z_isinstance (by decide +kernel) (pa_cons (pv 0) (pa_cons (pe_bltn (v := .ty "int") (by rfl) T.z_int (by decide +kernel) rfl) pa_nil)))
      (pe_one (pe_not (pe_callB call_isiY (by rfl) T.z_isinstance (by decide +kernel) (pa_cons (pv 0) (pa_cons (pe_bltn (v := .ty "bool") (by rfl) T.z_bool (by decide +kernel) rfl) pa_nil)))))))), ?_⟩
    refine ⟨_, rfl, _, .ty "int", _, _, true, rfl, .ty "int", .base (.base (.int v)), kit_ii, true, rfl, iteT ?_⟩
    exact ⟨_, rfl, _, .ty "bool", _, _, false, rfl, .ty "bool", .base (.base (.int v)), kit_ib, false, rfl, q⟩
def spTupOf : Sp := fun vs H Q _ => ∃ (a : Addr) (xs : List V) (n : Int), vs = [.ref a, .int n] ∧ H a = some (.tup xs) ∧ Q (.bl (decide (V.int (xs.length : Int) = V.int n))) H
theorem ok_tupof (D : Ds K) (T : Tx K mg) : FnOk P w K mg base CX0 1 (dis_tuple_of.adr K) D.fd_is_tuple_of ["value", "many"] spTupOf := by
  refine D.F_is_tuple_of.ok scis_tuple_of (fun vs H Q E h => ?_) (fun cdv A outer s H vs Q E hr h => ?_)
  · obtain ⟨a, xs, n, rfl, _⟩ := h
    rfl
  · obtain ⟨a, xs, n, rfl, ea, q⟩ := h
    refine ⟨_, PSs.nox (pss_one (ps_ret (pe_and (pe_callB call_isiY (by rfl) T.z_isinstance (by decide +kernel) (pa_cons (pv 0) (pa_cons (pe_bltn (v := .ty "tuple") (by rfl) T.z_tuple (by decide +kernel) rfl) pa_nil)))
      (pe_one (pe_cmpR op_eq (pe_callB call_len_seq (by rfl) T.z_len PySem.boot_len (pa_cons (pv 0) pa_nil)) (pv 1) (nomark _)))))), ?_⟩
    refine ⟨_, rfl, _, .ty "tuple", _, _, true, rfl, .ty "tuple", .base (.base (.tup ea)), kit_tt, true, rfl, iteT ?_⟩
    exact ⟨_, rfl, a, _, rfl, .inr (tupT ea), _, rfl, rfl, q⟩
def spIsPt : Sp := fun vs H Q _ => ∃ (a : Addr) (x y : Int), vs = [.ref a] ∧ H a = some (.tup [.int x, .int y]) ∧ Q (.bl true) H
theorem ok_ispt (D : Ds K) (T : Tx K mg) : FnOk P w K mg base CX0 2 (dis_point.adr K) D.fd_is_point ["value"] spIsPt := by
  have G1 : FnOk P w K mg base CX0 1 _ _ _ spIsInt := ok_isint D T
  have G2 : FnOk P w K mg base CX0 1 _ _ _ spTupOf := ok_tupof D T
  refine D.F_is_point.ok scis_point (fun vs H Q E h => ?_) (fun cdv A outer s H vs Q E hr h => ?_)
  · obtain ⟨a, x, y, rfl, _⟩ := h
    rfl
  · obtain ⟨a, x, y, rfl, ea, q⟩ := h
    refine ⟨_, PSs.nox (pss_one (ps_ret (pe_and (pe_call G2 hr (by rfl) T.g_is_tuple_of D.F_is_tuple_of.kp (b_is_tuple_of D) .nil pass0 (pa_cons (pv 0) (pa_cons pe_int pa_nil)))
      (pe_and (pe_call G1 hr (by rfl) T.g_is_integer D.F_is_integer.kp (b_is_integer D) .nil pass0 (pa_cons (pe_ix ix_tup (pv 0) pe_int (fun _ _ => rfl)) pa_nil))
      (pe_one (pe_call G1 hr (by rfl) T.g_is_integer D.F_is_integer.kp (b_is_integer D) .nil pass0 (pa_cons (pe_ix ix_tup (pv 0) pe_int (fun _ _ => rfl)) pa_nil))))))), ?_⟩
    refine ⟨_, rfl, a, _, _, rfl, ea, true, by rfl, iteT ?_⟩
    refine ⟨_, rfl, a, _, 0, _, rfl, rfl, tupT ea, atI_nat (j := 0) rfl, x, rfl, true, rfl, iteT ?_⟩
    exact ⟨_, rfl, a, _, 1, _, rfl, rfl, tupT ea, atI_nat (j := 1) rfl, y, rfl, q⟩
def spIsIv : Sp := fun vs H Q _ => ∃ (a : Addr) (x y : Int), vs = [.ref a] ∧ H a = some (.tup [.int x, .int y]) ∧ Q (.bl (decide (x < y))) H
theorem ok_isiv (D : Ds K) (T : Tx K mg) : FnOk P w K mg base CX0 3 (d_is_interval.adr K) D.fd__is_interval ["value"] spIsIv := by
  have G : FnOk P w K mg base CX0 2 _ _ _ spIsPt := ok_ispt D T
  refine D.F__is_interval.ok sc_is_interval (fun vs H Q E h => ?_) (fun cdv A outer s H vs Q E hr h => ?_)
  · obtain ⟨a, x, y, rfl, _⟩ := h
    rfl
  · obtain ⟨a, x, y, rfl, ea, q⟩ := h
    refine ⟨_, PSs.nox (pss_one (ps_ret (pe_and (pe_call G hr (by rfl) T.g_is_point D.F_is_point.kp (b_is_point D) .nil pass0 (pa_cons (pv 0) pa_nil))
      (pe_one (pe_cmpR op_lt (pe_ix ix_tup (pv 0) pe_int (fun _ _ => rfl)) (pe_ix ix_tup (pv 0) pe_int (fun _ _ => rfl)) (nomark _)))))), ?_⟩
    refine ⟨_, rfl, a, _, _, rfl, ea, true, rfl, iteT ?_⟩
    exact ⟨_, rfl, a, _, 0, _, rfl, rfl, tupT ea, atI_nat (j := 0) rfl, _, rfl, a, _, 1, _, rfl, rfl, tupT ea, atI_nat (j := 1) rfl, _, _, rfl, rfl, q⟩
abbrev NC : List Str := Ncheck_intervals ++ [("interval" : Str)]
theorem scC : FnScope NC ["intervals"] (defScope scheck_intervals) := ⟨rfl, rfl, rfl, by decide +kernel, rfl, by decide +kernel, by decide +kernel⟩
def spCheck (K : PySem.W.Frag) : Sp := fun vs H Q _ => ∃ (a : Addr) (us : List V) (L : List Iv), vs = [.ref a] ∧ SqL K H a us ∧ Ivs H us L ∧ Fine L ∧ ∀ H', Same H H' → Q .non H'
theorem ok_check (D : Ds K) (T : Tx K mg) : FnOk P w K mg base CX0 4 (dcheck_intervals.adr K) D.fd_check_intervals ["intervals"] (spCheck K) := by
  have G : FnOk P w K mg base CX0 3 _ _ _ spIsIv := ok_isiv D T
  refine D.F_check_intervals.ok scC (fun vs H Q E h => ?_) (fun cdv A outer s H vs Q E hr h => ?_)
  · obtain ⟨a, us, L, rfl, _⟩ := h
    rfl
  · obtain ⟨a, us, L, rfl, ss, iv, fine, q⟩ := h
    have nd := scC.nd
    refine ⟨_, PSs.nox (pss_one (ps_if (PW.pt (pw_or (pt_not (pt_val (pe_callB call_isiY (by rfl) T.z_isinstance (by decide +kernel) (pa_cons (pv 0) (pa_cons (pe_bltn (v := .ty "list") (by rfl) T.z_list (by decide +kernel) rfl) pa_nil)))))
      (pw_or1 (pt_not (pt_val (pe_callB (cr_all rfl) (by rfl) T.z_all (by decide +kernel) (pa_cons (pe_lc (own := [(("interval" : Str), 1)]) (g := gName 1) (tt := tYes) (te := tCall spIsIv [] E0 (tCons (tVar 1) tNil)) rfl nd (pi_list (pv 0))
        (blkOk_by (own := [(("interval" : Str), 1)]) (N := NC) (sc := defScope scheck_intervals) (by decide +kernel)) (fun _ _ _ _ _ => pg_name (i := 1) nd rfl (Or.inl rfl)) (fun _ _ _ _ _ => pts_nil)
        (fun _ _ _ _ _ => pe_call G hr (by rfl) T.g__is_interval D.F__is_interval.kp (b__is_interval D) .nil pass0 (pa_cons (pv 1) pa_nil))) pa_nil))))))) (pss_one ps_never) pss_nil)), ?_⟩
    refine ⟨_, rfl, _, .ty "list", _, _, true, rfl, .ty "list", ty_list ss, kit_ll, true, rfl, iteF ?_⟩
    refine ⟨_, rfl, a, rfl, ⟨_, ss⟩, fun D1 hD => ?_⟩
    refine lc_list (K := K) (a := a) (xs := us) (fun n H' => Same H H' ∧ H' D1 = some (.lst ((List.replicate n true).map V.bl))) ⟨same_new hD, upd_same⟩ (fun n H' hi p => same_sql p.1 ss) (fun n x H' hx p => ?_) fun H' p => ?_
    · obtain ⟨s, eD⟩ := p
      obtain ⟨r, hr', t, rfl, et⟩ := iv.get hx
      have hn : n < us.length := (List.getElem?_eq_some_iff.mp hx).1
      refine ⟨rfl, _, rfl, t, r.1, r.2, rfl, s _ _ et, ?_⟩
      rw [decide_eq_true (fine.2 r (List.mem_of_getElem? hr')).1]
      refine ⟨_, eD, ?_, ?_, ?_⟩
      · rw [List.length_map, List.length_replicate]
        have h1 := fine.1
        have h2 := iv.len
        exact Nat.lt_of_lt_of_le (show n < 901 by omega) (by decide)
      · intro b o h
        rw [upd_ne (ne_of_none h hD)]
        exact s _ _ h
      · rw [upd_same, List.replicate_succ', List.map_append]
        rfl
    · obtain ⟨s, eD⟩ := p
      refine ⟨D1, _, rfl, lstL eD, true, by rw [show (List.replicate us.length true).all id = true from by simp [List.all_replicate]], iteF ?_⟩
      exact q _ s
end
end K21

set_option Elab.async false
set_option linter.all false
set_option maxRecDepth 100000
set_option maxHeartbeats 4000000
set_option exponentiation.threshold 600
namespace K21
open PySem PySem.Spec PyProof.Rows L2 RT SM
abbrev NO : List Str := Nodd_pieces ++ [("interval" : Str), ("end" : Str)]
theorem scO : FnScope NO ["intervals"] (defScope sodd_pieces) := ⟨rfl, rfl, rfl, by decide +kernel, rfl, by decide +kernel, by decide +kernel⟩
/-- every second end with the one behind it -/
def EvPieces (L : List Iv) (M : List Iv) : Prop := ∃ es : List Int, es.Perm (endsOf L) ∧ es.Pairwise (· ≤ ·) ∧ M = (ev es).zip (ev es.tail)
def spOddPieces (K : PySem.W.Frag) : Sp := fun vs H Q _ => ∃ (a : Addr) (us : List V) (L : List Iv), vs = [.ref a] ∧ SqL K H a us ∧ Ivs H us L ∧ Fine L ∧ ∀ (H' : Hp) (p : Addr) (ts : List V) (M : List Iv), Same H H' → H' p = some (.lst ts) → Ivs H' ts M → EvPieces L M → Q (.ref p) H'
theorem ivs_of_get {H : Hp} : ∀ {ts : List Addr} {M : List Iv}, ts.length = M.length → (∀ (j : Nat) (t : Addr) (q : Iv), ts[j]? = some t → M[j]? = some q → H t = some (.tup [.int q.1, .int q.2])) → Ivs H (ts.map V.ref) M
  | [], [], _, _ => .nil
  | [], _ :: _, h, _ => by cases h
  | _ :: _, [], h, _ => by cases h
  | t :: ts, q :: M, h, f => .cons ⟨t, rfl, f 0 t q rfl rfl⟩ (ivs_of_get (Nat.succ.inj h) fun j t' q' h1 h2 => f (j + 1) t' q' h1 h2)
section
variable {P : Program} {w : World} {K : PySem.W.Frag} {mg : Str → Option Value} {base : Heap}
theorem ok_oddpieces (D : Ds K) (T : Tx K mg) : FnOk P w K mg base CX0 1 (dodd_pieces.adr K) D.fd_odd_pieces ["intervals"] (spOddPieces K) := by
  refine D.F_odd_pieces.ok scO (fun vs H Q E h => ?_) (fun cdv A outer s H vs Q E hr h => ?_)
  · obtain ⟨a, us, L, rfl, _⟩ := h
    rfl
  · obtain ⟨a, us, L, rfl, ss, iv, fine, q⟩ := h
    have nd := scO.nd
    have hn := fine.1
    refine ⟨_, PSs.nox (pss_cons (ps_set (i := 1) nd rfl (.inl rfl) (pe_callB cr_sortedI (by rfl) T.z_sorted (by decide +kernel) (pa_cons
          (pe_lc2 (own := [(("interval" : Str), 2), (("end" : Str), 3)]) (vs1 := [3]) (g := gName 2) (tt := tYes) (wi1 := iTup K (tVar 2)) (g1 := gName 3) (tt1 := tYes) (te := tVar 3) rfl nd (pi_list (pv 0))
            (blkOk_by (own := [(("interval" : Str), 2), (("end" : Str), 3)]) (N := NO) (sc := defScope sodd_pieces) (by decide +kernel)) (by decide) (fun _ _ _ _ _ => pg_name (i := 2) nd rfl (Or.inl rfl)) (fun _ _ _ _ _ => pts_nil)
            (fun _ _ _ _ _ => pi_tup (pv 2)) (fun _ _ _ _ _ => pg_name (i := 3) nd rfl (Or.inl rfl)) (fun _ _ _ _ _ => pts_nil) (fun _ _ _ _ _ => pv 3)) pa_nil)))
      (pss_one (ps_ret (pe_listZip rfl (by rfl) T.z_list (by rfl) T.z_zip (pa_cons (pe_step (pv 1) po_none po_none (po_some pe_int)) (pa_cons (pe_step (pv 1) (po_some pe_int) po_none (po_some pe_int)) pa_nil)))))), ?_⟩
    have hl := iv.len
    refine ⟨_, rfl, a, rfl, ⟨_, ss⟩, fun D1 hD => ?_⟩
    have sD : ∀ {H' : Hp} {o : HO}, Same H H' → Same H (upd H' D1 o) := fun {H' o} s b u h => by
      rw [upd_ne (ne_of_none h hD)]
      exact s b u h
    have hs : ∀ i : Nat, i < us.length → ∃ (p : Iv) (t : Addr), L[i]? = some p ∧ us[i]? = some (.ref t) ∧ H t = some (.tup [.int p.1, .int p.2]) := fun i hi => by
      obtain ⟨p, hp, t, et, ht⟩ := iv.get (List.getElem?_eq_getElem hi)
      exact ⟨p, t, hp, by rw [List.getElem?_eq_getElem hi, et], ht⟩
    refine ⟨fun i m H' => m = us.length - i ∧ i ≤ us.length ∧ Same H H' ∧ H' D1 = some (.lst ((endsOf (L.take i)).map V.int)), ⟨us.length, by simp, Nat.zero_le _, sD fun _ _ h => h, upd_same⟩, ?_⟩
    rintro i m H2 ⟨rfl, hi, s2, e2⟩
    have ss2 := same_sql s2 ss
    by_cases hlt : i < us.length
    · obtain ⟨p, t, hp, ht, et⟩ := hs i hlt
      have el : (endsOf (L.take i)).length = 2 * i := by rw [endsOf_len, List.length_take, Nat.min_eq_left (by omega)]
      refine .inr ⟨(walk_list (xs := us)).goes i H2 hlt ss2, fun H' => Same H H' ∧ H' D1 = some (.lst ((endsOf (L.take (i + 1))).map V.int)), fun H' h => ⟨us.length - (i + 1), by omega, rfl, hlt, h⟩, fun x H' y => ?_⟩
      obtain ⟨rfl, hx⟩ := (walk_list (xs := us)).yields i H2 x H' hlt ss2 y
      rw [ht] at hx
      cases hx
      refine ⟨rfl, _, rfl, t, rfl, ⟨_, tupT (s2 _ _ et)⟩, ?_⟩
      have tk : endsOf (L.take (i + 1)) = endsOf (L.take i) ++ [p.1, p.2] := by
        rw [List.take_succ, hp]
        unfold endsOf
        rw [List.flatMap_append]
        rfl
      refine ⟨fun j k H3 => k = 2 - j ∧ j ≤ 2 ∧ Same H H3 ∧ H3 D1 = some (.lst ((endsOf (L.take i) ++ [p.1, p.2].take j).map V.int)), ⟨2, rfl, by decide, s2, by rw [List.take_zero, List.append_nil]; exact e2⟩, ?_⟩
      rintro j k H3 ⟨rfl, hj, s3, e3⟩
      have st3 : SqT K H3 t ([p.1, p.2].map V.int) := tupT (s3 _ _ et)
      by_cases hj2 : j < 2
      · refine .inr ⟨(walk_tup (xs := [p.1, p.2].map V.int)).goes j H3 hj2 st3, fun H' => Same H H' ∧ H' D1 = some (.lst ((endsOf (L.take i) ++ [p.1, p.2].take (j + 1)).map V.int)), fun H' h => ⟨2 - (j + 1), by omega, rfl, hj2, h⟩, fun x H' y => ?_⟩
        obtain ⟨rfl, hx⟩ := (walk_tup (xs := [p.1, p.2].map V.int)).yields j H3 x H' hj2 st3 y
        rw [List.getElem?_map] at hx
        obtain ⟨n, hn2, rfl⟩ := Option.map_eq_some_iff.mp hx
        refine ⟨rfl, _, rfl, _, e3, ?_, sD s3, ?_⟩
        · rw [List.length_map, List.length_append, List.length_take, el]
          exact Nat.lt_of_lt_of_le (show 2 * i + min j 2 < 2000 by omega) (by decide)
        · simp only [upd_same, List.take_succ, hn2, List.map_append, List.append_assoc, Option.toList, List.map_cons, List.map_nil]
      · have ej : j = 2 := by omega
        subst ej
        exact .inl ⟨(walk_tup (xs := [p.1, p.2].map V.int)).stops H3 st3, s3, by rw [tk]; exact e3⟩
    · have ei : i = us.length := by omega
      subst ei
      rw [hl, List.take_length] at e2
      refine .inl ⟨(walk_list (xs := us)).stops H2 ss2, ?_⟩
      refine ⟨D1, endsOf L, rfl, lstL e2, fun es p1 hperm hsort hp1 => ?_⟩
      have s3 := same_new (o := .lst (es.map V.int)) hp1
      have e3 : upd H2 p1 (.lst (es.map V.int)) p1 = some (.lst (es.map V.int)) := upd_same
      have even : es.length % 2 = 0 := by
        rw [hperm.length_eq, endsOf_len]
        omega
      have few : es.length ≤ 1800 := by
        rw [hperm.length_eq, endsOf_len]
        omega
      refine ⟨_, rfl, p1, _, rfl, 2, rfl, by decide, lstL e3, fun p2 hp2 => ?_⟩
      have s4 := same_new (o := .lst (pickV (es.map V.int) none none (some 2))) hp2
      refine ⟨_, rfl, p1, _, rfl, 1, rfl, 2, rfl, by decide, lstL (s4 _ _ e3), fun p3 hp3 => ?_⟩
      have s5 := same_new (o := .lst (pickV (es.map V.int) (some 1) none (some 2))) hp3
      have q2 : pickV (es.map V.int) none none (some 2) = (ev es).map V.int := by rw [pick_ev, ev_map]
      have q3 : pickV (es.map V.int) (some 1) none (some 2) = (ev es.tail).map V.int := by rw [pick_od, ← List.map_tail, ev_map]
      rw [q2] at s4 hp3 s5 ⊢
      rw [q3] at s5 ⊢
      have sX := s3.trans (s4.trans s5)
      refine ⟨p2, p3, _, _, rfl, lstL (s5 _ _ upd_same), lstL upd_same, fun H9 p9 ts k1 k2 k3 k4 k5 k6 k7 => ?_⟩
      have ez : ((ev es).map V.int).zip ((ev es.tail).map V.int) = ((ev es).zip (ev es.tail)).map (Prod.map V.int V.int) := List.zip_map ..
      rw [ez] at k6 k7
      refine q H9 p9 _ ((ev es).zip (ev es.tail)) (s2.trans (sX.trans k1)) k5 (ivs_of_get (by rw [k6, List.length_map]) fun j t r h1 h2 => ?_) ⟨es, hperm, hsort, rfl⟩
      exact k7 j t (V.int r.1, V.int r.2) h1 (by rw [List.getElem?_map, h2]; rfl)
abbrev NQ : List Str := Ncount_odd_in ++ [("start" : Str), ("end" : Str)]
theorem scQ : FnScope NQ ["intervals"] (defScope scount_odd_in) := ⟨rfl, rfl, rfl, by decide +kernel, rfl, by decide +kernel, by decide +kernel⟩
theorem zip_sum : ∀ (xs ys : List Int), ((xs.zip ys).map fun p => p.2 - p.1) = List.zipWith (fun a b => b - a) xs ys
  | [], _ => rfl
  | _ :: _, [] => rfl
  | x :: xs, y :: ys => by
    show (y - x) :: ((xs.zip ys).map fun p => p.2 - p.1) = (y - x) :: List.zipWith (fun a b => b - a) xs ys
    rw [zip_sum xs ys]
theorem filter_true' {α : Type} (l : List α) : (l.filter fun _ => true) = l := List.filter_eq_self.mpr fun _ _ => rfl
theorem ok_oddin (D : Ds K) (T : Tx K mg) : FnOk P w K mg base CX0 2 (dcount_odd_in.adr K) D.fd_count_odd_in ["intervals"] (spSpan K OddOf) := by
  have G : FnOk P w K mg base CX0 1 _ _ _ (spOddPieces K) := ok_oddpieces D T
  refine D.F_count_odd_in.ok scQ (fun vs H Q E h => ?_) (fun cdv A outer s H vs Q E hr h => ?_)
  · obtain ⟨a, us, L, rfl, _⟩ := h
    rfl
  · obtain ⟨a, us, L, rfl, ss, iv, fine, q⟩ := h
    have nd := scQ.nd
    have hn := fine.1
    refine ⟨_, PSs.nox (pss_one (ps_ret (pe_callB (cr_sum rfl) (by rfl) T.z_sum (by decide +kernel) (pa_cons
          (pe_lc (own := [(("start" : Str), 1), (("end" : Str), 2)]) (g := gTup K 2 (gCons (gName 1) (gCons (gName 2) gNil))) (tt := tYes) (te := tOp (rI0 fun i j => .int (i - j)) (tVar 2) (tVar 1)) rfl nd
            (pi_list (pe_call G hr (by rfl) T.g_odd_pieces D.F_odd_pieces.kp (b_odd_pieces D) .nil pass0 (pa_cons (pv 0) pa_nil)))
            (blkOk_by (own := [(("start" : Str), 1), (("end" : Str), 2)]) (N := NQ) (sc := defScope scount_odd_in) (by decide +kernel))
            (fun _ _ _ _ _ => pg_tup rfl (pgs_cons (pg_name (i := 1) nd rfl (Or.inl rfl)) (pgs_cons (pg_name (i := 2) nd rfl (Or.inl rfl)) pgs_nil))) (fun _ _ _ _ _ => pts_nil) (fun _ _ _ _ _ => pe_op op_sub (pv 2) (pv 1))) pa_nil)))), ?_⟩
    refine ⟨_, rfl, a, us, L, rfl, ss, iv, fine, fun H1 p ts M s1 e1 ivM pc => ?_⟩
    obtain ⟨es, hperm, hsort, rfl⟩ := pc
    have evl : ∀ l : List Int, (ev l).length ≤ l.length := fun l => by
      induction l using ev.induct with
      | case1 => exact Nat.le_refl _
      | case2 x => exact Nat.le_refl _
      | case3 x y r ih =>
        show (ev r).length + 1 ≤ r.length + 1 + 1
        omega
    have few : es.length ≤ 1800 := by
      rw [hperm.length_eq, endsOf_len]
      omega
    have even : es.length % 2 = 0 := by
      rw [hperm.length_eq, endsOf_len]
      omega
    have many : ((ev es).zip (ev es.tail)).length ≤ 2000 := by
      have := evl es
      rw [List.length_zip]
      omega
    refine ⟨p, rfl, ⟨_, lstL e1⟩, fun p6 hp6 => lc_ivs (us := ts) (fun _ => true) (fun p => p.2 - p.1) (lstL e1) ivM many hp6 (fun x y => rfl) (fun p H' Q _ _ h => h) (fun p H' Q _ _ h => ⟨_, rfl, _, rfl, _, _, rfl, rfl, h⟩) fun H8 s8 e8 => ?_⟩
    refine ⟨p6, _, rfl, lstL e8, ?_⟩
    refine q _ _ (s1.trans s8) ?_
    rw [filter_true', zip_sum, alt_zip es even]
    exact odd_alt (fun p hp => (fine.2 p hp).1) hperm hsort
theorem ok_odd (D : Ds K) (T : Tx K mg) : FnOk P w K mg base CX0 5 (dodd_covered.adr K) D.fd_odd_covered ["intervals"] (spSpan K OddOf) := by
  have G : FnOk P w K mg base CX0 4 _ _ _ (spCheck K) := ok_check D T
  have G2 : FnOk P w K mg base CX0 2 _ _ _ (spSpan K OddOf) := ok_oddin D T
  refine D.F_odd_covered.ok scodd_covered (fun vs H Q E h => ?_) (fun cdv A outer s H vs Q E hr h => ?_)
  · obtain ⟨a, us, L, rfl, _⟩ := h
    rfl
  · obtain ⟨a, us, L, rfl, ss, iv, fine, q⟩ := h
    refine ⟨_, PSs.nox (pss_cons (ps_expr (pe_call G hr (by rfl) T.g_check_intervals D.F_check_intervals.kp (b_check_intervals D) .nil pass0 (pa_cons (pv 0) pa_nil)))
      (pss_one (ps_ret (pe_call G2 (hr.mono (by decide)) (by rfl) T.g_count_odd_in D.F_count_odd_in.kp (b_count_odd_in D) .nil pass0 (pa_cons (pv 0) pa_nil))))), ?_⟩
    refine ⟨_, rfl, a, us, L, rfl, ss, iv, fine, fun H1 s1 => ?_⟩
    exact ⟨_, rfl, a, us, L, rfl, same_sql s1 ss, iv.same s1, fine, fun v H' s' h => q v H' (s1.trans s') h⟩
end
end K21

set_option Elab.async false
set_option linter.all false
set_option maxRecDepth 100000
set_option maxHeartbeats 4000000
set_option exponentiation.threshold 600
namespace K21
open PySem PySem.Spec PyProof.Rows L2 RT SM
theorem ite_t' {c : Bool} {A B : Prop} (e : c = true) (h : A) : if c = true then A else B := by
  rw [e]
  exact iteT h
/-- the two ints of a pair -/
def pairAt (H : Hp) : V → Int × Int
  | .ref t => match H t with
    | some (.tup [.int i, .int j]) => (i, j)
    | _ => (0, 0)
  | _ => (0, 0)
theorem pairAt_of {H : Hp} {v : V} {p : Iv} (h : IvAt H v p) : pairAt H v = p := by
  obtain ⟨t, rfl, e⟩ := h
  show (match H t with
    | some (.tup [.int i, .int j]) => (i, j)
    | _ => (0, 0)) = p
  rw [e]
theorem ivs_map {H : Hp} : ∀ {us : List V} {L : List Iv}, Ivs H us L → L = us.map (pairAt H)
  | _, _, .nil => rfl
  | _, _, .cons h r => by rw [List.map_cons, pairAt_of h, ← ivs_map (H := H) r]
theorem ivs_all {H : Hp} : ∀ {us : List V} {L : List Iv}, Ivs H us L → ∀ x ∈ us, ∃ t, x = .ref t ∧ H t = some (.tup [.int (pairAt H x).1, .int (pairAt H x).2])
  | _, _, .cons h r, x, hx => by
    rcases List.mem_cons.mp hx with rfl | hx
    · have e := pairAt_of h
      obtain ⟨t, rfl, h⟩ := h
      exact ⟨t, rfl, by rw [e]; exact h⟩
    · exact ivs_all (H := H) r x hx
theorem ivs_of_all {H : Hp} : ∀ {ys : List V}, (∀ x ∈ ys, ∃ t, x = .ref t ∧ H t = some (.tup [.int (pairAt H x).1, .int (pairAt H x).2])) → Ivs H ys (ys.map (pairAt H))
  | [], _ => .nil
  | y :: ys, h => .cons (h y (List.mem_cons_self ..)) (ivs_of_all fun x hx => h x (List.mem_cons_of_mem _ hx))
section
variable {P : Program} {w : World} {K : PySem.W.Frag} {mg : Str → Option Value} {base : Heap}
theorem ok_covin (D : Ds K) (T : Tx K mg) : FnOk P w K mg base CX0 1 (dcount_covered_in.adr K) D.fd_count_covered_in ["intervals"] (spSpan K CovOf) := by
  refine D.F_count_covered_in.ok sccount_covered_in (fun vs H Q E h => ?_) (fun cdv A outer s H vs Q E hr h => ?_)
  · obtain ⟨a, us, L, rfl, _⟩ := h
    rfl
  · obtain ⟨a, us, L, rfl, ss, iv, fine, q⟩ := h
    have nd := sccount_covered_in.nd
    have hn := fine.1
    refine ⟨_, PSs.nox (pss_cons (ps_set (i := 1) nd rfl (.inl rfl) pe_int)
      (pss_cons (ps_set (i := 2) nd rfl (.inl rfl) pe_non)
      (pss_cons (ps_for PassesOwn.never rfl (pi_list (pe_callB cr_sortedPO (by rfl) T.z_sorted (by decide +kernel) (pa_cons (pv 0) pa_nil))) (pg_tup rfl (pgs_cons (pg_name (i := 3) nd rfl (.inl rfl)) (pgs_cons (pg_name (i := 4) nd rfl (.inl rfl)) pgs_nil)))
          (pss_cons (ps_set (i := 5) nd rfl (.inl rfl) (pe_ifExp (pt_cmpR op_isN (pv 2) pe_non (nomark _)) (pv 3) (pe_callB (call_max2 rfl) (by rfl) T.z_max (by decide +kernel) (pa_cons (pv 3) (pa_cons (pv 2) pa_nil)))))
          (pss_one (ps_if (pt_cmpR op_lt (pv 5) (pv 4) (nomark _)) (pss_cons (ps_set (i := 1) nd rfl (.inl rfl) (pe_op op_sub (pe_op op_add (pv 1) (pv 4)) (pv 5))) (pss_one (ps_set (i := 2) nd rfl (.inl rfl) (pv 4)))) pss_nil))))
      (pss_one (ps_ret (pv 1)))))), ?_⟩
    have eL := ivs_map iv
    have al := ivs_all iv
    refine ⟨_, rfl, a, us, pairAt H, rfl, ss, al, fun ys p srt stb hp => ?_⟩
    obtain ⟨M, eM⟩ : ∃ M, M = ys.map (pairAt H) := ⟨_, rfl⟩
    have perm : M.Perm L := by
      rw [eM, eL]
      exact stb.perm.map _
    have ivM : Ivs H ys M := by
      rw [eM]
      exact ivs_of_all fun x hx => al x (stb.perm.mem_iff.mp hx)
    have sM : M.Pairwise fun p q => p.1 ≤ q.1 := by
      rw [eM, List.pairwise_map]
      refine List.Pairwise.imp (fun {x y} h => ?_) srt
      have := SrtO.lexB_no.mp h
      omega
    have fM : ∀ p ∈ M, p.1 < p.2 := fun p hp => (fine.2 p (perm.mem_iff.mp hp)).1
    have sp := same_new (o := .lst ys) hp
    have ep : upd H p (.lst ys) p = some (.lst ys) := upd_same
    have ivP := ivM.same sp
    have s2 := sp
    generalize upd H p (.lst ys) = H2 at ep ivP s2 ⊢
    clear sp hp srt stb al eL eM ivM
    have hl := ivP.len
    refine ⟨p, rfl, ⟨_, lstL ep⟩, for_list (xs := ys) (fun i σ H' => ∃ (v : Int) (zb : V) (z3 z4 z5 : Option V), Same H2 H' ∧ CovOf (M.take i) v ∧ ((i = 0 ∧ zb = .non) ∨ ∃ b : Int, zb = .int b ∧ (∃ q ∈ M.take i, q.2 = b) ∧ ∀ q ∈ M.take i, q.2 ≤ b) ∧ σ = [some (.ref a), some (.int v), some zb, z3, z4, z5])
      ⟨0, .non, _, _, _, fun _ _ h => h, cov_zero, .inl ⟨rfl, rfl⟩, rfl⟩ (fun i σ H' hi hp' => ?_) (fun i x σ H' hx hp' => ?_) fun σ H' hp' => ?_⟩
    · obtain ⟨v, zb, z3, z4, z5, sm, _⟩ := hp'
      exact lstL (sm _ _ ep)
    · obtain ⟨v, zb, z3, z4, z5, sm, cv, hzb, rfl⟩ := hp'
      obtain ⟨r, hr', t, rfl, et⟩ := ivP.get hx
      have rM : r ∈ M := List.mem_of_getElem? hr'
      have r12 := fM r rM
      have tk : M.take (i + 1) = M.take i ++ [r] := by rw [List.take_succ, hr']; rfl
      have before : ∀ q ∈ M.take i, q.1 ≤ r.1 := fun q hq => by
        have h2 : (M.take i ++ [r]).Pairwise fun p q => p.1 ≤ q.1 := by
          rw [← tk]
          exact List.Pairwise.sublist (List.take_sublist _ _) sM
        exact (List.pairwise_append.mp h2).2.2 q hq r (List.mem_singleton.mpr rfl)
      refine ⟨t, _, rfl, tupT (sm _ _ et), rfl, _, _, rfl, _, _, rfl, rfl, ?_⟩
      dsimp only [List.set_cons_zero, List.set_cons_succ]
      -- what lies behind
      have go : ∀ b : Int, r.1 ≤ b → (∀ q ∈ M.take i, q.2 ≤ b) → (∀ x, r.1 ≤ x → x < b → pos (M.take i) x = true) → (b < r.2 ∨ ∃ q ∈ M.take i, q.2 = b) →
          (b < r.2 → CovOf (M.take (i + 1)) (v + r.2 - b) ∧ (∃ q ∈ M.take (i + 1), q.2 = r.2) ∧ ∀ q ∈ M.take (i + 1), q.2 ≤ r.2) ∧ (¬ b < r.2 → CovOf (M.take (i + 1)) v ∧ (∃ q ∈ M.take (i + 1), q.2 = b) ∧ ∀ q ∈ M.take (i + 1), q.2 ≤ b) := fun b h1 h2 h3 h4 => by
        rw [tk]
        refine ⟨fun h => ⟨?_, ⟨r, List.mem_append.mpr (.inr (List.mem_singleton.mpr rfl)), rfl⟩, fun q hq => ?_⟩, fun h => ⟨cov_less cv h3 (by omega), ?_, fun q hq => ?_⟩⟩
        · rw [Int.add_sub_assoc]
          exact cov_more cv h1 h2 h3 h
        · rcases List.mem_append.mp hq with hq | hq
          · have := h2 q hq
            omega
          · rw [List.mem_singleton.mp hq]
            exact Int.le_refl _
        · rcases h4 with h4 | ⟨q, hq, e⟩
          · exact absurd h4 h
          · exact ⟨q, List.mem_append.mpr (.inl hq), e⟩
        · rcases List.mem_append.mp hq with hq | hq
          · exact h2 q hq
          · rw [List.mem_singleton.mp hq]
            omega
      rcases hzb with ⟨i0, rfl⟩ | ⟨bb, rfl, hq1, hq2⟩
      · have g := go r.1 (Int.le_refl _) (fun q hq => by rw [i0] at hq; cases hq) (fun x p q => absurd p (by omega)) (.inl r12)
        refine ⟨_, rfl, rfl, _, rfl, ite_t' (decide_eq_true rfl) ⟨_, rfl, ?_⟩⟩
        refine ⟨_, rfl, _, rfl, _, _, rfl, rfl, _, rfl, ?_⟩
        refine ite_t' (decide_eq_true r12) ⟨_, rfl, _, rfl, _, _, rfl, rfl, _, rfl, _, _, rfl, rfl, _, rfl, ?_⟩
        have k := g.1 r12
        exact ⟨_, _, _, _, _, sm, k.1, .inr ⟨_, rfl, k.2⟩, rfl⟩
      · refine ⟨_, rfl, rfl, _, rfl, ite_f (decide_eq_false fun z => nomatch z) ⟨_, rfl, _, rfl, _, _, rfl, ?_⟩⟩
        by_cases hs : bb > r.1
        · have g := go bb (by omega) hq2 (fun x p q => by
            obtain ⟨y, hy, e⟩ := hq1
            have := before y hy
            exact decide_eq_true ((held_pos _ x).mpr ⟨y, hy, by omega, by omega⟩)) (.inr hq1)
          rw [if_pos hs]
          refine ⟨_, rfl, _, rfl, _, _, rfl, rfl, _, rfl, ?_⟩
          by_cases hb : bb < r.2
          · have k := g.1 hb
            refine ite_t' (decide_eq_true hb) ⟨_, rfl, _, rfl, _, _, rfl, rfl, _, rfl, _, _, rfl, rfl, _, rfl, ?_⟩
            exact ⟨_, _, _, _, _, sm, k.1, .inr ⟨_, rfl, k.2⟩, rfl⟩
          · have k := g.2 hb
            refine ite_f (decide_eq_false hb) ?_
            exact ⟨_, _, _, _, _, sm, k.1, .inr ⟨_, rfl, k.2⟩, rfl⟩
        · have g := go r.1 (Int.le_refl _) (fun q hq => by have := hq2 q hq; omega) (fun x p q => absurd p (by omega)) (.inl r12)
          rw [if_neg hs]
          refine ⟨_, rfl, _, rfl, _, _, rfl, rfl, _, rfl, ?_⟩
          have k := g.1 r12
          refine ite_t' (decide_eq_true r12) ⟨_, rfl, _, rfl, _, _, rfl, rfl, _, rfl, _, _, rfl, rfl, _, rfl, ?_⟩
          exact ⟨_, _, _, _, _, sm, k.1, .inr ⟨_, rfl, k.2⟩, rfl⟩
    · obtain ⟨v, zb, z3, z4, z5, sm, cv, hzb, rfl⟩ := hp'
      rw [hl, List.take_length] at cv
      exact ⟨_, rfl, q v H' (s2.trans sm) (cov_same (fun p => (perm.mem_iff (a := p))) cv)⟩
theorem ok_cov (D : Ds K) (T : Tx K mg) : FnOk P w K mg base CX0 5 (dcovered.adr K) D.fd_covered ["intervals"] (spSpan K CovOf) := by
  have G : FnOk P w K mg base CX0 4 _ _ _ (spCheck K) := ok_check D T
  have G2 : FnOk P w K mg base CX0 1 _ _ _ (spSpan K CovOf) := ok_covin D T
  refine D.F_covered.ok sccovered (fun vs H Q E h => ?_) (fun cdv A outer s H vs Q E hr h => ?_)
  · obtain ⟨a, us, L, rfl, _⟩ := h
    rfl
  · obtain ⟨a, us, L, rfl, ss, iv, fine, q⟩ := h
    refine ⟨_, PSs.nox (pss_cons (ps_expr (pe_call G hr (by rfl) T.g_check_intervals D.F_check_intervals.kp (b_check_intervals D) .nil pass0 (pa_cons (pv 0) pa_nil)))
      (pss_one (ps_ret (pe_call G2 (hr.mono (by decide)) (by rfl) T.g_count_covered_in D.F_count_covered_in.kp (b_count_covered_in D) .nil pass0 (pa_cons (pv 0) pa_nil))))), ?_⟩
    refine ⟨_, rfl, a, us, L, rfl, ss, iv, fine, fun H1 s1 => ?_⟩
    exact ⟨_, rfl, a, us, L, rfl, same_sql s1 ss, iv.same s1, fine, fun v H' s' h => q v H' (s1.trans s') h⟩
end
end K21

set_option Elab.async false
set_option linter.all false
set_option maxRecDepth 100000
set_option maxHeartbeats 0
namespace K21
open PySem PySem.Spec PyProof.Rows L2 RT SM
theorem FnOk.lift {P : Program} {w : World} {K : PySem.W.Frag} {mg : Str → Option Value} {base : Heap} {CX : CXT} {k m : Nat} {f : Addr} {fd : FuncData} {ps : List Str} {sp : Sp} (F : FnOk P w K mg base CX k f fd ps sp) (h : k ≤ m) : FnOk P w K mg base CX m f fd ps sp :=
  ⟨F.len, fun A outer s H args us vs Q E hr => F.run A outer s H args us vs Q E (hr.mono h)⟩
theorem spans {P : Program} {w : World} {K : PySem.W.Frag} {mg : Str → Option Value} {base : Heap} (D : Ds K) (T : Tx K mg) : Nonempty (Spans P w K mg base) :=
  ⟨{ cov := ⟨_, D.fd_covered, _, T.g_covered, D.F_covered.kp, FnOk.lift (ok_cov D T) (by decide), b_covered D⟩
     odd := ⟨_, D.fd_odd_covered, _, T.g_odd_covered, D.F_odd_covered.kp, FnOk.lift (ok_odd D T) (by decide), b_odd_covered D⟩ }⟩
end K21
open PySem PySem.W PySem.Calls PyProof.Rows
theorem PySem.Challenge.cw_plotpens_k21_windows_of_numbers_holds : PySem.Challenge.rw_plotpens_k21_windows_of_numbers.Holds := by
  w_on; o_law
  refine HandSHeadRun.head_any (r := OpenLaw.row PySem.Challenge.rw_plotpens_k21_windows_of_numbers) (q := view (OpenLaw.row PySem.Challenge.rw_plotpens_k21_windows_of_numbers).prog [20]) (H := K21.hk) (ob := K21.ob) (M := 12000) (loose := K21.names) (d := HandSHeadRun.topDef (OpenLaw.row PySem.Challenge.rw_plotpens_k21_windows_of_numbers).prog 20) (kwd := []) K21.ob_eq
    (by kernel_rfl) (fun s => by kernel_rfl) K21.run (by kernel_rfl) (by kernel_rfl) (by kernel_rfl) (by rfl) (by first | assumption | decide +kernel) (by decide +kernel) ⟨rfl, rfl, rfl, rfl, rfl, by decide +kernel⟩ ?hw ?hc
  case hw => w_witness2
  case hc =>
    refine RT.walk_ofG (l := PySem.Challenge.rw_plotpens_k21_windows_of_numbers) (n := 63) (k := 14) (x := "script") (CX := fun _ => L2.CX0) rfl (by decide) (by kernel_rfl) ⟨rfl, by decide, by decide⟩ ?F (fun _ _ _ _ _ z => z)
    intro w mg fa h Y G hmg0
    obtain ⟨K, KX, c⟩ := Y
    have hmg : mg ("law" : PySem.Str) = some (.ref fa) := by
      have e : (HandSHeadRun.topDef (OpenLaw.row PySem.Challenge.rw_plotpens_k21_windows_of_numbers).prog 20).name = ("law" : PySem.Str) := by kernel_rfl
      rw [← e]
      exact hmg0
    have T := K21.tx_of KX G c
    obtain ⟨D⟩ := K21.ds_of c
    have e := hmg.symm.trans T.g_law
    cases e
    have b := L2.FunD.bindsA (ps := ["script"]) D.F_law fun _ _ _ _ _ _ us hl => match us, hl with | [_], _ => rfl
    exact ⟨K, D.fd_law, K21.spLaw K, KX, fun s v => b s [v] rfl, fun H a ns hl _ hS => ⟨a, ns, rfl, hS, fun _ => rfl⟩, fun base _ _ => by
      obtain ⟨M⟩ := K21.spans (P := PySem.Challenge.rw_plotpens_k21_windows_of_numbers.prog) (w := w) (base := base) D T
      exact RT.FnG.of (K21.ok_law D T M)⟩
