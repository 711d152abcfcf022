import PyProof.Rows.All
import Wide.All
import OpenK.AllK
import Wide.FinOn
import HandS.ForMost
import HandS.Exc
import HandS.ExcCtx
import HandS.TryOnly
import HandS.ExcInit
import HandS.IsInst
import HandS.ExcIs
import HandS.ExcField
import HandS.SortKw
import HandS.FStr
import HandS.Wide
import KE.DataMinMax
import PyProof.StrBlock2
import PyProof.Rows.RuleB_pow
import HandS.SlotsOwn
import HandS.Property
import HandS.OwnEq
import KE.KOpsOwn
import OpenK.KOps
import HandS.WordsExc
import HandS.Defaults
import HandS.EndBits
import KE.KStateDown
import Lean
import HandS.Head0
import HandS.Head1
import HandS.Head2
import HandS.HeadEnd
import HandS.HeadHook1
import HandS.HeadHook2
import HandS.SetFor
import HandS.StrMore
import HandS.Style
import HandS.Iter
import HandS.Comp
import HandS.TupAny
import PyProof.Gen
import PyProof.GenQ
import PyProof.Ends
import HandS.Call
import HandS.GenYield
import HandS.GenList
import HandS.GenBody
import PyProof.CollectWalk
import PyProof.JoinWalk
import HandS.JoinGen
import Open.Head
import PyProof.ListNew
import PyProof.ZipIter
import PyProof.RangeIter
import HandS.Zip
import HandS.List
import HandS.More
import PyProof.ListStr
import PyProof.Rows.RegReprOcc
import HandS.RaiseMore
import HandS.Walk
import PyProof.LongRange
import PySem.Challenge.RW_plotpens_k05_steps_of_programs
set_option Elab.async false
set_option linter.all false
set_option maxRecDepth 100000
set_option maxHeartbeats 4000000
/-! a try whose clause keeps the exception: behind it the exception stands tracked -/
namespace RT
open PySem PySem.Spec PyProof.Rows L2 L2N
/-- an exception that was caught, at a: its class, its own dict -/
def ExT (a : Addr) (cls : Value) (d : Option Addr) : HO := .ext fun h => ∃ (oe : Obj) (vs : Array Value), h.get? a = some oe ∧ oe.cls = cls ∧ oe.dict = d ∧ oe.data = .fields vs
theorem exT_ok {P : Program} {w : World} {H : Hp} {h : Heap} {a : Addr} {cls : Value} {d : Option Addr} {oe : Obj} {vs : Array Value} (e : h.get? a = some oe) (z : oe.cls = cls) (z2 : oe.dict = d) (dd : oe.data = .fields vs) : ObjOk P w H h a (ExT a cls d) :=
  ⟨⟨oe, vs, e, z, z2, dd⟩, ⟨oe, e⟩, fun _ _ ⟨o, v, q, r⟩ k => ⟨o, v, k o q, r⟩⟩
section
variable {X : Cx} {pins : List (Addr × Obj)} {σ : L2.St} {H : Hp} {s : Shared}
theorem Inv.trackX {a : Addr} {o : HO} {oe : Obj} (I : Inv X pins σ H s) (he : s.heap.get? a = some oe) (hn : H a = none) (n0 : X.s_0.heap.get? a = none) (nL : a ≠ X.env.locals)
    (nC : ∀ x c, X.env.cells.lookup x = some c → c ≠ a) (nP : ∀ p ∈ X.pn ++ pins, p.1 ≠ a) (new : ObjOk X.prog X.w (upd H a o) s.heap a o) : Inv X pins σ (upd H a o) s := by
  have ne0 : ∀ b u, X.s_0.heap.get? b = some u → b ≠ a := fun b u e z => by
    rw [z, n0] at e
    cases e
  have neH : ∀ b u, H b = some u → b ≠ a := fun b u e z => by
    rw [z, hn] at e
    cases e
  refine ⟨I.ok, I.os, I.bare, ⟨I.base.keep, I.base.slot, fun b u e n hx => ?_, I.base.there, fun b xs e => ?_, fun b u xs e => ?_, fun b ps e => ?_⟩, I.loc, I.cell, ?_, fun x c e => ?_, fun p hp => ?_, fun b u e => ?_, I.len⟩
  · rw [upd_ne (ne0 b u e)]
    exact I.base.free b u e n hx
  · have q := I.base.tups b xs e
    rw [upd_ne (neH b _ q)]
    exact q
  · have q := I.base.frzs b u xs e
    rw [upd_ne (neH b _ q)]
    exact q
  · obtain ⟨m, q⟩ := I.base.tbls b ps e
    refine ⟨m, ?_⟩
    rw [upd_ne (neH b _ q)]
    exact q
  · rw [upd_ne (Ne.symm nL)]
    exact I.free
  · rw [upd_ne (nC x c e)]
    exact I.freeC x c e
  · obtain ⟨q1, q2, q3, q4, q5⟩ := I.pin p hp
    refine ⟨q1, ?_, q3, q4, q5⟩
    rw [upd_ne (nP p hp)]
    exact q2
  · by_cases hb : b = a
    · subst hb
      rw [upd_same] at e
      cases e
      exact new
    · rw [upd_ne hb] at e
      refine (I.hok b u e).stay (fun c v _ q => q) (fun c q => ?_) fun c xs q => ?_
      · rw [upd_ne (neH c _ q)]
        exact q
      · rw [upd_ne (neH c _ q)]
        exact q
end
/-- as wAs, but behind the suite the exception is tracked -/
def wAsT (K : PySem.W.Frag) (c : Value) (i : Nat) (ts : Addr → Value → Option Addr → TS) (Wout : WX) (D : Ends) : WX := fun cls d σ H =>
  ∃ b, PySem.W.exmOne K cls c = some b ∧ (b = true → ∀ a, H a = none → ts a cls d { nx := fun σ' H' => D.nx (σ'.set i none) (upd H' a (ExT a cls d)), rt := D.rt, bk := fun σ' H' => D.bk (σ'.set i none) H', ct := fun σ' H' => D.ct (σ'.set i none) H' } (σ.set i (some (.ref a))) H) ∧
    (b = false → Wout cls d σ H)
section
variable {X : Cx} {body : List Stmt} {pos pos' np : Pos} {tb : WX → TS} {Wout : WX} {i : Nat} {n x : Str} {c : Value} {b₀ : Stmt} {suite : List Stmt} {ts : Addr → Value → Option Addr → TS}
theorem ps_try_asT (hs : X.stack = X.env :: X.outer) (hf : X.env.frame = some X.env.locals) (hex : X.ex = []) (hN : X.N.Nodup) (hi : X.N[i]? = some n) (hln : X.env.kindOf n = some .local) (hc : Names X x c) (tk : L2N.Takes X Wout)
    (hb : ∀ (W : WX) (pn : List (Addr × Obj)) (xe : Value → Shared → Prop), L2N.Takes (X.tr pn xe) W → PassesOwn (model X.prog X.w) X.A X.env xe → PSs (X.tr pn xe) body (tb W))
    (hsu : ∀ (a : Addr) (oe : Obj) (cls : Value) (d : Option Addr) (pn : List (Addr × Obj)), Zn cls d oe → (∃ vs, oe.data = .fields vs) → PSs (X.suite a ((a, oe) :: pn)) (b₀ :: suite) (ts a cls d)) :
    PS X (.Try body [.ExceptHandler (some (.Name x np)) (some n) (b₀ :: suite) pos'] [] [] pos) (fun D σ H => tb (wAsT X.K c i ts Wout D) D σ H) := by
  refine ⟨fun pins s σ H D I h => ?_⟩
  have okX := I.ok
  have frEq : X.A.frames = some (X.env :: X.outer) := by rw [okX.frames, hs]
  have locN : Loc X.env.scope n := .inl hln
  refine wpAny_Try_except ?_
  refine wpAny_mono ((hb (wAsT X.K c i ts Wout D) (X.pn ++ pins) (fun e s₁ => wpAny (model X.prog X.w) X.A (noteFrame e X.env) (fun _ s₂ => wpAny (model X.prog X.w) X.A (setFlight e none) (fun _ s₃ =>
    wpAny (model X.prog X.w) X.A (handleBy e X.env [.ExceptHandler (some (.Name x np)) (some n) (b₀ :: suite) pos']) (SP X pins D) X.xe s₃) X.xe s₂) X.xe s₁) (fun u s' wish => ?_) PassesOwn.looking).run [] s σ H D (I.toTry _) h) (fun f s1 spq => ?_) (fun e s1 he => he)
  · -- the catch
    obtain ⟨a, B, sI, pins', σ', H', cls, d, rfl, J0, botB, up, airA, frA, osE, agE, b, exB, yesB, noB⟩ := wish
    have J : Inv X pins σ' H' sI := J0.ofTry okX
    have airB : Sky B (X.env :: X.outer) a (Zn cls d) X.env.locals s'.heap := by rw [← hs]; exact airA
    show wpAny (model X.prog X.w) X.A (noteFrame (.ref a) X.env) _ _ _
    refine Sky.land Zn.steady frEq hf airB fun hpA flyA growA => ?_
    have JA : Inv X pins σ' H' { s' with heap := hpA } := J.landed botB flyA.1 (up.trans growA) osE agE
    obtain ⟨oA, fvA, atA, znA, flA⟩ := flyA.there
    have noFrame : ∀ {h : Heap} {o : Obj} {vs : Array Value}, h.FunFrames B (X.env :: X.outer) → h.get? a = some o → o.data = .fields vs → a ∉ frs (X.env :: X.outer) := fun {h o vs} ff e dd hmm => by
      obtain ⟨_, o', e', hnf⟩ := ff.mem hmm
      rw [e] at e'; cases e'
      exact hnf _ dd
    have offFr := noFrame flyA.2.2.1 atA flA
    have nL : a ≠ X.env.locals := fun z => offFr (List.mem_filterMap.mpr ⟨X.env, List.mem_cons_self, by rw [hf, z]⟩)
    have nF : a ∉ X.fs := fun hmm => by
      obtain ⟨e, he, q⟩ := List.mem_filterMap.mp hmm
      exact offFr (List.mem_filterMap.mpr ⟨e, List.mem_cons_of_mem _ he, q⟩)
    have nI : ∀ o, sI.heap.get? a = some o → False := fun o e => by
      have q := botB a o e (by rw [hs]; exact offFr)
      rw [flyA.2.1] at q
      cases q
    have n0 : X.s_0.heap.get? a = none := by
      cases e : X.s_0.heap.get? a with
      | none => rfl
      | some o =>
        obtain ⟨o', e'⟩ := J.base.there a o e (by rw [hex]; exact fun z => nomatch z)
        exact (nI o' e').elim
    have nC : ∀ x c, X.env.cells.lookup x = some c → c ≠ a := fun x c e z => by
      obtain ⟨v, o, ho, _⟩ := J.cell x c e
      rw [z] at ho
      exact nI o ho
    have nP : ∀ p ∈ X.pn ++ pins, p.1 ≠ a := fun p hp z => by
      have q := (J.pin p hp).1
      rw [z] at q
      exact nI _ q
    have SA := JA.suite atA flA frA nL nF
    refine wpAny_handleBy_cons (codeAny_handlers_test ?_) (by intro q; cases q)
    have lookT : PySem.W.Looks (model X.prog X.w) hpA (typeOf (.ref a)) cls := fun A Q E s k q => wpAny_typeOf_ref (k _ _ atA) (by rw [znA.1]; exact q)
    have lookM := PySem.W.exm_one (M := model X.prog X.w) (JA.kIn) lookT exB
    have asks : ∀ {Q : Value → Shared → Prop} {E : Value → Shared → Prop}, Q c { s' with heap := hpA } → wpAny (model X.prog X.w) (X.A.mark (some (.ref a))) (eval (.Name x np) X.env) Q E { s' with heap := hpA } := fun {Q E} q => by
      obtain ⟨hg, hdbg, hmm | ⟨hmm, hv, hnn⟩⟩ := hc
      · exact ld_glob (X := X.suite a ((a, oA) :: (X.pn ++ pins))) SA hg hmm q hdbg
      · exact ld_blt (X := X.suite a ((a, oA) :: (X.pn ++ pins))) SA hg hmm hv q hnn hdbg
    refine asks (lookM.here ?_)
    cases b with
    | true =>
      refine codeAny_handlers_suite_as ?_
      refine HandSPX.lands_againZ flyA fun hpB flyB growB => ?_
      have JB : Inv X pins σ' H' { s' with heap := hpB } := J.landed botB flyB.1 ((up.trans growA).trans growB) osE agE
      obtain ⟨oB, fvB, atB, znB, flB⟩ := flyB.there
      have SB4 := JB.suite atB flB frA nL nF
      refine store_ok (X := X.suite a ((a, oB) :: (X.pn ++ pins))) (v := .ref a) SB4 hN hi locN rfl (fun sS SS => ?_) (.inr hln)
      refine wpAny_mono ((hsu a oB cls d (X.pn ++ pins) znB ⟨_, flB⟩).run [] sS _ H' _ SS (yesB rfl a frA)) (fun f sT spq => ?_) (fun _ _ z => False.elim z)
      have endO : ∀ {σT : L2.St} {HT : Hp} {Q : Shared → Prop}, Inv (X.suite a ((a, oB) :: (X.pn ++ pins))) [] σT HT sT → (∀ sU, Inv X pins (σT.set i none) HT sU → Q sU) →
          wpAny (model X.prog X.w) X.A (do bindName X.env n .none; unbindBehindTheSuite X.env n pos') (fun _ sU => Q sU) X.xe sT := fun {σT HT Q} ST hq => gone_ok (ST.unsuite okX) hN hi hln hq
      have endT : ∀ {σT : L2.St} {HT : Hp} {Q : Shared → Prop}, Inv (X.suite a ((a, oB) :: (X.pn ++ pins))) [] σT HT sT → (∀ sU, Inv X pins (σT.set i none) (upd HT a (ExT a cls d)) sU → Q sU) →
          wpAny (model X.prog X.w) X.A (do bindName X.env n .none; unbindBehindTheSuite X.env n pos') (fun _ sU => Q sU) X.xe sT := fun {σT HT Q} ST hq => by
        obtain ⟨p1, p2, _⟩ := ST.pin (a, oB) (List.mem_append_left _ List.mem_cons_self)
        refine gone_ok (Inv.trackX (ST.unsuite okX) p1 p2 n0 nL nC nP (exT_ok p1 znB.1 znB.2.1 flB)) hN hi hln hq
      cases f with
      | next =>
        obtain ⟨σT, HT, ST, qT⟩ := spq
        exact endT ST fun sU JU => ⟨_, _, JU, qT⟩
      | brk =>
        obtain ⟨σT, HT, ST, qT⟩ := spq
        exact endO ST fun sU JU => ⟨_, _, JU, qT⟩
      | cont =>
        obtain ⟨σT, HT, ST, qT⟩ := spq
        exact endO ST fun sU JU => ⟨_, _, JU, qT⟩
      | ret u =>
        obtain ⟨vT, σT, HT, ST, rT, qT⟩ := spq
        exact endO ST fun sU JU => ⟨_, _, _, JU, rT, qT⟩
    | false =>
      show wpAny _ X.A (handleBy (.ref a) X.env []) _ _ _
      refine wpAny_handleBy_nil ?_
      obtain ⟨k1, k2, k3, oe, vs, T, oT, ts', he, hz, hd, h1, hr⟩ := id flyA
      unfold PySem.passOn
      refine wpAny_bind (wpAny_field he hd h1 ?_)
      rw [if_neg (show ¬ ((Value.ref T == Value.none) = true) from by simp)]
      have outW : wpAny (model X.prog X.w) X.A (setFlight (.ref a) X.env.frame) (fun _ s4 => wpAny (model X.prog X.w) X.A (throw (.ref a) : Sem Flow) (SP X pins D) X.xe s4) X.xe { s' with heap := hpA } := by
        rw [hf]
        refine HandSPX.setFlight_upZ flyA fun hpB heldB growB => wpAny_throw (tk _ _ ?_)
        exact ⟨a, B, sI, pins, σ', H', cls, d, rfl, J, botB, (up.trans growA).trans growB, .inr (.inr (by rw [hs]; exact heldB)), frA, osE, agE, noB rfl⟩
      first
        | exact wpAny_bind (wpAny_pure (wpAny_bind outW))
        | exact wpAny_bind outW
  · cases f with
    | next =>
      obtain ⟨σ', H', J0, q⟩ := spq
      exact wpAny_execs_nil ⟨σ', H', J0.ofTry okX, q⟩
    | brk =>
      obtain ⟨σ', H', J0, q⟩ := spq
      exact ⟨σ', H', J0.ofTry okX, q⟩
    | cont =>
      obtain ⟨σ', H', J0, q⟩ := spq
      exact ⟨σ', H', J0.ofTry okX, q⟩
    | ret u =>
      obtain ⟨v, σ', H', J0, r, q⟩ := spq
      exact ⟨v, σ', H', J0.ofTry okX, r, q⟩
end
end RT

set_option Elab.async false
set_option linter.all false
set_option maxRecDepth 100000
set_option maxHeartbeats 4000000
/-! isinstance, fields of an exception that was caught and kept -/
namespace PySem.W
open PyProof.Rows
section
variable {prog : Program} {w : World} {A : Around} {E : Value → Shared → Prop} {s : Shared} {K : Frag} {x D : Addr} {ox : Obj} {od : Option Obj}
theorem kin_classX {Q : Option Value → Shared → Prop} (dGet : findIn K (.ref D) "__getattribute__" = some (some (.builtin "BaseException.__getattribute__"))) (dAlt : findIn K (.ref D) "__getattr__" = some none) (dSub : subIn K (.ref D) (.type "BaseException") = some true)
    (dDic : hasDictIn K D = true) (dCls : findIn K (.ref D) "__class__" = some (some (.builtin "object.__class__")))
    (dDes : specialIn K (.builtin "object.__class__") "__get__" = some (some (.builtin "getset_descriptor.__get__"))) (dTak : takesIn K (.builtin "object.__class__") = some true) (dMro : mroIn K D (.type "object") = some true)
    (X : K.In s.heap) (I : InstAt s.heap x ox D od) (h : Q (some (.ref D)) { s with toks := s.toks + 1 }) : wpAny (model prog w) A (getAttr? (.ref x) "__class__") Q E s := by
  have isC : (clsIn K D).isSome = true := by obtain ⟨cd, hc, _⟩ := any_some dDic; rw [hc]; rfl
  have found : findObj K D od "__class__" = some (.bind (.builtin "getset_descriptor.__get__") (.builtin "object.__class__")) := by
    cases od with
    | none => exact findObj_dataN isC dCls dDes dTak
    | some o => exact findObj_data isC dCls dDes dTak
  obtain ⟨hq0, g, d, t, os⟩ := s
  have k0 := I.type (M := model prog w)
  have k1 := looks_findIn (M := model prog w) X dGet
  have k2 := looks_findIn (M := model prog w) X dAlt
  have k3 := looks_find (M := model prog w) X I found
  have below : Looks (model prog w) hq0 (isInstance (.ref x) (.type "BaseException")) true := k0.andThen (looks_subIn X dSub)
  have z0 : (false && onTheHeap (Value.builtin "BaseException.__getattribute__")) = false := rfl
  have z2 : (Value.builtin "BaseException.__getattribute__" == Value.builtin "object.__getattribute__") = false := by decide +kernel
  have z1 : (onTheHeap (Value.ref D) && Value.builtin "BaseException.__getattribute__" == Value.builtin "object.__getattribute__") = false := by rw [z2]; rfl
  unfold getAttr? getAttrBy? getAttrBy
  refine wpAny_bind (wpAny_mkText (wpAny_bind (wpAny_attempt (wpAny_holding (wpAny_bind (k0.at (wpAny_bind (k1.at ?_))))))))
  show wpAny _ _ (if (onTheHeap (Value.ref D) && Value.builtin "BaseException.__getattribute__" == Value.builtin "object.__getattribute__") = true then _ else _) _ _ _
  rw [z1, if_neg Bool.false_ne_true]
  unfold getAttrByItsOwn hookBefore
  refine wpAny_bind ?_
  rw [if_pos (show onTheHeap (Value.ref D) = true from rfl)]
  refine k2.at ?_
  refine wpAny_bind (wpAny_attempt (wpAny_holding ?_))
  unfold callGetattribute
  rw [z0, if_neg Bool.false_ne_true]
  unfold boundAndCalled
  rw [PySem.F.excAttr_ValueError.ga.bind (.ref x)]
  refine wpAny_bind (wpAny_pure ?_)
  show wpAny _ _ (call (.builtin "BaseException.__getattribute__") [.ref x, .str "__class__" t]) _ _ _
  refine wpAny_call (codeAny_call_builtin PySem.F.excAttr_ValueError.ga.plain PySem.F.entry_bexc_ga ?_)
  refine @check_slot (model prog w) _ _ ⟨hq0, g, d, t + 1, os⟩ "BaseException.__getattribute__" "BaseException" "__getattribute__" (.ref x) [.str "__class__" t] [] _ (by decide +kernel) (by decide +kernel) below (PySem.F.args_bexc_ga (.ref x) (.str "__class__" t)) ?_
  unfold Builtin.«object.__getattribute__»
  refine wpAny_bind (wpAny_of_eq (a := ((Value.ref x : Value), [Value.str "__class__" t])) (by first | rfl | (simp only [slotArgs]; rfl)) ?_)
  refine wpAny_bind (wpAny_pure (wpAny_bind (k0.at (wpAny_bind (k3.at ?_)))))
  show wpAny _ _ (holding [Value.builtin "object.__class__"] (call (.builtin "getset_descriptor.__get__") [.builtin "object.__class__", .ref x, .ref D]) >>= ret) _ _ _
  refine wpAny_bind (wpAny_holding (wpAny_call (class_get (s := ⟨hq0, g, d, t + 1, os⟩) (ox := ox) (od := od) X I dMro ?_)))
  refine wpAny_pure ?_
  show wpAny _ _ (handedOut (.ref D)) _ _ _
  rw [handedOut_of (v := .ref D) rfl]
  first
    | exact wpAny_pure (wpAny_pure h)
    | exact wpAny_pure h
    | exact wpAny_pure (wpAny_bind (wpAny_pure (wpAny_pure h)))
theorem kitx_excX (dGet : findIn K (.ref D) "__getattribute__" = some (some (.builtin "BaseException.__getattribute__"))) (dAlt : findIn K (.ref D) "__getattr__" = some none) (dSub : subIn K (.ref D) (.type "BaseException") = some true) (dDic : hasDictIn K D = true) (dCls : findIn K (.ref D) "__class__" = some (some (.builtin "object.__class__")))
    (dDes : specialIn K (.builtin "object.__class__") "__get__" = some (some (.builtin "getset_descriptor.__get__"))) (dTak : takesIn K (.builtin "object.__class__") = some true) (dMro : mroIn K D (.type "object") = some true) :
    KitX K (.ref x) (.ref D) (fun h => InstAt h x ox D od) where
  ty := fun _ _ _ I => I.type
  it := fun _ _ X _ => by
    obtain ⟨cdx, hcx, _⟩ := any_some dDic
    unfold clsIn at hcx
    split at hcx
    · rename_i c1 d1 cd1 sl1 hob
      intro A1 Q1 E1 s1 k q
      unfold isType loadHead
      exact wpAny_bind (wpAny_loadPart (k _ _ (X _ _ hob)) (wpAny_pure q))
    · cases hcx
  ne := fun h tp dd its n sl X htup => by
    obtain ⟨cdx, hcx, _⟩ := any_some dDic
    refine Bool.eq_false_iff.mpr fun q => ?_
    have e : D = tp := Value.ref.inj (beq_iff_eq.mp q)
    subst e
    unfold clsIn at hcx
    split at hcx
    · rename_i c1 d1 cd1 sl1 hob
      have z := (X _ _ hob).symm.trans htup
      cases z
    · cases hcx
  ca := fun X I k => kin_classX dGet dAlt dSub dDic dCls dDes dTak dMro X I k
end
end PySem.W
namespace RT
open PySem PySem.Spec PyProof.Rows L2
/-- a value's type, exceptions that were kept too -/
inductive TyY (K : PySem.W.Frag) (H : Hp) : V → Value → Prop where
  | base {x : V} {t : Value} (h : TyX K H x t) : TyY K H x t
  | exc0 {a D : Addr} (e : H a = some (ExT a (.ref D) none)) (c : ExcC K D) : TyY K H (.ref a) (.ref D)
  | exc1 {a D dd : Addr} {fs : List (Str × V)} (e : H a = some (ExT a (.ref D) (some dd))) (e2 : H dd = some (.xd fs)) (c : ExcC K D) : TyY K H (.ref a) (.ref D)
theorem exT_get {P : Program} {w : World} {H : Hp} {h : Heap} {a : Addr} {cls : Value} {d : Option Addr} (I : HOk P w H h) (e : H a = some (ExT a cls d)) : ∃ (oe : Obj) (vs : Array Value), h.get? a = some oe ∧ oe.cls = cls ∧ oe.dict = d ∧ oe.data = .fields vs := (I a _ e).1
section
variable {X : Cx} {pins : List (Addr × Obj)} {σ : L2.St} {H : Hp} {s : Shared}
theorem inst_of {a D : Addr} {d : Option Addr} {od : Option Obj} (I : Inv X pins σ H s) (e : H a = some (ExT a (.ref D) d)) (h : match d, od with | none, none => True | some dd, some o => s.heap.get? dd = some o | _, _ => False) : ∃ oe vs, PySem.W.InstAt s.heap a oe D od ∧ oe.data = .fields vs := by
  obtain ⟨oe, vs, he, h1, h2, h3⟩ := exT_get I.hok e
  refine ⟨oe, vs, ⟨he, h1, by unfold PySem.W.notCls; rw [h3] <;> rfl, ?_⟩, h3⟩
  rw [h2]
  cases d with
  | none =>
    cases od with
    | none => trivial
    | some o => exact h
  | some dd =>
    cases od with
    | none => exact h
    | some o => exact h
theorem kit_ofY {x : V} {u t : Value} (I : Inv X pins σ H s) (rx : RelV x u) (ty : TyY X.K H x t) : ∃ P : Heap → Prop, PySem.W.KitX X.K u t P ∧ P s.heap ∧ u ≠ .builtin "__main__.__loader__#opaque" := by
  cases ty with
  | base h => exact kit_of I rx h
  | @exc0 a D e c =>
    cases (show u = Value.ref a from rx)
    obtain ⟨oe, vs, J, _⟩ := inst_of (od := none) I e trivial
    exact ⟨_, PySem.W.kitx_excX c.hg c.hk c.hs c.hd c.ha c.hn c.ht c.hm, J, fun z => nomatch z⟩
  | @exc1 a D dd fs e e2 c =>
    cases (show u = Value.ref a from rx)
    obtain ⟨mA, hns, hr⟩ := (show ObjOk X.prog X.w H s.heap dd (.xd fs) from I.hok dd _ e2)
    obtain ⟨od, ho, _⟩ := lookIn_ns hns
    obtain ⟨oe, vs, J, _⟩ := inst_of (od := some od) I e ho
    exact ⟨_, PySem.W.kitx_excX c.hg c.hk c.hs c.hd c.ha c.hn c.ht c.hm, J, fun z => nomatch z⟩
/-- isinstance(x, c); isinstance(x, (c1, c2, ..)) -/
def rIsiY (K : PySem.W.Frag) : List V → Hp → VK → Prop := fun xs H Q => ∃ (x c : V) (t u : Value) (b : Bool), xs = [x, c] ∧ ClsV c u ∧ TyY K H x t ∧ PySem.W.kitOne K t u = some b ∧ Q (.bl b) H
def rIsiTY (K : PySem.W.Frag) : List V → Hp → VK → Prop := fun xs H Q => ∃ (x : V) (tp : Addr) (cs : List V) (t : Value) (us : List Value) (b : Bool), xs = [x, .ref tp] ∧ H tp = some (.tup cs) ∧ Paired ClsV cs us ∧ TyY K H x t ∧ PySem.W.kitAny K t us = some b ∧ Q (.bl b) H
theorem vals2' {x y : V} {us : List Value} (r : Vals [x, y] us) : ∃ u v, us = [u, v] ∧ RelV x u ∧ RelV y v := Vals.two r
theorem call_isiY : CallR X (.builtin "isinstance") (rIsiY X.K) := by
  intro pins s σ H xs us Q I r h
  obtain ⟨x, c, t, u, b, rfl, k, ty, e, q⟩ := h
  obtain ⟨u1, u2, rfl, r1, r2⟩ := vals2' r
  have e2 := k.eq r2
  subst e2
  obtain ⟨P, Z, p, hx⟩ := kit_ofY I r1 ty
  exact PySem.W.kia_one Z I.kIn p e hx fun tk => ⟨.bl b, H, I.tok tk, rfl, q⟩
theorem call_isiTY : CallR X (.builtin "isinstance") (rIsiTY X.K) := by
  intro pins s σ H xs us Q I r h
  obtain ⟨x, tp, cs, t, ws, b, rfl, hT, k, ty, e, q⟩ := h
  obtain ⟨u1, u2, rfl, r1, r2⟩ := vals2' r
  cases (show u2 = Value.ref tp from r2)
  obtain ⟨P, Z, p, hx⟩ := kit_ofY I r1 ty
  obtain ⟨_, its, rv, o, h1, h2, n, h3⟩ := (show ObjOk X.prog X.w H s.heap tp (.tup cs) from I.hok tp _ hT)
  have e3 := ClsV.all k rv
  subst e3
  obtain ⟨oc, od, dt, sl⟩ := o
  simp only at h2 h3
  subst h2 h3
  exact PySem.W.kia_tup Z I.kIn p h1 e hx fun tk => ⟨.bl b, H, I.tok tk, rfl, q⟩
/-- e.f of a kept exception -/
def tXfT (K : PySem.W.Frag) (f : Str) (te : TE) : TE := fun σ H Q => te σ H fun x H1 => ∃ (a C dd : Addr) (fs : List (Str × V)) (v : V), x = .ref a ∧ XfC K C ∧ PySem.W.findIn K (.ref C) f = some none ∧ H1 a = some (ExT a (.ref C) (some dd)) ∧ H1 dd = some (.xd fs) ∧ fs.lookup f = some v ∧ Q v H1
theorem pe_xfT {e : Expr} {te : TE} {pos : Pos} {n : Str} (he : PE X e te) (hb : attributeBase e n X.env (eval e X.env) = eval e X.env := by rfl) : PE X (.Attribute e n pos) (tXfT X.K n te) := by
  refine ⟨fun pins s σ H Q I h => ?_⟩
  refine attr_of hb (thn (he.run pins s σ H _ I h) fun u s1 hh => ?_)
  obtain ⟨x, H1, I1, rx, a, C, dd, fs, v, ex, T, hno, ea, ed, l, q⟩ := hh
  subst ex
  obtain rfl : u = Value.ref a := rx
  obtain ⟨mA, hns, hr⟩ := (show ObjOk X.prog X.w H1 s1.heap dd (.xd fs) from I1.hok dd _ ed)
  obtain ⟨od, ho, hl⟩ := lookIn_ns hns
  obtain ⟨u, hu, ru⟩ := RelO.some_of (v := v) (o := mA n) (by rw [← l]; exact hr n)
  obtain ⟨oe, vs, J, _⟩ := inst_of (od := some od) I1 ea ho
  exact HandSPX.exc_get I1.kIn J T.ga T.gg T.exC (PySem.W.findObj_own T.hdC hno rfl (by rw [hl, hu])) (handed_of ru) ⟨v, H1, I1.tok _, ru, q⟩
end
end RT

set_option Elab.async false
set_option linter.all false
set_option maxRecDepth 100000
set_option maxHeartbeats 4000000
namespace RT
open PySem PySem.Spec PyProof.Rows L2
section
variable {X : Cx} {e : Expr} {es : List Expr} {ta : TA} {p1 p2 pos : Pos}
/-- Base.__init__(self, ..), Base an own class over ValueError without an __init__ -/
theorem pe_ceinit {pl : Sem Bool} {x : Str} {C0 : Addr} {mc : Value} (hg : Gl X x) (hm : X.mg x = some (.ref C0)) (ga : PySem.W.specialIn X.K (.ref C0) "__getattribute__" = some (some (.builtin "type.__getattribute__")))
    (ty : PySem.W.typeIn X.K (.ref C0) = some mc) (hr : PySem.W.readsIn X.K C0 mc = true) (vV : PySem.W.findCls X.K (.ref C0) mc "__init__" = some (.val (.builtin "ValueError.__init__"))) (ha : PA X (e :: es) ta)
    (hc : eval (.Call (.Attribute (.Name x p1) "__init__" p2) (e :: es) [] pos) X.env = (do
      let ov ← eval (.Name x p1) X.env
      standAt p2.atName
      let (f, first) ← holding [ov] (getMethod ov "__init__" pl)
      callWith pos f first (backTo pos (starEach (e :: es) X.env)) (backToKw pos (keywordEach [] X.env))) := by rfl)
    (he : starEach (e :: es) X.env = (false, eval e X.env) :: starEach es X.env := by rfl) (hpl : (backTo pos (starEach es X.env)).any (·.1) = false := by rfl) (hdb : (x == ("__debug__" : Str)) = false := by decide) :
    PE X (.Call (.Attribute (.Name x p1) "__init__" p2) (e :: es) [] pos) (tVeI X.K ta) := by
  refine ⟨fun pins s σ H Q I h => ?_⟩
  refine PySem.W.methodCall_KW (ld_glob I hg hm ?_ hdb) hc
  obtain ⟨m, fr⟩ := I.fr
  refine PySem.W.method_of_cls fr I.ok.mod.kin ga (PySem.W.cls_val fr I.ok.mod.kin ty hr vV (by decide +kernel) ?_)
  show wpAny _ _ (callWith pos (Value.builtin "ValueError.__init__") [] (backTo pos (starEach (e :: es) X.env)) []) _ _ _
  refine PyProof.Rows.callWith_method1 (thn (ha.run pos pins _ σ H _ (I.tok _) h) fun us s1 ⟨vs, H1, I1, r1, a, C, ws, ev, hl, T, ea, q⟩ => ?_) he hpl
  subst ev
  cases r1 with
  | @cons _ u0 _ ur ra rw' =>
    obtain rfl : u0 = Value.ref a := ra
    have hlen : ur.length ≤ sizeLine := by
      rw [← Paired.length rw', sizeLine_eq]
      omega
    exact oinit_ok T I1 ea hlen fun s' J => ⟨.non, H1, J, rfl, q⟩
end
end RT

set_option Elab.async false
set_option linter.all false
set_option maxRecDepth 100000
set_option maxHeartbeats 4000000
/-! further rules: repr of an int or None, {x} of None, max(.., default=), powers of greater ints, s * n -/
namespace RT
open PySem PySem.Spec PyProof.Rows L2
section
variable {X : Cx}
theorem vals1' {x : V} {us : List Value} (r : Vals [x] us) : ∃ u, us = [u] ∧ RelV x u := Vals.one r
/-- repr(n), repr(None) -/
def rRepr0 : List V → Hp → VK → Prop := fun xs H Q => (∃ i, xs = [.int i] ∧ i.natAbs.log2 < 1920 ∧ Q (.str (toString i)) H) ∨ (xs = [.non] ∧ Q (.str "None") H)
theorem call_repr0 : CallR X (.builtin "repr") rRepr0 := by
  intro pins s σ H xs us Q I r h
  rcases h with ⟨i, rfl, hz, q⟩ | ⟨rfl, q⟩
  · obtain ⟨u, rfl, t, rfl⟩ := vals1' r
    exact PySem.P.repr_of_int hz ⟨.str _, H, I.tok _, ⟨_, rfl⟩, q⟩
  · obtain ⟨u, rfl, e⟩ := vals1' r
    obtain rfl : u = Value.none := e
    exact PySem.P.repr_of_none ⟨.str _, H, I.tok _, ⟨_, rfl⟩, q⟩
/-- {x}: a text, an int, None -/
def tFmt0 (te : TE) : TE := fun σ H Q => te σ H fun x H1 => (∃ y : Str, x = .str y ∧ y.length ≤ sizeLine ∧ Q (.str y) H1) ∨ (∃ i : Int, x = .int i ∧ i.natAbs.log2 < 1920 ∧ Q (.str (toString i)) H1) ∨ (x = .non ∧ Q (.str "None") H1)
theorem pe_fmt0 {e : Expr} {te : TE} {pos : Pos} (he : PE X e te) : PE X (.FormattedValue e (-1) none pos) (tFmt0 te) := by
  refine ⟨fun pins s σ H Q I h => ?_⟩
  refine wpAny_FormattedValue_plain (thn (he.run pins s σ H _ I h) fun v s1 hv => ?_)
  obtain ⟨x, H1, I1, r1, q⟩ := hv
  rcases q with ⟨y, rfl, hz, q⟩ | ⟨i, rfl, hz, q⟩ | ⟨rfl, q⟩
  · obtain ⟨t, rfl⟩ := r1
    exact wpAny_formatField_str ⟨.str y, H1, I1, ⟨t, rfl⟩, q⟩ ⟨.str y, H1, I1.tok _, ⟨_, rfl⟩, q⟩ hz
  · obtain ⟨t, rfl⟩ := r1
    exact wpAny_formatField_int hz ⟨.str (toString i), H1, I1.tok _, ⟨_, rfl⟩, q⟩
  · obtain rfl : v = Value.none := r1
    exact wpAny_formatField_none ⟨.str _, H1, I1.tok _, ⟨_, rfl⟩, q⟩
/-- max(xs, default=d) of ints -/
def maxI (d : Int) : List Int → Int
  | [] => d
  | n :: ns => ns.foldl max n
def rMaxD (K : PySem.W.Frag) : List V → List V → Hp → VK → Prop := fun xs zs H Q => ∃ (a : Addr) (ns : List Int) (d : Int), xs = [.ref a] ∧ zs = [.int d] ∧ SqL K H a (ns.map V.int) ∧ Q (.int (maxI d ns)) H
theorem alike_ints (ns : List Int) : PySem.W.AlikeAll (ns.map PyData.int) := by
  refine ⟨fun x hx y hy => ?_, fun x hx => ?_⟩
  · obtain ⟨i, _, rfl⟩ := List.mem_map.mp hx
    obtain ⟨j, _, rfl⟩ := List.mem_map.mp hy
    rfl
  · obtain ⟨i, _, rfl⟩ := List.mem_map.mp hx
    exact fun z => nomatch z
theorem depth_ints : ∀ ns : List Int, PyData.depthAll (ns.map PyData.int) ≤ 1
  | [] => by simp [PyData.depthAll]
  | n :: ns => by
    have h := depth_ints ns
    simp only [List.map_cons, PyData.depthAll, PyData.depth]
    omega
theorem crk_maxD (hc : X.calm = true) (hu : X.A.units + 64 < cLine) : CallRK X (.builtin "max") ["default"] (rMaxD X.K) := by
  intro pins s σ H xs zs us ws Q I rx rz h
  obtain ⟨a, ns, d, rfl, rfl, hs, q⟩ := h
  obtain ⟨u, rfl, e⟩ := vals1' rx
  obtain rfl : u = Value.ref a := e
  obtain ⟨z, rfl, t, rfl⟩ := vals1' rz
  obtain ⟨its, rv, hl0, _⟩ := I.list hs
  have hl := hl0.isList
  have hr := PySem.W.readsAll_of_ints (h := s.heap) rv.ints
  have hd := depth_ints ns
  refine PySem.W.max_list_default (I.ok.hd hc) hl (by simpa using hr) (alike_ints ns) (by omega) (fun e0 h' tk k => ?_) fun y ys i v h' tk bs e hv hR k => ?_
  · have en : ns = [] := List.map_eq_nil_iff.mp e0
    subst en
    exact ⟨.int d, H, I.kept k, ⟨_, rfl⟩, q⟩
  · cases ns with
    | nil => cases e
    | cons n ns =>
      obtain ⟨rfl, rfl⟩ := List.cons.inj e
      rw [PySem.W.maxD_ints] at hR
      cases hR
      exact ⟨.int _, H, I.kept k, ⟨_, rfl⟩, q⟩
/-- a ** b of greater ints -/
def CPowW (i j : Int) : Prop := 0 ≤ j ∧ (Builtin.Int.intBits i : Int) * j ≤ 2 ^ 27
theorem op_powW : OpR X (binaryOp .Pow) (rI CPowW fun i j => .int (i ^ j.toNat)) := opI fun _ _ _ _ _ _ _ hc q => PyProof.Rows.pow_int hc.1 hc.2 q
/-- s * n -/
def rMulS : R2 := fun x y H Q => ∃ z n, x = .str z ∧ y = .int n ∧ PySem.MulOk z n ∧ Q (.str (PySem.Txt.mul z n)) H
theorem op_mulS : OpR X (binaryOp .Mult) rMulS := by
  intro pins s σ H x y v u Q I rx ry h
  obtain ⟨z, n, rfl, rfl, ok, q⟩ := h
  obtain ⟨t, rfl⟩ := rx
  obtain ⟨t', rfl⟩ := ry
  exact SB.mul ok fun t2 k => ⟨.str _, H, I.tok k, ⟨_, rfl⟩, q⟩
end
end RT

set_option Elab.async false
set_option linter.all false
set_option maxRecDepth 100000
set_option maxHeartbeats 4000000
/-! operators, len, in, == by an own class's methods -/
namespace PySem.W
open Lean Elab Tactic Meta PySem PySem.Calls PyProof.Rows
section
variable {prog : Program} {w : World} {A : Around} {E : Value → Shared → Prop} {s : Shared} {K : Frag} {x C L f : Addr} {h₀ : Heap} {m : Str → Option Value} {ox : Obj} {od : Option Obj} {T : String}
theorem rt_binT {op : Operator} {b : Value} {fo ro rc : Option Value} {Q : Value → Shared → Prop} (F : Fr h₀ L s.heap m) (X₀ : K.In h₀) (I : InstAt s.heap x ox C od) (bT : Looks (model prog w) s.heap (typeOf b) (.type T)) (cF : selfFirst K C = true)
    (sF : findIn K (.ref C) (PySem.dunder op.info.2) = some (some (.ref f))) (fF : isFn K (.ref f) = true) (rF : findIn K (.ref C) (dunderR op.info.2) = some rc) (pF : rc = none ∨ ∃ g : Addr, rc = some (.ref g))
    (h1 : findIn K (.type T) (PySem.dunder op.info.2) = some fo) (h2 : findIn K (.type T) (dunderR op.info.2) = some ro) (uF : subIn K (.type T) (.ref C) = some false)
    (h : wpAny (model prog w) A (call (.ref f) [.ref x, b]) (CmpBack Q) E s) : wpAny (model prog w) A (binaryOp op (.ref x) b) Q E s := by
  have X := X₀.keeps F.keep
  obtain ⟨cdx, more, cdE, mroE⟩ := ksp_first cF
  rcases inf : op.info with ⟨sym, nm1⟩
  rw [inf] at sF rF h1 h2
  dsimp only at sF rF h1 h2
  have tried := ksp_try X I sF fF h
  obtain ⟨hp0, g, d, tk0, os⟩ := s
  have k1 : Looks (model prog w) hp0 (typeOf (.ref x)) (.ref C) := I.type
  have k2 : Looks (model prog w) hp0 (typeOf b) (.type T) := bT
  have k3 : Looks (model prog w) hp0 (fillsNumberSlot (.ref C) nm1) true := fills_K X cdE mroE sF
  have k4 : Looks (model prog w) hp0 (fillsNumberSlot (.type T) nm1) ((fo.isSome && !isSeqSlot fo) || (ro.isSome && !isSeqSlot ro)) := ksp_fillsT X h1 h2
  have k5 : Looks (model prog w) hp0 (isSubtype (.type T) (.ref C)) false := looks_subIn X uF
  have k6 : Looks (model prog w) hp0 (numberSlotInPython (.ref C) nm1) true := ksp_inPy X sF rF pF
  have k7 : Looks (model prog w) hp0 (numberSlotInPython (.type T) nm1) false := Looks.of_pure rfl
  have k8 : Looks (model prog w) hp0 (typeLookup (.type T) (dunderR nm1)) ro := looks_findIn X h2
  generalize ((fo.isSome && !isSeqSlot fo) || (ro.isSome && !isSeqSlot ro)) = side at k4
  have apart : (Value.ref C == Value.type T) = false := Bool.eq_false_iff.mpr fun q => by cases beq_iff_eq.mp q
  simp only [binaryOp, inf]
  refine wpAny_holding (wpAny_bind ?_)
  unfold binaryOp1
  refine wpAny_bind (k1.at (wpAny_bind (k2.at (wpAny_bind (k3.at ?_)))))
  simp only [apart, Bool.false_eq_true, if_false]
  cases side with
  | false =>
    ksp_lk
    refine wpAny_mono tried (fun r s' hrr => ?_) fun _ _ e => e
    obtain ⟨v, rfl, hqq⟩ := hrr
    ksp_lk
    exact hqq
  | true =>
    ksp_lk
    refine wpAny_mono tried (fun r s' hrr => ?_) fun _ _ e => e
    obtain ⟨v, rfl, hqq⟩ := hrr
    ksp_lk
    exact hqq
end
end PySem.W
namespace RT
open PySem PySem.Spec PyProof.Rows L2
section
variable {X : Cx} {CX : CXT} {k : Nat} {C f : Addr} {fd : FuncData} {ps : List Str} {sp : Sp} {E : XK}
/-- what is asked of an own operator's class beside its method, for a right operand of a built-in type -/
structure RightT (K : PySem.W.Frag) (C : Addr) (op : Operator) (T : String) : Prop where
  r0 : PySem.W.findIn K (.ref C) (dunderR op.info.2) = some none
  t1 : ∃ fo, PySem.W.findIn K (.type T) (PySem.dunder op.info.2) = some fo
  t2 : ∃ ro, PySem.W.findIn K (.type T) (dunderR op.info.2) = some ro
  sb : PySem.W.subIn K (.type T) (.ref C) = some false
/-- x op y, x an instance of the class at C, y one too, or of a built-in type -/
def rBinO (K : PySem.W.Frag) (C : Addr) (op : Operator) (sp : Sp) (E : XK) : R2 := fun x y H Q => ∃ a dx fs, x = .ref a ∧ H a = some (.ins C dx fs) ∧ ((∃ b dy gs, y = .ref b ∧ H b = some (.ins C dy gs)) ∨ ∃ T, TyY K H y (.type T) ∧ RightT K C op T) ∧ sp [x, y] H Q E
theorem op_binO {op : Operator} (hc : PySem.W.selfFirst X.K C = true) (hm : Meth X.K C (PySem.dunder op.info.2) f) (F : FnOk X.prog X.w X.K X.mg X.base CX k f fd ps sp) (hr : Room k X.A) (hb : Binds X.K fd ps []) (hx : Passes CX X E) : OpR X (binaryOp op) (rBinO X.K C op sp E) := by
  intro pins s σ H x y v u Q I rx ry h
  obtain ⟨a, dx, fs, rfl, ea, ty, q⟩ := h
  cases (show v = Value.ref a from rx)
  obtain ⟨mA, O, _⟩ := ins_get I.hok ea
  obtain ⟨od, J, _⟩ := O.look
  obtain ⟨m, hF⟩ := I.fr
  have go : wpAny (model X.prog X.w) X.A (call (.ref f) [.ref a, u]) (PySem.W.CmpBack (EP X pins σ Q)) X.xe s := by
    refine wpAny_mono (run_fn (ds := []) (dvs := []) F hr hb .nil hx I (vs := [.ref a, y]) (.cons rfl (.cons ry .nil)) q) (fun w s' z => ?_) fun _ _ x => x
    obtain ⟨z', H', I', rz, qz⟩ := z
    exact SlX.cmpback rz ⟨z', H', I', rz, qz⟩
  rcases ty with ⟨b, dy, gs, rfl, eb⟩ | ⟨T, ty, R⟩
  · cases (show u = Value.ref b from ry)
    obtain ⟨mB, O', _⟩ := ins_get I.hok eb
    obtain ⟨od', J', _⟩ := O'.look
    exact PySem.W.binop_K hF I.ok.mod.kin J J'.type hc hm.at_ hm.fn go
  · obtain ⟨P, Z, p, _⟩ := kit_ofY I ry ty
    obtain ⟨fo, t1⟩ := R.t1
    obtain ⟨ro, t2⟩ := R.t2
    exact PySem.W.rt_binT hF I.ok.mod.kin J (Z.ty _ _ I.kIn p) hc hm.at_ hm.fn R.r0 (.inl rfl) t1 t2 R.sb go
/-- -x, ~x -/
def rUnO (C : Addr) (sp : Sp) (E : XK) : V → Hp → VK → Prop := fun x H Q => ∃ a dx fs, x = .ref a ∧ H a = some (.ins C dx fs) ∧ sp [x] H Q E
theorem un_negO (hm : Meth X.K C "__neg__" f) (F : FnOk X.prog X.w X.K X.mg X.base CX k f fd ps sp) (hr : Room k X.A) (hb : Binds X.K fd ps []) (hx : Passes CX X E) : UnR X (unaryOp .USub) (rUnO C sp E) := by
  intro pins s σ H x v Q I rx h
  obtain ⟨a, dx, fs, rfl, ea, q⟩ := h
  cases (show v = Value.ref a from rx)
  obtain ⟨mA, O, _⟩ := ins_get I.hok ea
  obtain ⟨od, J, _⟩ := O.look
  obtain ⟨m, hF⟩ := I.fr
  exact PySem.W.ksp_neg hF I.ok.mod.kin J hm.at_ hm.fn (run_fn (ds := []) (dvs := []) F hr hb .nil hx I (vs := [.ref a]) (.cons rfl .nil) q)
theorem un_invO (hm : Meth X.K C "__invert__" f) (F : FnOk X.prog X.w X.K X.mg X.base CX k f fd ps sp) (hr : Room k X.A) (hb : Binds X.K fd ps []) (hx : Passes CX X E) : UnR X (unaryOp .Invert) (rUnO C sp E) := by
  intro pins s σ H x v Q I rx h
  obtain ⟨a, dx, fs, rfl, ea, q⟩ := h
  cases (show v = Value.ref a from rx)
  obtain ⟨mA, O, _⟩ := ins_get I.hok ea
  obtain ⟨od, J, _⟩ := O.look
  obtain ⟨m, hF⟩ := I.fr
  exact PySem.W.ksp_inv hF I.ok.mod.kin J hm.at_ hm.fn (run_fn (ds := []) (dvs := []) F hr hb .nil hx I (vs := [.ref a]) (.cons rfl .nil) q)
/-- x == y by x's own __eq__, y of any kind that does not go first -/
def rEqO (K : PySem.W.Frag) (C : Addr) (sp : Sp) (E : XK) : R2 := fun x y H Q => ∃ a dx fs t, x = .ref a ∧ H a = some (.ins C dx fs) ∧ ((∃ b dy gs, y = .ref b ∧ H b = some (.ins C dy gs) ∧ t = .ref C) ∨ TyY K H y t) ∧ PySem.W.notFirst K C t = true ∧ sp [x, y] H Q E
theorem op_eqO {op : CmpOp} (hop : ∀ a b, compareOp op a b = richCompare op a b) (hm : Meth X.K C (cmpInfo op).2.1 f) (F : FnOk X.prog X.w X.K X.mg X.base CX k f fd ps sp) (hr : Room k X.A) (hb : Binds X.K fd ps []) (hx : Passes CX X E) :
    OpR X (compareOp op) (rEqO X.K C sp E) := by
  intro pins s σ H x y v u Q I rx ry h
  obtain ⟨a, dx, fs, t, rfl, ea, ty, hn, q⟩ := h
  cases (show v = Value.ref a from rx)
  obtain ⟨mA, O, _⟩ := ins_get I.hok ea
  obtain ⟨od, J, _⟩ := O.look
  obtain ⟨m, hF⟩ := I.fr
  have L : PySem.W.Looks (model X.prog X.w) s.heap (typeOf u) t := by
    rcases ty with ⟨b, dy, gs, rfl, eb, rfl⟩ | ty
    · cases (show u = Value.ref b from ry)
      obtain ⟨mB, O', _⟩ := ins_get I.hok eb
      obtain ⟨od', J', _⟩ := O'.look
      exact J'.type
    · obtain ⟨P, Z, p, _⟩ := kit_ofY I ry ty
      exact Z.ty _ _ I.kIn p
  rw [hop]
  refine PySem.W.cmp_K (op := op) (tb := t) hr.units0 hF I.ok.mod.kin J L hn hm.at_ hm.fn ?_
  refine wpAny_mono (run_fn (ds := []) (dvs := []) F hr hb .nil hx I (vs := [.ref a, y]) (.cons rfl (.cons ry .nil)) q) (fun w s' z => ?_) fun _ _ x => x
  obtain ⟨z', H', I', rz, qz⟩ := z
  exact SlX.cmpback rz ⟨z', H', I', rz, qz⟩
/-- y in x by x's own __contains__, which hands back a bool -/
def rInO (C : Addr) (sp : Sp) (E : XK) (neg : Bool) : R2 := fun y x H Q => ∃ a dx fs, x = .ref a ∧ H a = some (.ins C dx fs) ∧ sp [x, y] H (fun v H' => ∃ b, v = .bl b ∧ Q (.bl (if neg then !b else b)) H') E
theorem op_inO (hm : Meth X.K C "__contains__" f) (F : FnOk X.prog X.w X.K X.mg X.base CX k f fd ps sp) (hr : Room k X.A) (hb : Binds X.K fd ps []) (hx : Passes CX X E) : OpR X (compareOp .In) (rInO C sp E false) := by
  intro pins s σ H y x u v Q I ry rx h
  obtain ⟨a, dx, fs, rfl, ea, q⟩ := h
  cases (show v = Value.ref a from rx)
  obtain ⟨mA, O, _⟩ := ins_get I.hok ea
  obtain ⟨od, J, _⟩ := O.look
  obtain ⟨m, hF⟩ := I.fr
  refine PySem.W.in_K hF I.ok.mod.kin J hm.at_ hm.fn (wpAny_mono (run_fn (ds := []) (dvs := []) F hr hb .nil hx I (vs := [.ref a, y]) (.cons rfl (.cons ry .nil)) q) (fun w s' z => ?_) fun _ _ x => x)
  obtain ⟨z', H', I', rz, b, rfl, qz⟩ := z
  cases (show w = Value.bool b from rz)
  exact wpAny_truthy_bool ⟨.bl b, H', I', rfl, qz⟩
theorem op_notInO (hm : Meth X.K C "__contains__" f) (F : FnOk X.prog X.w X.K X.mg X.base CX k f fd ps sp) (hr : Room k X.A) (hb : Binds X.K fd ps []) (hx : Passes CX X E) : OpR X (compareOp .NotIn) (rInO C sp E true) := by
  intro pins s σ H y x u v Q I ry rx h
  obtain ⟨a, dx, fs, rfl, ea, q⟩ := h
  cases (show v = Value.ref a from rx)
  obtain ⟨mA, O, _⟩ := ins_get I.hok ea
  obtain ⟨od, J, _⟩ := O.look
  obtain ⟨m, hF⟩ := I.fr
  refine PySem.W.notIn_K hF I.ok.mod.kin J hm.at_ hm.fn (wpAny_mono (run_fn (ds := []) (dvs := []) F hr hb .nil hx I (vs := [.ref a, y]) (.cons rfl (.cons ry .nil)) q) (fun w s' z => ?_) fun _ _ x => x)
  obtain ⟨z', H', I', rz, b, rfl, qz⟩ := z
  cases (show w = Value.bool b from rz)
  exact wpAny_truthy_bool ⟨.bl (!b), H', I', rfl, qz⟩
/-- len(x) by x's own __len__ -/
def rLenO (C : Addr) (sp : Sp) (E : XK) : List V → Hp → VK → Prop := fun xs H Q => ∃ a dx fs, xs = [.ref a] ∧ H a = some (.ins C dx fs) ∧ sp [.ref a] H (fun v H' => ∃ n, v = .int n ∧ 0 ≤ n ∧ n < 2 ^ 63 ∧ Q (.int n) H') E
theorem call_lenO (hm : Meth X.K C "__len__" f) (F : FnOk X.prog X.w X.K X.mg X.base CX k f fd ps sp) (hr : Room (k + 1) X.A) (hb : Binds X.K fd ps []) (hx : Passes CX X E) : CallR X (.builtin "len") (rLenO C sp E) := by
  intro pins s σ H xs us Q I r h
  obtain ⟨a, dx, fs, rfl, ea, q⟩ := h
  obtain ⟨u, rfl, ru⟩ := vals1' r
  cases (show u = Value.ref a from ru)
  obtain ⟨mA, O, _⟩ := ins_get I.hok ea
  obtain ⟨od, J, _⟩ := O.look
  obtain ⟨m, hF⟩ := I.fr
  have r2 : Vals [V.ref a] [Value.ref a] := .cons rfl .nil
  have hl : ([Value.ref a] : List Value).length = ps.length := by
    rw [← r2.length]
    exact F.len _ _ _ _ q
  refine PySem.W.len_K hF I.ok.mod.kin J hm.at_ hm.fn (wpAny_call (codeAny_mono (F.run X.A.in1 X.stack s H ⟨[.ref a], []⟩ [.ref a] [.ref a] _ E hr.in1 I.env0.in1 (by simpa using hb s [.ref a] I.kIn (by simpa using hl)) r2 q) fun r s' hq => ?_))
  cases r with
  | error er => exact hx pins σ H s er s' I hq
  | ok fl =>
    cases fl with
    | ret u =>
      obtain ⟨v, H', I', rv, n, rfl, n0, n1, qz⟩ := I.after hq
      obtain ⟨t, rfl⟩ := (show ∃ t, u = Value.int n t from rv)
      exact ⟨⟨n0, n1⟩, .int n, H', I'.tok _, ⟨_, rfl⟩, qz⟩
    | next => exact False.elim hq
    | brk => exact False.elim hq
    | cont => exact False.elim hq
end
end RT

set_option Elab.async false
set_option linter.all false
set_option maxRecDepth 100000
set_option maxHeartbeats 4000000
/-! defs that are called where nothing is being shown: repr of lists and tuples -/
namespace RT
open PySem PySem.Spec PyProof.Rows L2
/-- as FnOk, where no repr runs around -/
structure FnG (P : Program) (w : World) (K : PySem.W.Frag) (mg : Str → Option Value) (base : Heap) (CX : CXT) (k : Nat) (f : Addr) (fd : FuncData) (ps : List Str) (sp : Sp) : Prop where
  len : ∀ vs H Q E, sp vs H Q E → vs.length = ps.length
  go : ∀ (A : Around) (outer : List Env) (s : Shared) (H : Hp) (args : Args) (us : List Value) (vs : List V) (Q : VK) (E : XK), A.guards = some [] → Room k A → Env0 P w K mg base A outer s H → BindsTo s fd args (ps.zip us) → Vals vs us → sp vs H Q E →
    codeAny (model P w) A (.call (.ref f) args) (CR CX outer P w H s Q E) s
theorem FnG.of {P : Program} {w : World} {K : PySem.W.Frag} {mg : Str → Option Value} {base : Heap} {CX : CXT} {k : Nat} {f : Addr} {fd : FuncData} {ps : List Str} {sp : Sp} (F : FnOk P w K mg base CX k f fd ps sp) : FnG P w K mg base CX k f fd ps sp :=
  ⟨F.len, fun A outer s H args us vs Q E _ => F.run A outer s H args us vs Q E⟩
theorem fnG_of {CX : CXT} {P : Program} {w : World} {K : PySem.W.Frag} {mg : Str → Option Value} {base : Heap} {k : Nat} {f : Addr} {name qual : Str} {params : Arguments} {body : List Stmt} {scope : Scope} {dV kV doc pm cdv ct oc : Value} {an od : Option Addr}
    {osl : Array (Option Value)} {N ps : List Str} {sp : Sp} (at_ : K.lookup f = some ⟨oc, od, .func (PySem.W.fnOf name qual params body scope dV kV doc pm an cdv ct), osl⟩) (code : PySem.W.codeIn K cdv qual = true) (S : FnScope N ps scope)
    (len : ∀ vs H Q E, sp vs H Q E → vs.length = ps.length)
    (walk : ∀ (A : Around) (outer : List Env) (s : Shared) (H : Hp) (vs : List V) (Q : VK) (E : XK), A.guards = some [] → Room k (A.deeper (envOfC qual scope s.heap.objs.size f cdv)) → sp vs H Q E →
      ∃ t, PSs (cxOf CX P w K mg base N qual scope f cdv A outer s H E) body t ∧ t { nx := fun _ H' => Q .non H', rt := Q } (start N vs) H) :
    FnG P w K mg base CX (k + 1) f (PySem.W.fnOf name qual params body scope dV kV doc pm an cdv ct) ps sp where
  len := len
  go := fun A outer s H args us vs Q E hg room env binds vals said => by
    have size := len _ _ _ _ said
    have here : K.In s.heap := env.mod.kin.keeps fun b o e => (env.bs b o e).1
    have free : s.heap.NoLimit := env.mod.nolimit.keeps fun b o e => (env.bs b o e).1
    have kinds : ∀ y ∈ ps.zip us, scope.names.lookup y.1 = some .local ∨ (scope.names.lookup y.1 = some .cell ∧ ((cellsFrom (s.heap.objs.size + 1) scope.names []).lookup y.1).isSome = true) := by
      rintro ⟨n, v⟩ hy
      exact (S.par n (List.of_mem_zip hy).1).imp id fun q => ⟨q, PySem.W.cellsFrom_some _ _ _ (.inl q)⟩
    refine codeAny_call_function room.depth (here _ _ at_) rfl S.co S.gen rfl (PySem.W.codeRec_of here code) (binds _ _ _ _ ?_)
    refine wpAny_newFunctionEnv_cells S.kind kinds fun e1 he s1 x => ?_
    subst he
    obtain ⟨t, ht, hq⟩ := walk A outer s H vs Q E hg (room.deeper _) said
    refine ⟨free.keeps x.toInCall.keep, codeAny_func ?_⟩
    refine wpAny_mono (ht.run [] s1 (start N vs) H _ (inv_start S room.hd env size vals x) hq) (fun fl s' done => ?_) fun _ _ z => z
    match fl, done with
    | .ret u, ⟨v, _, H', J, rv, q⟩ => exact ⟨v, H', J.os, J.bare, J.base, J.hok, rv, q⟩
    | .next, ⟨_, H', J, q⟩ => exact ⟨V.non, H', J.os, J.bare, J.base, J.hok, rfl, q⟩
    | .brk, ⟨_, _, _, q⟩ => exact q.elim
    | .cont, ⟨_, _, _, q⟩ => exact q.elim
section
variable {P : Program} {w : World} {K : PySem.W.Frag} {mg : Str → Option Value} {base : Heap} {CX : CXT}
/-- a def of the text keeps its promise where nothing is being shown -/
theorem okG {x qual : Str} {pa : Arguments} {bd : List Stmt} {sc : Scope} {dvs : List V} {kws : List (Str × V)} {f : Addr} {fd : FuncData} {N ps : List Str} {k : Nat} {sp : Sp} (F : FunD K x qual pa bd sc dvs kws f fd) (S : FnScope N ps sc) (len : ∀ vs H Q E, sp vs H Q E → vs.length = ps.length)
    (walk : ∀ (cdv : Value) (A : Around) (outer : List Env) (s : Shared) (H : Hp) (vs : List V) (Q : VK) (E : XK), A.guards = some [] → Room k (A.deeper (envOfC qual sc s.heap.objs.size f cdv)) → sp vs H Q E →
      ∃ t, PSs (cxOf CX P w K mg base N qual sc f cdv A outer s H E) bd t ∧ t { nx := fun _ H' => Q .non H', rt := Q } (start N vs) H) : FnG P w K mg base CX (k + 1) f fd ps sp := by
  obtain ⟨oc, od, dV, kV, doc, pm, an, cdv, ct, osl, rfl, lk, hcd, _, _⟩ := F.ex
  exact fnG_of lk hcd S len fun A outer s H vs Q E hg hr h => walk cdv A outer s H vs Q E hg hr h
end
section
variable {X : Cx} {CX : CXT} {k : Nat} {f : Addr} {fd : FuncData} {ps : List Str} {sp : Sp} {dvs : List V} {ds : List Value} {E : XK} {e : Expr} {es : List Expr} {t : TA} {x : Str} {p pos : Pos}
theorem pe_callG (F : FnG X.prog X.w X.K X.mg X.base CX k f fd ps sp) (hG : X.A.guards = some []) (hr : Room k X.A) (hg : Gl X x) (hm : X.mg x = some (.ref f)) (hk : PySem.W.keepIn X.K (.ref f) = true) (hb : Binds X.K fd ps ds) (hd : Vals dvs ds) (hx : Passes CX X E)
    (ha : PA X (e :: es) t) (hdb : (x == ("__debug__" : Str)) = false := by decide) (he : starEach (e :: es) X.env = (false, eval e X.env) :: starEach es X.env := by rfl) (hpl : (backTo pos (starEach es X.env)).any (·.1) = false := by rfl) :
    PE X (.Call (.Name x p) (e :: es) [] pos) (tCall sp dvs E t) := by
  refine ⟨fun pins s σ H Q I h => wpAny_Call_Name_kw (ld_glob I hg hm ?_ hdb)⟩
  refine PySem.W.callWith_K (h₀ := X.base) I.ok.mod.kin hk (thn (ha.run pos pins s σ H _ I h) fun us s1 ⟨vs, H1, I1, r, q⟩ => ⟨I1.kIn, ?_⟩) he hpl
  have r2 := r.append hd
  have hl : (us ++ ds).length = ps.length := r2.length.symm.trans (F.len _ _ _ _ q)
  refine wpAny_call (codeAny_mono (F.go X.A X.stack s1 H1 ⟨us, []⟩ (us ++ ds) (vs ++ dvs) Q E hG hr I1.env0 (hb s1 us I1.kIn hl) r2 q) fun r s' hq => ?_)
  match r, hq with
  | .error e, hq => exact hx pins σ H1 s1 e s' I1 hq
  | .ok (.ret u), hq => exact I1.after hq
/-- repr of data at any depth -/
def rReprD (K : PySem.W.Frag) : List V → Hp → VK → Prop := fun xs H Q => ∃ (a : Addr) (d : PyData), xs = [.ref a] ∧ Dp K H (.ref a) d ∧ d.showable = true ∧ d.hasDict = false ∧ d.depth ≤ 40 ∧ d.shown.length ≤ sizeLine ∧ Q (.str d.shown) H
theorem call_reprD (hG : X.A.guards = some []) (hu : X.A.units + 64 < cLine) : CallR X (.builtin "repr") (rReprD X.K) := by
  intro pins s σ H xs us Q I r h
  obtain ⟨a, d, rfl, D, hs, hd, hz, hl, q⟩ := h
  obtain ⟨u, rfl, ru⟩ := vals1' r
  obtain ⟨as, rd⟩ := Dp.reads I d _ _ D ru
  cases (show u = Value.ref a from ru)
  exact repr_of_reads' rd hs (PyData.noDict_hsm hd) hG (by omega) (fun _ _ e => e) (fun h' u tk k => ⟨.str d.shown, H, I.kept k, ⟨u, rfl⟩, q⟩) hl
end
/-! ### the law's own call -/
/-- the abstract heap at the law's entry: the script's list, locked -/
def scriptH (a : Addr) (vs : List Value) (ns : List Int) : Hp := fun b => if b = a then some (.frz { cls := .type "list", data := .seq vs.toArray } (.lst (ns.map V.int))) else none
section
variable {P : Program} {w : World} {K : PySem.W.Frag} {mg mb : Str → Option Value} {CX : CXT} {k : Nat} {fa a : Addr} {fd : FuncData} {x : Str} {sp : Sp} {s : Shared} {vs : List Value} {ns : List Int}
theorem enterG (H : Hp) (alone : ∀ b u, H b = some u → b = a ∧ ∃ o xs, u = .frz o (.lst xs)) (free : ∀ b, H b ≠ none → K.lookup b = none) (hok : HOk P w H s.heap)
    (KX : K.In s.heap) (gl : s.heap.Ns mainGlobals mg) (bl : s.heap.Ns builtinsNs mb) (bb : ∀ x : Str, x ≠ "__name__" → mb x = bootBuiltins x) (lim : s.heap.NoLimit) (gn : s.gens = #[]) (room : Room k callerA)
    (F : ∀ base : Heap, K.In base → base.Ns mainGlobals mg → FnG P w K mg base CX k fa fd [x] sp) (binds : ∀ (s : Shared) (u : Value), BindsTo s fd ⟨[u], []⟩ [(x, u)]) (said : sp [.ref a] H (fun v _ => v = .bl true) fun _ _ _ => False)
    (noX : ∀ e s', CX [] H s (fun _ _ _ => False) e s' → False) :
    codeAny (model P w) callerA (.call (.ref fa) ⟨[.ref a], []⟩) (fun r s' => r = .ok (.ret (.bool true)) ∧ OldK s.heap s'.heap ∧ s'.os = s.os ∧ AllBare s'.gens) s := by
  have noDict : ∀ {b : Addr} {o : Obj} {es : Array DictEntry} {n : Nat}, s.heap.get? b = some o → o.data = .dict es n → H b = none := fun {b o es n} e d => by
    cases q : H b with
    | none => rfl
    | some u =>
      obtain ⟨_, ob, xs, rfl⟩ := alone b u q
      obtain ⟨e1, _, its, m, _, e2⟩ := (show ObjOk P w H s.heap b (.frz ob (.lst xs)) from hok b _ q)
      rw [e] at e2
      cases e2
      cases d
  have ns_ : ∀ {b : Addr} {m : Str → Option Value}, s.heap.Ns b m → (hidT s.heap H).Ns b m := fun {b m} ⟨o, es, n, e, d, r⟩ => ⟨o, es, n, hidT_get e (noDict e d), d, r⟩
  have kb : K.In (hidT s.heap H) := fun b o e => hidT_get (KX b o e) (by
    cases q : H b with
    | none => rfl
    | some u =>
      have z := free b (by rw [q]; exact fun z => nomatch z)
      rw [e] at z
      cases z)
  have md : Mod K mg (hidT s.heap H) := ⟨kb, ns_ gl, ⟨mb, ns_ bl, bb⟩, by
    obtain ⟨mc, h1, h2⟩ := lim
    exact ⟨mc, ns_ h1, h2⟩⟩
  have env : Env0 P w K mg (hidT s.heap H) callerA [] s H := ⟨rfl, md, fun b o e => of_hidT e, Nat.le_of_eq (hidT_size _ _), trivial, (fun b hb => absurd (show b ∈ ([] : List Addr) from hb) (by simp)), hok, .of_eq gn⟩
  refine codeAny_mono ((F _ kb (ns_ gl)).go callerA [] s H ⟨[.ref a], []⟩ [.ref a] [.ref a] _ _ rfl room env (binds s (.ref a)) (.cons rfl .nil) said) fun r s' h => ?_
  match r, h with
  | .error e, h => exact (noX e s' h).elim
  | .ok (.ret u), ⟨v, H', os, bare, un, hok', rv, q⟩ =>
    have ev : v = .bl true := q
    subst ev
    obtain rfl : u = Value.bool true := rv
    refine ⟨rfl, OldK.of_keep fun b o e => ?_, os, bare⟩
    cases q : H b with
    | none => exact un.keep b o e q (fun z => nomatch z) (fun z => nomatch z)
    | some u =>
      obtain ⟨_, ob, xs, rfl⟩ := alone b u q
      obtain ⟨e1, _⟩ := hok b _ q
      obtain ⟨e2, _⟩ := hok' b _ (un.frzs b ob _ q)
      rw [e] at e1
      cases e1
      exact e2
theorem law_callG (KX : K.In s.heap) (gl : s.heap.Ns mainGlobals mg) (bl : s.heap.Ns builtinsNs mb) (bb : ∀ x : Str, x ≠ "__name__" → mb x = bootBuiltins x) (lim : s.heap.NoLimit) (gn : s.gens = #[])
    (obj : s.heap.get? a = some { cls := .type "list", data := .seq vs.toArray }) (hi : IntsAre vs ns) (hl : ns.length ≤ sizeLine) (room : Room k callerA)
    (F : ∀ base : Heap, K.In base → base.Ns mainGlobals mg → FnG P w K mg base CX k fa fd [x] sp) (binds : ∀ (s : Shared) (u : Value), BindsTo s fd ⟨[u], []⟩ [(x, u)])
    (said : ∀ H : Hp, SqL K H a (ns.map V.int) → sp [.ref a] H (fun v _ => v = .bl true) fun _ _ _ => False) (noX : ∀ H e s', CX [] H s (fun _ _ _ => False) e s' → False) :
    codeAny (model P w) callerA (.call (.ref fa) ⟨[.ref a], []⟩) (fun r s' => r = .ok (.ret (.bool true)) ∧ OldK s.heap s'.heap ∧ s'.os = s.os ∧ AllBare s'.gens) s := by
  have rv := vals_ints hi
  cases hk : K.lookup a with
  | some o =>
    have e := KX a o hk
    rw [obj] at e
    cases e
    exact enterG (fun _ => none) (fun b u z => nomatch z) (fun b z => (z rfl).elim) (fun b u z => nomatch z) KX gl bl bb lim gn room F binds
      (said _ (.inr ⟨_, vs.toArray, _, hk, rfl, rfl, rfl, by rw [List.size_toArray, hi.length]; exact hl, by simpa using rv⟩)) (noX _)
  | none =>
    have at_ : ∀ b u, scriptH a vs ns b = some u → b = a ∧ u = .frz { cls := .type "list", data := .seq vs.toArray } (.lst (ns.map V.int)) := fun b u z => by
      unfold scriptH at z
      by_cases hb : b = a
      · rw [if_pos hb] at z
        exact ⟨hb, (Option.some.inj z).symm⟩
      · rw [if_neg hb] at z
        cases z
    refine enterG (scriptH a vs ns) (fun b u z => ?_) (fun b z => ?_) (fun b u z => ?_) KX gl bl bb lim gn room F binds (said _ (.inl (.inr ⟨{ cls := .type "list", data := .seq vs.toArray }, by unfold scriptH; rw [if_pos rfl]⟩))) (noX _)
    · obtain ⟨e, rfl⟩ := at_ b u z
      exact ⟨e, _, _, rfl⟩
    · cases q : scriptH a vs ns b with
      | none => exact (z q).elim
      | some u =>
        rw [(at_ b u q).1]
        exact hk
    · obtain ⟨rfl, rfl⟩ := at_ b u z
      exact ⟨obj, by rw [List.length_map]; exact hl, vs, _, rv, obj⟩
end
/-- the end of a law's proof: the head's facts give the law's def, the def keeps its promise -/
theorem walk_ofG {l : PySem.W.OpenLaw} {n k : Nat} {q : Program} {loose : List Str} {XP : (Str → Option Value) → Heap → Prop} {YP : World → Heap → Prop} {d : DefRec} {CX : World → CXT} {x : Str}
    (hn : l.most = some n) (hn2 : n ≤ sizeLine) (hdf : d.params.defaults = []) (room : Room k callerA)
    (F : ∀ (w : World) (mg : Str → Option Value) (fa : Addr) (h : Heap), YP w h → h.Ns mainGlobals mg → mg d.name = some (.ref fa) →
      ∃ (K : PySem.W.Frag) (fd : FuncData) (sp : Sp), K.In h ∧ (∀ (s : Shared) (u : Value), BindsTo s fd ⟨[u], []⟩ [(x, u)]) ∧
        (∀ (H : Hp) (a : Addr) (ns : List Int), ns.length ≤ n → (∀ z ∈ ns, Builtin.Int.intBits z ≤ 1048576) → SqL K H a (ns.map V.int) → sp [.ref a] H (fun v _ => v = .bl true) fun _ _ _ => False) ∧
        ∀ base : Heap, K.In base → base.Ns mainGlobals mg → FnG l.prog w K mg base (CX w) k fa fd [x] sp)
    (noX : ∀ (w : World) (H : Hp) (s : Shared) (e : Value) (s' : Shared), CX w [] H s (fun _ _ _ => False) e s' → False) :
    PySem.W.WalkO q loose XP YP l.row.toRowW d [] (fun f vs => PySem.call f vs) := by
  refine Att.attach_callB hn hdf fun w s₀ s₁ mg mb fa o pm cd doc a vs ns G Y ho hd hcd hmg hobj hints hlen hbits hg => ?_
  obtain ⟨K, fd, sp, KX, hb, said, hF⟩ := F w mg fa _ Y G.T.g hmg
  exact law_callG KX G.T.g G.T.b G.T.builtins G.T.nolimit hg hobj hints (Nat.le_trans hlen hn2) room hF hb (fun H hS => said H a ns hlen hbits hS) fun H e s' => noX w H s₁ e s'
end RT

set_option Elab.async false
set_option linter.all false
set_option maxRecDepth 100000
set_option maxHeartbeats 4000000
/-! a head whose facts are any Bools of the written part, and defs by any address (a property's getter too) -/
namespace HP
open PySem PySem.Spec PyProof.Rows L2 He
/-- a def of the text, where it stands -/
structure DefA where
  adr : PySem.W.Frag → Addr
  name : Str
  qual : Str
  params : Arguments
  body : List Stmt
  scope : Scope
  dfl : List Dv := []
  kwd : List (Str × Dv) := []
def DefA.told (K : PySem.W.Frag) (d : DefA) : FnW := match K.lookup (d.adr K) with
  | some ⟨_, _, .func fd, _⟩ => some (fd.name, fd.qualname, fd.params, fd.body, fd.scope, fd.globals, fd.closure, fd.builtins)
  | _ => none
def DefA.want (d : DefA) : FnW := some (d.name, d.qual, d.params, .stmts d.body, d.scope, mainGlobals, [], builtinsNs)
def DefA.dvs (K : PySem.W.Frag) (d : DefA) : List V := d.dfl.map (Dv.v K)
def DefA.kws (K : PySem.W.Frag) (d : DefA) : List (Str × V) := d.kwd.map fun q => (q.1, q.2.v K)
def DefA.fine (K : PySem.W.Frag) (d : DefA) : Bool := PySem.W.keepIn K (.ref (d.adr K)) && (match K.lookup (d.adr K) with
  | some ⟨_, _, .func fd, _⟩ => PySem.W.codeIn K fd.code d.qual && (dflB K fd.defaults (d.dvs K) && kwdB K fd.kwdefaults (d.kws K))
  | _ => false)
theorem DefA.funD {K : PySem.W.Frag} {d : DefA} (e : d.told K = d.want) (c : d.fine K = true) : ∃ fd, FunD K d.name d.qual d.params d.body d.scope (d.dvs K) (d.kws K) (d.adr K) fd := by
  obtain ⟨kp, more⟩ := ba c
  unfold DefA.told at e
  split at e
  · rename_i oc od fd osl at_
    rw [at_] at more
    obtain ⟨k1, k2⟩ := ba more
    obtain ⟨k3, k4⟩ := ba k2
    cases fd
    unfold DefA.want at e
    injection e with e
    simp only [Prod.mk.injEq] at e
    obtain ⟨rfl, rfl, rfl, rfl, rfl, rfl, rfl, rfl⟩ := e
    exact ⟨_, ⟨oc, od, _, _, _, _, _, _, _, osl, rfl, at_, k1, dflB_ok k3, kwdB_ok k4⟩, kp⟩
  · cases e
abbrev Fact := PySem.W.Frag → Bool
abbrev Al := Bool × List FnW
def obsA (fa : List Fact) (fn : List DefA) (K : PySem.W.Frag) : Al := ((fa.all fun f => f K) && fn.all fun d => d.fine K, fn.map fun d => d.told K)
def wantA (fn : List DefA) : Al := (true, fn.map DefA.want)
def obsAG (n : Nat) (fa : List Fact) (fn : List DefA) (g : Addr → Option Obj) : Al := obsA fa fn (frG g (asD g n))
structure SaysA (fa : List Fact) (fn : List DefA) (K : PySem.W.Frag) : Prop where
  eq : obsA fa fn K = wantA fn
def hookA (n : Nat) (fa : List Fact) (fn : List DefA) : PySem.W.Hook where
  α := Al
  obs := fun s => obsAG n fa fn s.heap.get?
  val := fun _ => wantA fn
  says := fun _ h => ∃ K : PySem.W.Frag, K.In h ∧ SaysA fa fn K
  of := fun _ _ e => ⟨_, frG_in, ⟨e⟩⟩
  keeps := fun _ _ _ ⟨K, hK, c⟩ k => ⟨K, PySem.W.Frag.In.keeps hK k, c⟩
theorem obsAG_eq {n : Nat} {fa : List Fact} {fn : List DefA} {g : Addr → Option Obj} {s : Shared} (h : ∀ a, g a = s.heap.get? a) : obsAG n fa fn g = (hookA n fa fn).obs s := by
  rw [show g = s.heap.get? from funext h] <;> rfl
section
variable {fa : List Fact} {fn : List DefA} {K : PySem.W.Frag}
theorem SaysA.fact (c : SaysA fa fn K) (i : Nat) {f : Fact} (h : fa[i]? = some f := by rfl) : f K = true :=
  List.all_eq_true.mp (ba (congrArg Prod.fst c.eq)).1 f (List.mem_of_getElem? h)
theorem SaysA.def_ (c : SaysA fa fn K) (i : Nat) {d : DefA} (h : fn[i]? = some d := by rfl) : ∃ fd, FunD K d.name d.qual d.params d.body d.scope (d.dvs K) (d.kws K) (d.adr K) fd := by
  have hd : d ∈ fn := List.mem_of_getElem? h
  refine DefA.funD ?_ (List.all_eq_true.mp (ba (congrArg Prod.fst c.eq)).2 d hd)
  have e : fn.map (fun d => d.told K) = fn.map DefA.want := congrArg Prod.snd c.eq
  have e1 := congrArg (fun l => l[i]?) e
  simp only [List.getElem?_map, h, Option.map_some, Option.some.injEq] at e1
  exact e1
end
/-! ### facts beside He.Fa's -/
/-- a property of the class x -/
def getA (x f : Str) (K : PySem.W.Frag) : Addr := match PySem.W.recIn K (ma K (ga K x) f) "property" with
  | some (.ref g :: _) => g
  | _ => 0
def propB (x f : Str) : Fact := fun K => eqO (PySem.W.findIn K (.ref (ga K x)) f) (some (some (.ref (ma K (ga K x) f)))) && (eqO (PySem.W.specialIn K (.ref (ma K (ga K x) f)) "__get__") (some (some (.builtin "property.__get__"))) && (decide (PySem.W.takesIn K (.ref (ma K (ga K x) f)) = some true) &&
  (match PySem.W.recIn K (ma K (ga K x) f) "property" with
    | some (.ref _ :: _) => true
    | _ => false)))
theorem propB_ok {x f : Str} {K : PySem.W.Frag} (h : propB x f K = true) : PropOf K (ga K x) f (ma K (ga K x) f) (getA x f K) := by
  obtain ⟨h1, h⟩ := ba h
  obtain ⟨h2, h⟩ := ba h
  obtain ⟨h3, h4⟩ := ba h
  refine ⟨eqO_ok h1, eqO_ok h2, of_decide_eq_true h3, ?_⟩
  unfold getA
  split at h4
  · rename_i g rest e
    rw [e]
    exact ⟨rest, rfl⟩
  · cases h4
/-- own operators: the class goes first in its own order; no reflected method -/
def firstB (x : Str) : Fact := fun K => PySem.W.selfFirst K (ga K x)
def notFirstB (x : Str) (t : PySem.W.Frag → Value) : Fact := fun K => PySem.W.notFirst K (ga K x) (t K)
def rightB (x : Str) (op : Operator) (T : String) : Fact := fun K => eqO (PySem.W.findIn K (.ref (ga K x)) (dunderR op.info.2)) (some none) && ((PySem.W.findIn K (.type T) (PySem.dunder op.info.2)).isSome && ((PySem.W.findIn K (.type T) (dunderR op.info.2)).isSome && decide (PySem.W.subIn K (.type T) (.ref (ga K x)) = some false)))
theorem rightB_ok {x : Str} {op : Operator} {T : String} {K : PySem.W.Frag} (h : rightB x op T K = true) : RT.RightT K (ga K x) op T := by
  obtain ⟨h1, h⟩ := ba h
  obtain ⟨h2, h⟩ := ba h
  obtain ⟨h3, h4⟩ := ba h
  exact ⟨eqO_ok h1, Option.isSome_iff_exists.mp h2, Option.isSome_iff_exists.mp h3, of_decide_eq_true h4⟩
/-- isinstance of an instance of the class x asks its class rightly -/
def isiB (x : Str) : Fact := fun K => eqO (PySem.W.findIn K (.ref (ga K x)) "__class__") (some (some (.builtin "object.__class__"))) && (eqO (PySem.W.specialIn K (.builtin "object.__class__") "__get__") (some (some (.builtin "getset_descriptor.__get__"))) && (decide (PySem.W.takesIn K (.builtin "object.__class__") = some true) && decide (PySem.W.mroIn K (ga K x) (.type "object") = some true)))
structure IsiC (K : PySem.W.Frag) (C : Addr) : Prop where
  ha : PySem.W.findIn K (.ref C) "__class__" = some (some (.builtin "object.__class__"))
  hn : PySem.W.specialIn K (.builtin "object.__class__") "__get__" = some (some (.builtin "getset_descriptor.__get__"))
  ht : PySem.W.takesIn K (.builtin "object.__class__") = some true
  hm : PySem.W.mroIn K C (.type "object") = some true
theorem isiB_ok {x : Str} {K : PySem.W.Frag} (h : isiB x K = true) : IsiC K (ga K x) := by
  obtain ⟨h1, h⟩ := ba h
  obtain ⟨h2, h⟩ := ba h
  obtain ⟨h3, h4⟩ := ba h
  exact ⟨eqO_ok h1, eqO_ok h2, of_decide_eq_true h3, of_decide_eq_true h4⟩
/-- a global that is a tuple of flat values -/
def flatOf : Value → Option V
  | .none => some .non
  | .bool b => some (.bl b)
  | .int i _ => some (.int i)
  | .str x _ => some (.str x)
  | _ => none
theorem flatOf_ok {v : Value} {x : V} (h : flatOf v = some x) : RelV x v := by
  cases v <;> simp only [flatOf, Option.some.injEq, reduceCtorEq] at h <;> subst h <;> first | rfl | exact ⟨_, rfl⟩
theorem flats_ok : ∀ {vs : List Value} {xs : List V}, vs.map flatOf = xs.map some → Vals xs vs
  | [], [], _ => .nil
  | [], _ :: _, h => by cases h
  | _ :: _, [], h => by cases h
  | v :: vs, x :: xs, h => by
    simp only [List.map_cons, List.cons.injEq] at h
    exact .cons (flatOf_ok h.1) (flats_ok h.2)
def tupB (x : Str) (xs : List V) : Fact := fun K => match K.lookup (ga K x) with
  | some o => eqO (some (some o.cls)) (some (some (.type "tuple"))) && (match o.data with
    | .seq its _ => decide (its.toList.map flatOf = xs.map some) && decide (its.size ≤ sizeLine)
    | _ => false)
  | none => false
theorem tupB_ok {x : Str} {xs : List V} {K : PySem.W.Frag} (h : tupB x xs K = true) : ∀ H : Hp, SqT K H (ga K x) xs := by
  intro H
  unfold tupB at h
  split at h
  · rename_i o e
    obtain ⟨h1, h2⟩ := ba h
    split at h2
    · rename_i its n ed
      obtain ⟨h3, h4⟩ := ba h2
      exact .inr ⟨o, its, n, e, Option.some.inj (Option.some.inj (eqO_ok h1)), ed, of_decide_eq_true h4, flats_ok (of_decide_eq_true h3)⟩
    · cases h2
  · cases h
def neB (x : Str) : Fact := fun K => eqO (PySem.W.findIn K (.ref (ga K x)) "__ne__") (some (some (.builtin "object.__ne__")))
theorem neB_ok {x : Str} {K : PySem.W.Frag} (h : neB x K = true) : PySem.W.findIn K (.ref (ga K x)) "__ne__" = some (some (.builtin "object.__ne__")) := eqO_ok h
def fnB (x m : Str) : Fact := fun K => PySem.W.fnIn K (ma K (ga K x) m)
def kitB1 (t c : PySem.W.Frag → Value) (b : Bool) : Fact := fun K => decide (PySem.W.kitOne K (t K) (c K) = some b)
def kitA1 (t : PySem.W.Frag → Value) (cs : List Str) (b : Bool) : Fact := fun K => decide (PySem.W.kitAny K (t K) (cs.map fun x => .ref (ga K x)) = some b)
def fa_ (f : Fa) : Fact := fun K => f.ok K
end HP

set_option Elab.async false
set_option linter.all false
set_option maxRecDepth 100000
set_option maxHeartbeats 4000000
/-! the top's run in parts: the looks by themselves, the facts group by group -/
namespace HP
open PySem PySem.Spec PyProof.Rows L2 He HandSHeadRun PySem.W
/-- the facts over a written list of addresses -/
def obsL (as : List Addr) (fa : List Fact) (fn : List DefA) (g : Addr → Option Obj) : Al := obsA fa fn (frG g as)
def hookL (as : List Addr) (fa : List Fact) (fn : List DefA) : PySem.W.Hook where
  α := Al
  obs := fun s => obsL as fa fn s.heap.get?
  val := fun _ => wantA fn
  says := fun _ h => ∃ K : PySem.W.Frag, K.In h ∧ SaysA fa fn K
  of := fun _ _ e => ⟨_, frG_in, ⟨e⟩⟩
  keeps := fun _ _ _ ⟨K, hK, c⟩ k => ⟨K, PySem.W.Frag.In.keeps hK k, c⟩
theorem obsL_eq {as : List Addr} {fa : List Fact} {fn : List DefA} {g : Addr → Option Obj} {s : Shared} (h : ∀ a, g a = s.heap.get? a) : obsL as fa fn g = (hookL as fa fn).obs s := by
  rw [show g = s.heap.get? from funext h] <;> rfl
/-- the looks -/
def BaseEq (r : OpenRow) (q : Program) (M : Nat) (loose : List PySem.Str) (w : World) : Prop :=
  ∀ os : OsState, (endF (stepQ (denQ tabQ) r.prog w) M r.prog w os).map (fun s => (looksF r.prog (boot_heap w.params) s.abs, seenQ q loose (importedModules r.prog.main.body) (fun s => xlAt q [] s && recOk r.toRowW.records s) s.abs)) = some (true, openGood q loose)
/-- a group of facts -/
def PartEq (r : OpenRow) (M : Nat) (as : List Addr) (fa : List Fact) (fn : List DefA) (w : World) : Prop :=
  ∀ os : OsState, (endF (stepQ (denQ tabQ) r.prog w) M r.prog w os).map (fun s => obsL as fa fn (getT s)) = some (wantA fn)
theorem obsA_app {fa fa' : List Fact} {fn fn' : List DefA} {K : Frag} (h : obsA fa fn K = wantA fn) (h' : obsA fa' fn' K = wantA fn') : obsA (fa ++ fa') (fn ++ fn') K = wantA (fn ++ fn') := by
  unfold obsA wantA at *
  simp only [Prod.mk.injEq] at h h'
  obtain ⟨h1, h2⟩ := h
  obtain ⟨h3, h4⟩ := h'
  obtain ⟨a1, a2⟩ := ba h1
  obtain ⟨b1, b2⟩ := ba h3
  rw [List.all_append, List.all_append, List.map_append, List.map_append, h2, h4, a1, a2, b1, b2]
  rfl
theorem PartEq.app {r : OpenRow} {M : Nat} {as : List Addr} {fa fa' : List Fact} {fn fn' : List DefA} {w : World} (h : PartEq r M as fa fn w) (h' : PartEq r M as fa' fn' w) : PartEq r M as (fa ++ fa') (fn ++ fn') w := by
  intro os
  have e := h os
  have e' := h' os
  cases q : endF (stepQ (denQ tabQ) r.prog w) M r.prog w os with
  | none => rw [q] at e; cases e
  | some s =>
    rw [q] at e e'
    have e1 : obsL as fa fn (getT s) = wantA fn := Option.some.inj e
    have e2 : obsL as fa' fn' (getT s) = wantA fn' := Option.some.inj e'
    show some (obsL as (fa ++ fa') (fn ++ fn') (getT s)) = _
    exact congrArg some (obsA_app e1 e2)
theorem run_join {r : OpenRow} {q : Program} {M : Nat} {as : List Addr} {loose : List PySem.Str} {fa : List Fact} {fn : List DefA} {w : World} (h0 : BaseEq r q M loose w) (h : PartEq r M as fa fn w) :
    RunEq r q (hookL as fa fn) (fun s => obsL as fa fn (getT s)) M loose w := by
  intro os
  have e0 := h0 os
  have e := h os
  cases z : endF (stepQ (denQ tabQ) r.prog w) M r.prog w os with
  | none => rw [z] at e; cases e
  | some s =>
    rw [z] at e0 e
    have e1 := Option.some.inj e0
    have e2 : obsL as fa fn (getT s) = wantA fn := Option.some.inj e
    simp only [Prod.mk.injEq] at e1
    exact congrArg some (Prod.ext e1.1 (Prod.ext e1.2 e2))
end HP
namespace HP
open PySem PySem.Spec PyProof.Rows L2 He HandSHeadRun PySem.W
/-- what isinstance asks of a caught exception's class -/
def excCB (x : Str) : Fact := fun K => eqO (findIn K (.ref (ga K x)) "__getattribute__") (some (some (.builtin "BaseException.__getattribute__"))) && (eqO (findIn K (.ref (ga K x)) "__getattr__") (some none) && (decide (subIn K (.ref (ga K x)) (.type "BaseException") = some true) && (hasDictIn K (ga K x) &&
  (eqO (findIn K (.ref (ga K x)) "__class__") (some (some (.builtin "object.__class__"))) && (eqO (specialIn K (.builtin "object.__class__") "__get__") (some (some (.builtin "getset_descriptor.__get__"))) && (decide (takesIn K (.builtin "object.__class__") = some true) && decide (mroIn K (ga K x) (.type "object") = some true)))))))
theorem excCB_ok {x : Str} {K : Frag} (h : excCB x K = true) : ExcC K (ga K x) := by
  obtain ⟨h1, h⟩ := ba h
  obtain ⟨h2, h⟩ := ba h
  obtain ⟨h3, h⟩ := ba h
  obtain ⟨h4, h⟩ := ba h
  obtain ⟨h5, h⟩ := ba h
  obtain ⟨h6, h⟩ := ba h
  obtain ⟨h7, h8⟩ := ba h
  exact ⟨eqO_ok h1, eqO_ok h2, of_decide_eq_true h3, h4, eqO_ok h5, eqO_ok h6, of_decide_eq_true h7, of_decide_eq_true h8⟩
end HP

set_option Elab.async false
set_option linter.all false
set_option maxRecDepth 100000
set_option maxHeartbeats 4000000
/-! facts about own exceptions with an own __init__ -/
namespace HX
open PySem PySem.Spec PyProof.Rows L2 He HandSHeadRun PySem.W HP
def oexK (K : Frag) (C : Addr) : Bool := match K.lookup C with
  | some ⟨.type "type", _, .cls cd, sl⟩ => (match cd.mro, sl.toList with
    | .ref C' :: bm, [_, _, _, _, some (.builtin n), _] => C' == C && n == "ValueError.__new__" && !cd.hasDel && cd.hasDict && PySem.HandSPX.refsVE bm
    | _, _ => false)
  | _ => false
def oexB (x : Str) : Fact := fun K => oexK K (ga K x) && (eqO (findIn K (.ref (ga K x)) "__setattr__") (some (some (.builtin "object.__setattr__"))) && (decide (subIn K (.ref (ga K x)) (.type "BaseException") = some true) && (decide (typeIn K (.ref (ga K x)) = some (.type "type")) && keepIn K (.ref (ga K x)))))
theorem oexB_ok {x : Str} {K : Frag} (h : oexB x K = true) : OexC K (ga K x) := by
  obtain ⟨q, h⟩ := ba h
  obtain ⟨h2, h⟩ := ba h
  obtain ⟨h3, h⟩ := ba h
  obtain ⟨h4, h5⟩ := ba h
  refine ⟨?_, eqO_ok h2, of_decide_eq_true h3, of_decide_eq_true h4, h5⟩
  unfold oexK at q
  split at q
  · rename_i dd cd sl ho
    split at q
    · rename_i C' bm k0 k1 k2 k3 n k5 hm hs
      simp only [Bool.and_eq_true, beq_iff_eq, Bool.not_eq_true'] at q
      obtain ⟨⟨⟨⟨rfl, rfl⟩, hdel⟩, hdi⟩, ht⟩ := q
      obtain ⟨nm, bs, mro, ns, qn, hd, sn, sub, ab, col, del⟩ := cd
      dsimp only at hm hdel hdi
      subst hm hdel hdi
      have hsl : sl = #[k0, k1, k2, k3, some (.builtin "ValueError.__new__"), k5] := by
        obtain ⟨l⟩ := sl
        simp only at hs
        rw [hs]
      subst hsl
      exact ⟨nm, qn, ns, bs, bm, sn, sub, ab, col, dd, k0, k1, k2, k3, k5, ho, ht⟩
    · cases q
  · cases q
/-- an own __init__ -/
def oinB (x : Str) : Fact := fun K => eqO (findIn K (.ref (ga K x)) "__init__") (some (some (.ref (fAd K (x, some "__init__"))))) && decide (typeIn K (.ref (fAd K (x, some "__init__"))) = some (.type "function"))
theorem oinB_ok {x : Str} {K : Frag} (h : oinB x K = true) : findIn K (.ref (ga K x)) "__init__" = some (some (.ref (fAd K (x, some "__init__")))) ∧ typeIn K (.ref (fAd K (x, some "__init__"))) = some (.type "function") := by
  obtain ⟨h1, h2⟩ := ba h
  exact ⟨eqO_ok h1, of_decide_eq_true h2⟩
/-- Base.__init__ of an own class over ValueError without an own one -/
def ceB (x : Str) : Fact := fun K => eqO (specialIn K (.ref (ga K x)) "__getattribute__") (some (some (.builtin "type.__getattribute__"))) && (decide (typeIn K (.ref (ga K x)) = some (.type "type")) && (readsIn K (ga K x) (.type "type") && (match findCls K (.ref (ga K x)) (.type "type") "__init__" with
  | some (.val (.builtin b)) => b == "ValueError.__init__"
  | _ => false)))
theorem ceB_ok {x : Str} {K : Frag} (h : ceB x K = true) : specialIn K (.ref (ga K x)) "__getattribute__" = some (some (.builtin "type.__getattribute__")) ∧ typeIn K (.ref (ga K x)) = some (.type "type") ∧ readsIn K (ga K x) (.type "type") = true ∧ findCls K (.ref (ga K x)) (.type "type") "__init__" = some (.val (.builtin "ValueError.__init__")) := by
  obtain ⟨h1, h⟩ := ba h
  obtain ⟨h2, h⟩ := ba h
  obtain ⟨h3, h4⟩ := ba h
  refine ⟨eqO_ok h1, of_decide_eq_true h2, h3, ?_⟩
  split at h4
  · rename_i b e
    rw [e, beq_iff_eq.mp h4]
  · cases h4
/-- no attribute of the class -/
def noB (x f : Str) : Fact := fun K => eqO (findIn K (.ref (ga K x)) f) (some none)
theorem noB_ok {x f : Str} {K : Frag} (h : noB x f K = true) : findIn K (.ref (ga K x)) f = some none := eqO_ok h
end HX

set_option Elab.async false
set_option linter.all false
set_option maxRecDepth 100000
set_option maxHeartbeats 4000000
/-! values as data: lists, tuples, small dicts, flat values; their repr, their type -/
namespace DQ
open PySem PySem.Spec PyProof.Rows L2 RT
mutual
inductive Dq (H : Hp) : V → PyData → Prop
  | non : Dq H .non .none
  | bl (b : Bool) : Dq H (.bl b) (.bool b)
  | int (i : Int) : Dq H (.int i) (.int i)
  | str (x : Str) : Dq H (.str x) (.str x)
  | lst {a : Addr} {xs : List V} {ds : List PyData} (e : H a = some (.lst xs)) (h : DqA H xs ds) : Dq H (.ref a) (.list ds)
  | tup {a : Addr} {xs : List V} {ds : List PyData} (e : H a = some (.tup xs)) (h : DqA H xs ds) : Dq H (.ref a) (.tuple ds)
  | d0 {a : Addr} (e : H a = some (.dT [])) : Dq H (.ref a) (.dict [])
  | d1 {a : Addr} {k : Int} {v : V} {d : PyData} (e : H a = some (.dK [(.inl k, v)])) (h : Dq H v d) : Dq H (.ref a) (.dict [(.int k, d)])
inductive DqA (H : Hp) : List V → List PyData → Prop
  | nil : DqA H [] []
  | cons {v : V} {vs : List V} {d : PyData} {ds : List PyData} (h : Dq H v d) (t : DqA H vs ds) : DqA H (v :: vs) (d :: ds)
end
mutual
theorem Dq.same {H H' : Hp} (e : Same H H') : ∀ {v : V} {d : PyData}, Dq H v d → Dq H' v d
  | _, _, .non => .non
  | _, _, .bl b => .bl b
  | _, _, .int i => .int i
  | _, _, .str x => .str x
  | _, _, .lst h k => .lst (e _ _ h) (DqA.same e k)
  | _, _, .tup h k => .tup (e _ _ h) (DqA.same e k)
  | _, _, .d0 h => .d0 (e _ _ h)
  | _, _, .d1 h k => .d1 (e _ _ h) (Dq.same e k)
theorem DqA.same {H H' : Hp} (e : Same H H') : ∀ {vs : List V} {ds : List PyData}, DqA H vs ds → DqA H' vs ds
  | _, _, .nil => .nil
  | _, _, .cons h t => .cons (Dq.same e h) (DqA.same e t)
end
theorem DqA.len {H : Hp} : ∀ {vs : List V} {ds : List PyData}, DqA H vs ds → vs.length = ds.length
  | _, _, .nil => rfl
  | _, _, .cons _ t => congrArg (· + 1) t.len
theorem DqA.app {H : Hp} : ∀ {vs us : List V} {ds es : List PyData}, DqA H vs ds → DqA H us es → DqA H (vs ++ us) (ds ++ es)
  | _, _, _, _, .nil, k => k
  | _, _, _, _, .cons h t, k => .cons h (t.app k)
theorem DqA.take {H : Hp} : ∀ {vs : List V} {ds : List PyData} (n : Nat), DqA H vs ds → DqA H (vs.take n) (ds.take n)
  | _, _, 0, _ => .nil
  | _, _, _ + 1, .nil => .nil
  | _, _, n + 1, .cons h t => .cons h (t.take n)
theorem DqA.drop {H : Hp} : ∀ {vs : List V} {ds : List PyData} (n : Nat), DqA H vs ds → DqA H (vs.drop n) (ds.drop n)
  | _, _, 0, h => h
  | _, _, _ + 1, .nil => .nil
  | _, _, n + 1, .cons _ t => t.drop n
theorem DqA.get {H : Hp} : ∀ {vs : List V} {ds : List PyData}, DqA H vs ds → ∀ {i : Nat} {v : V}, vs[i]? = some v → ∃ d, ds[i]? = some d ∧ Dq H v d
  | _, _, .nil, i, v, e => by cases e
  | _, _, .cons h r, 0, v, e => by cases e; exact ⟨_, rfl, h⟩
  | _, _, .cons h r, i + 1, v, e => r.get e
/-- the module table is no list -/
def SysOk (K : PySem.W.Frag) : Prop := ∃ o, K.lookup sysModules = some o ∧ o.cls ≠ .type "list"
def sysB : HP.Fact := fun K => match K.lookup sysModules with
  | some o => !decide (o.cls = .type "list")
  | none => false
theorem sysB_ok {K : PySem.W.Frag} (h : sysB K = true) : SysOk K := by
  unfold sysB at h
  split at h
  · rename_i o e
    exact ⟨o, e, fun z => by rw [decide_eq_true z] at h; cases h⟩
  · cases h
section
variable {X : Cx} {pins : List (Addr × Obj)} {σ : L2.St} {H : Hp} {s : Shared}
theorem keyIs_inl {k : Int} {v : Value} (h : keyIs (.inl k) v = true) : ∃ t, v = .int k t := by
  rcases keyIs_shape h with ⟨i, t, e, rfl⟩ | ⟨x, t, e, _⟩
  · cases e
    exact ⟨t, rfl⟩
  · cases e
theorem PairsOne {knd : KeyKind X.prog X.w L2.Key} {en : DictEntry} {rest : List DictEntry} {k : L2.Key} {v : Value} (h : Pairs knd (en :: rest) [(k, v)]) : knd.is k en.key = true ∧ en.val = v ∧ rest = [] := by
  generalize e : [(k, v)] = l at h
  cases h with
  | cons h1 h2 h3 =>
    cases e
    cases h3
    exact ⟨h1, h2, rfl⟩
mutual
theorem Dq.reads (I : Inv X pins σ H s) (sm : SysOk X.K) : ∀ {v : V} {d : PyData}, Dq H v d → ∀ {u : Value}, RelV v u → ∃ as, Reads s.heap u d as ∧ sysModules ∉ as
  | _, _, .non, u, r => by cases r; exact ⟨_, Reads.none, List.not_mem_nil⟩
  | _, _, .bl b, u, r => by cases r; exact ⟨_, Reads.bool b, List.not_mem_nil⟩
  | _, _, .int i, u, r => by obtain ⟨t, rfl⟩ := r; exact ⟨_, Reads.int i t, List.not_mem_nil⟩
  | _, _, .str x, u, r => by obtain ⟨t, rfl⟩ := r; exact ⟨_, Reads.str x t, List.not_mem_nil⟩
  | _, _, .lst (a := a) h k, u, r => by
    cases r
    obtain ⟨_, its, n, rv, e⟩ := I.hok a _ h
    obtain ⟨as, hr, hn⟩ := DqA.reads I sm k rv
    refine ⟨a :: as, Reads.list e rfl rfl (by simpa using hr), fun z => ?_⟩
    rcases List.mem_cons.mp z with z | z
    · obtain ⟨o, ho, hc⟩ := sm
      have := I.kIn _ _ ho
      rw [z, e] at this
      cases this
      exact hc rfl
    · exact hn z
  | _, _, .tup (a := a) h k, u, r => by
    cases r
    obtain ⟨_, its, rv, o, ho, hc, n, hd⟩ := I.hok a _ h
    obtain ⟨as, hr, hn⟩ := DqA.reads I sm k rv
    exact ⟨as, Reads.tuple ho hc hd (by simpa using hr), hn⟩
  | _, _, .d0 (a := a) h, u, r => by
    cases r
    obtain ⟨_, ne, xs, px, o, es, ep, ho, hx, hd, he, _⟩ := I.hok a _ h
    cases px
    refine ⟨a :: [] ++ [], Reads.dict ho hx.1 hd ?_ ?_, fun z => ?_⟩
    · rw [he]; exact ReadsAll.nil
    · rw [he]; exact ReadsAll.nil
    · rcases List.mem_cons.mp z with z | z
      · rw [← z] at ne
        cases ne
      · cases z
  | _, _, .d1 (a := a) h k, u, r => by
    cases r
    obtain ⟨_, ne, vs, kv, o, es, ep, ho, hx, hd, ks, ps, _⟩ := I.hok a _ h
    cases kv with
    | cons p t =>
      cases t
      cases es_e : es.toList with
      | nil => rw [es_e] at ps; cases ps
      | cons en rest =>
        rw [es_e] at ps
        rename_i b
        obtain ⟨bk, bv⟩ := b
        obtain ⟨p1, p2⟩ := p
        simp only at p1 p2
        obtain ⟨hk, hv, hr0⟩ := PairsOne ps
        subst hr0
        rw [← p1] at hk
        rw [← hv] at p2
        obtain ⟨t, ek⟩ := keyIs_inl hk
        obtain ⟨as, hr, hn⟩ := Dq.reads I sm k p2
        refine ⟨a :: ([] ++ []) ++ (as ++ []), Reads.dict ho hx.1 hd ?_ ?_, fun z => ?_⟩
        · rw [es_e]
          show ReadsAll s.heap [en.key] [.int _] ([] ++ [])
          rw [ek]
          exact .cons (.int _ t) .nil
        · rw [es_e]
          show ReadsAll s.heap [en.val] [_] (as ++ [])
          exact .cons hr .nil
        · rw [List.append_nil, List.append_nil] at z
          rcases List.mem_cons.mp z with z | z
          · rw [← z] at ne
            cases ne
          · exact hn z
theorem DqA.reads (I : Inv X pins σ H s) (sm : SysOk X.K) : ∀ {vs : List V} {ds : List PyData}, DqA H vs ds → ∀ {us : List Value}, Vals vs us → ∃ as, ReadsAll s.heap us ds as ∧ sysModules ∉ as
  | _, _, .nil, us, r => by cases r; exact ⟨_, ReadsAll.nil, List.not_mem_nil⟩
  | _, _, .cons h t, us, r => by
    cases r with
    | cons r1 r2 =>
      obtain ⟨as, q1, n1⟩ := Dq.reads I sm h r1
      obtain ⟨bs, q2, n2⟩ := DqA.reads I sm t r2
      exact ⟨_, ReadsAll.cons q1 q2, fun z => (List.mem_append.mp z).elim n1 n2⟩
end

/-- repr of data, small dicts too -/
def rReprQ (K : PySem.W.Frag) : List V → Hp → VK → Prop := fun xs H Q => ∃ (a : Addr) (d : PyData), xs = [.ref a] ∧ Dq H (.ref a) d ∧ d.showable = true ∧ d.depth ≤ 40 ∧ d.shown.length ≤ sizeLine ∧ Q (.str d.shown) H
theorem call_reprQ (sm : SysOk X.K) (hG : X.A.guards = some []) (hu : X.A.units + 64 < cLine) : CallR X (.builtin "repr") (rReprQ X.K) := by
  intro pins s σ H xs us Q I r h
  obtain ⟨a, d, rfl, D, hs, hz, hl, q⟩ := h
  obtain ⟨u, rfl, ru⟩ := vals1' r
  obtain ⟨as, rd, hn⟩ := D.reads I sm ru
  cases (show u = Value.ref a from ru)
  exact repr_of_reads' rd hs (fun _ => hn) hG (by omega) (fun _ _ e => e) (fun h' u tk k => ⟨.str d.shown, H, I.kept k, ⟨u, rfl⟩, q⟩) hl
/-- xs.count(y), flat items -/
def rCntF (K : PySem.W.Frag) : V → List V → Hp → VK → Prop := fun x xs H Q => ∃ (p : Addr) (ys : List V) (y : V), x = .ref p ∧ xs = [y] ∧ SqL K H p ys ∧ flatV y = true ∧ ys.all flatV = true ∧ Q (.int (ys.countP (fun z => eqV z y) : Nat)) H
theorem cnt_eq {y : V} : ∀ {ys : List V} {us : List Value}, Vals ys us → ys.all flatV = true → us.countP (eqU y) = ys.countP (fun z => eqV z y)
  | _, _, .nil, _ => rfl
  | z :: ys, u :: us, .cons r t, f => by
    rw [List.all_cons, Bool.and_eq_true] at f
    rw [List.countP_cons, List.countP_cons, cnt_eq t f.2, eqU_of r f.1]
theorem mt_countF : MtR X "list.count" (rCntF X.K) := by
  intro pins s σ H x xs v us Q I rx rxs h
  obtain ⟨p, ys, y, rfl, rfl, hs, fy, fys, q⟩ := h
  cases rx
  obtain ⟨u, rfl, ru⟩ := rxs.one
  obtain ⟨its, rv, ⟨⟨cls, dd, data, sl⟩, n, ho, hc, hdn, hd⟩, hlen⟩ := I.list hs
  simp only at hc hd
  subst hc hd
  refine call_meets PySem.F.slot_list_count ⟨_, ho, rfl⟩ PySem.F.entry_list_count (PySem.F.args_list_count_2 _ _)
    (SeqAt.list_countAt p its.toArray n dd sl u (eqU y)) ⟨ho, fun u' hu' => mem_eqAt ru fy rv fys u' (by simpa using hu'), ?_⟩
  refine ⟨.int _, H, I.tok _, ⟨s.toks, ?_⟩, q⟩
  show Value.int ((its.toArray.toList.countP (eqU y) : Nat) : Int) s.toks = _
  rw [show its.toArray.toList = its from by simp, cnt_eq rv fys]
end
/-! ### kinds -/
def typS : PyData → String
  | .none => "NoneType"
  | .bool _ => "bool"
  | .int _ => "int"
  | .str _ => "str"
  | .list _ => "list"
  | .tuple _ => "tuple"
  | .dict _ => "dict"
theorem Dq.ty {K : PySem.W.Frag} {H : Hp} {v : V} {d : PyData} (h : Dq H v d) : TyY K H v (.type (typS d)) := by
  cases h with
  | non => exact .base (.base .non)
  | bl b => exact .base (.base (.bl b))
  | int i => exact .base (.base (.int i))
  | str x => exact .base (.base (.str x))
  | lst h => exact .base (.base (.lst h))
  | tup h => exact .base (.base (.tup h))
  | d0 h => exact .base (.base (.dT h))
  | d1 h => exact .base (.base (.dK h))
def isI : PyData → Bool
  | .int _ => true
  | _ => false
def isB : PyData → Bool
  | .bool _ => true
  | _ => false
def isT : PyData → Bool
  | .tuple _ => true
  | _ => false
def isL : PyData → Bool
  | .list _ => true
  | _ => false
theorem kit_int {K : PySem.W.Frag} (d : PyData) : PySem.W.kitOne K (.type (typS d)) (.type "int") = some (isI d || isB d) := by
  cases d <;> (refine kit_ty ?_; dsimp only [typS, isI, isB, isT, isL]; decide +kernel)
theorem kit_bool {K : PySem.W.Frag} (d : PyData) : PySem.W.kitOne K (.type (typS d)) (.type "bool") = some (isB d) := by
  cases d <;> (refine kit_ty ?_; dsimp only [typS, isI, isB, isT, isL]; decide +kernel)
theorem kit_tuple {K : PySem.W.Frag} (d : PyData) : PySem.W.kitOne K (.type (typS d)) (.type "tuple") = some (isT d) := by
  cases d <;> (refine kit_ty ?_; dsimp only [typS, isI, isB, isT, isL]; decide +kernel)
theorem kit_list {K : PySem.W.Frag} (d : PyData) : PySem.W.kitOne K (.type (typS d)) (.type "list") = some (isL d) := by
  cases d <;> (refine kit_ty ?_; dsimp only [typS, isI, isB, isT, isL]; decide +kernel)
/-- promises may be joined -/
theorem FnOk_or {P : Program} {w : World} {K : PySem.W.Frag} {mg : Str → Option Value} {base : Heap} {CX : CXT} {k : Nat} {f : Addr} {fd : FuncData} {ps : List Str} {sp sp' : Sp} (F : FnOk P w K mg base CX k f fd ps sp) (G : FnOk P w K mg base CX k f fd ps sp') :
    FnOk P w K mg base CX k f fd ps (fun vs H Q E => sp vs H Q E ∨ sp' vs H Q E) :=
  ⟨fun vs H Q E h => h.elim (F.len vs H Q E) (G.len vs H Q E), fun A outer s H args us vs Q E hr env hb hv h => h.elim (F.run A outer s H args us vs Q E hr env hb hv) (G.run A outer s H args us vs Q E hr env hb hv)⟩
end DQ

set_option Elab.async false
set_option linter.all false
set_option maxRecDepth 100000
set_option maxHeartbeats 4000000
namespace K05
open PySem PySem.Spec PyProof.Rows L2 RT
def top (i : Nat) : Stmt := PySem.Challenge.pw_plotpens_k05_steps_of_programs.main.body.getD i (.Pass ⟨0, 0, 0, 0⟩)
abbrev sInvalidText_init : Stmt := inClass (top 2) 0
abbrev sTooDeep_init : Stmt := inClass (top 3) 0
abbrev sTooLarge_init : Stmt := inClass (top 4) 0
abbrev sis_integer : Stmt := top 13
abbrev sis_integer_within : Stmt := top 14
abbrev sis_decimal : Stmt := top 15
abbrev scheck_times : Stmt := top 16
abbrev swords_of : Stmt := top 23
abbrev sis_letter : Stmt := top 24
abbrev snumber_of : Stmt := top 25
abbrev swrong_word : Stmt := top 26
abbrev smirrored : Stmt := top 27
abbrev sbackward : Stmt := top 28
abbrev s_is_counted : Stmt := top 29
abbrev s_is_number : Stmt := top 30
abbrev sPart_init : Stmt := inClass (top 32) 0
abbrev ssize_of : Stmt := top 33
abbrev slevels_of : Stmt := top 34
abbrev sparts_of_words : Stmt := top 35
abbrev s_parts_from : Stmt := top 36
abbrev sstep_in : Stmt := top 37
abbrev scount_in : Stmt := top 38
abbrev ssteps_in : Stmt := top 39
abbrev s_steps_of_part : Stmt := top 40
abbrev s_steps_of_repeat : Stmt := top 41
abbrev sProgram_init : Stmt := inClass (top 44) 0
abbrev sProgram_text : Stmt := inClass (top 44) 1
abbrev sProgram_length : Stmt := inClass (top 44) 2
abbrev sProgram_depth : Stmt := inClass (top 44) 3
abbrev sProgram_len : Stmt := inClass (top 44) 4
abbrev sProgram_eq : Stmt := inClass (top 44) 5
abbrev sProgram_contains : Stmt := inClass (top 44) 6
abbrev sProgram_add : Stmt := inClass (top 44) 7
abbrev sProgram_mul : Stmt := inClass (top 44) 8
abbrev sProgram_neg : Stmt := inClass (top 44) 9
abbrev sProgram_invert : Stmt := inClass (top 44) 10
abbrev sstep_at : Stmt := top 45
abbrev ssteps_from : Stmt := top 46
abbrev scount_steps : Stmt := top 47
abbrev swritten : Stmt := top 48
abbrev scheck_text : Stmt := top 49
abbrev scheck_program : Stmt := top 50
abbrev scheck_length : Stmt := top 51
abbrev scheck_index : Stmt := top 52
abbrev s_law_bag : Stmt := top 54
abbrev s_law_pick : Stmt := top 55
abbrev s_law_number : Stmt := top 56
abbrev s_law_words : Stmt := top 57
abbrev s_law_length : Stmt := top 58
abbrev s_law_steps : Stmt := top 59
abbrev s_law_short : Stmt := top 60
abbrev s_law_short_right : Stmt := top 61
abbrev s_law_at : Stmt := top 62
abbrev s_law_count : Stmt := top 63
abbrev s_law_far_right : Stmt := top 64
abbrev slaw : Stmt := top 65
abbrev NInvalidText_init : List Str := ["self", "index"]
theorem scInvalidText_init : FnScope NInvalidText_init ["self", "index"] (defScope sInvalidText_init) := ⟨rfl, rfl, rfl, by decide +kernel, rfl, by decide +kernel, by decide +kernel⟩
abbrev NTooDeep_init : List Str := ["self", "limit"]
theorem scTooDeep_init : FnScope NTooDeep_init ["self", "limit"] (defScope sTooDeep_init) := ⟨rfl, rfl, rfl, by decide +kernel, rfl, by decide +kernel, by decide +kernel⟩
abbrev NTooLarge_init : List Str := ["self", "limit"]
theorem scTooLarge_init : FnScope NTooLarge_init ["self", "limit"] (defScope sTooLarge_init) := ⟨rfl, rfl, rfl, by decide +kernel, rfl, by decide +kernel, by decide +kernel⟩
abbrev Nis_integer : List Str := ["value"]
theorem scis_integer : FnScope Nis_integer ["value"] (defScope sis_integer) := ⟨rfl, rfl, rfl, by decide +kernel, rfl, by decide +kernel, by decide +kernel⟩
abbrev Nis_integer_within : List Str := ["value", "least", "most"]
theorem scis_integer_within : FnScope Nis_integer_within ["value", "least", "most"] (defScope sis_integer_within) := ⟨rfl, rfl, rfl, by decide +kernel, rfl, by decide +kernel, by decide +kernel⟩
abbrev Nis_decimal : List Str := ["word"]
theorem scis_decimal : FnScope Nis_decimal ["word"] (defScope sis_decimal) := ⟨rfl, rfl, rfl, by decide +kernel, rfl, by decide +kernel, by decide +kernel⟩
abbrev Ncheck_times : List Str := ["times"]
theorem sccheck_times : FnScope Ncheck_times ["times"] (defScope scheck_times) := ⟨rfl, rfl, rfl, by decide +kernel, rfl, by decide +kernel, by decide +kernel⟩
abbrev Nwords_of : List Str := ["text"]
theorem scwords_of : FnScope Nwords_of ["text"] (defScope swords_of) := ⟨rfl, rfl, rfl, by decide +kernel, rfl, by decide +kernel, by decide +kernel⟩
abbrev Nis_letter : List Str := ["value"]
theorem scis_letter : FnScope Nis_letter ["value"] (defScope sis_letter) := ⟨rfl, rfl, rfl, by decide +kernel, rfl, by decide +kernel, by decide +kernel⟩
abbrev Nnumber_of : List Str := ["word"]
theorem scnumber_of : FnScope Nnumber_of ["word"] (defScope snumber_of) := ⟨rfl, rfl, rfl, by decide +kernel, rfl, by decide +kernel, by decide +kernel⟩
abbrev Nwrong_word : List Str := ["words", "names", "depth", "at", "word", "opens", "closes", "needed"]
theorem scwrong_word : FnScope Nwrong_word ["words", "names"] (defScope swrong_word) := ⟨rfl, rfl, rfl, by decide +kernel, rfl, by decide +kernel, by decide +kernel⟩
abbrev Nmirrored : List Str := ["words"]
theorem scmirrored : FnScope Nmirrored ["words"] (defScope smirrored) := ⟨rfl, rfl, rfl, by decide +kernel, rfl, by decide +kernel, by decide +kernel⟩
abbrev Nbackward : List Str := ["words", "found", "numbers", "word"]
theorem scbackward : FnScope Nbackward ["words"] (defScope sbackward) := ⟨rfl, rfl, rfl, by decide +kernel, rfl, by decide +kernel, by decide +kernel⟩
abbrev N_is_counted : List Str := ["word"]
theorem sc_is_counted : FnScope N_is_counted ["word"] (defScope s_is_counted) := ⟨rfl, rfl, rfl, by decide +kernel, rfl, by decide +kernel, by decide +kernel⟩
abbrev N_is_number : List Str := ["digits"]
theorem sc_is_number : FnScope N_is_number ["digits"] (defScope s_is_number) := ⟨rfl, rfl, rfl, by decide +kernel, rfl, by decide +kernel, by decide +kernel⟩
abbrev NPart_init : List Str := ["self", "letter", "times", "inner"]
theorem scPart_init : FnScope NPart_init ["self", "letter", "times", "inner"] (defScope sPart_init) := ⟨rfl, rfl, rfl, by decide +kernel, rfl, by decide +kernel, by decide +kernel⟩
abbrev Nsize_of : List Str := ["parts"]
theorem scsize_of : FnScope Nsize_of ["parts"] (defScope ssize_of) := ⟨rfl, rfl, rfl, by decide +kernel, rfl, by decide +kernel, by decide +kernel⟩
abbrev Nlevels_of : List Str := ["parts"]
theorem sclevels_of : FnScope Nlevels_of ["parts"] (defScope slevels_of) := ⟨rfl, rfl, rfl, by decide +kernel, rfl, by decide +kernel, by decide +kernel⟩
abbrev Nparts_of_words : List Str := ["words", "parts", "_"]
theorem scparts_of_words : FnScope Nparts_of_words ["words"] (defScope sparts_of_words) := ⟨rfl, rfl, rfl, by decide +kernel, rfl, by decide +kernel, by decide +kernel⟩
abbrev N_parts_from : List Str := ["words", "start", "parts", "at", "inner"]
theorem sc_parts_from : FnScope N_parts_from ["words", "start"] (defScope s_parts_from) := ⟨rfl, rfl, rfl, by decide +kernel, rfl, by decide +kernel, by decide +kernel⟩
abbrev Nstep_in : List Str := ["parts", "index", "at", "part"]
theorem scstep_in : FnScope Nstep_in ["parts", "index"] (defScope sstep_in) := ⟨rfl, rfl, rfl, by decide +kernel, rfl, by decide +kernel, by decide +kernel⟩
abbrev Ncount_in : List Str := ["parts", "letter", "total", "part", "once"]
theorem sccount_in : FnScope Ncount_in ["parts", "letter"] (defScope scount_in) := ⟨rfl, rfl, rfl, by decide +kernel, rfl, by decide +kernel, by decide +kernel⟩
abbrev Nsteps_in : List Str := ["parts", "index", "part"]
abbrev N_steps_of_part : List Str := ["part", "index", "left"]
abbrev N_steps_of_repeat : List Str := ["part", "index", "rounds", "rest"]
abbrev NProgram_init : List Str := ["self", "text"]
theorem scProgram_init : FnScope NProgram_init ["self", "text"] (defScope sProgram_init) := ⟨rfl, rfl, rfl, by decide +kernel, rfl, by decide +kernel, by decide +kernel⟩
abbrev NProgram_text : List Str := ["self"]
theorem scProgram_text : FnScope NProgram_text ["self"] (defScope sProgram_text) := ⟨rfl, rfl, rfl, by decide +kernel, rfl, by decide +kernel, by decide +kernel⟩
abbrev NProgram_length : List Str := ["self"]
theorem scProgram_length : FnScope NProgram_length ["self"] (defScope sProgram_length) := ⟨rfl, rfl, rfl, by decide +kernel, rfl, by decide +kernel, by decide +kernel⟩
abbrev NProgram_depth : List Str := ["self"]
theorem scProgram_depth : FnScope NProgram_depth ["self"] (defScope sProgram_depth) := ⟨rfl, rfl, rfl, by decide +kernel, rfl, by decide +kernel, by decide +kernel⟩
abbrev NProgram_len : List Str := ["self"]
theorem scProgram_len : FnScope NProgram_len ["self"] (defScope sProgram_len) := ⟨rfl, rfl, rfl, by decide +kernel, rfl, by decide +kernel, by decide +kernel⟩
abbrev NProgram_eq : List Str := ["self", "other"]
theorem scProgram_eq : FnScope NProgram_eq ["self", "other"] (defScope sProgram_eq) := ⟨rfl, rfl, rfl, by decide +kernel, rfl, by decide +kernel, by decide +kernel⟩
abbrev NProgram_contains : List Str := ["self", "x"]
theorem scProgram_contains : FnScope NProgram_contains ["self", "x"] (defScope sProgram_contains) := ⟨rfl, rfl, rfl, by decide +kernel, rfl, by decide +kernel, by decide +kernel⟩
abbrev NProgram_add : List Str := ["self", "other"]
theorem scProgram_add : FnScope NProgram_add ["self", "other"] (defScope sProgram_add) := ⟨rfl, rfl, rfl, by decide +kernel, rfl, by decide +kernel, by decide +kernel⟩
abbrev NProgram_mul : List Str := ["self", "other"]
theorem scProgram_mul : FnScope NProgram_mul ["self", "other"] (defScope sProgram_mul) := ⟨rfl, rfl, rfl, by decide +kernel, rfl, by decide +kernel, by decide +kernel⟩
abbrev NProgram_neg : List Str := ["self"]
theorem scProgram_neg : FnScope NProgram_neg ["self"] (defScope sProgram_neg) := ⟨rfl, rfl, rfl, by decide +kernel, rfl, by decide +kernel, by decide +kernel⟩
abbrev NProgram_invert : List Str := ["self"]
theorem scProgram_invert : FnScope NProgram_invert ["self"] (defScope sProgram_invert) := ⟨rfl, rfl, rfl, by decide +kernel, rfl, by decide +kernel, by decide +kernel⟩
abbrev Nstep_at : List Str := ["program", "index"]
theorem scstep_at : FnScope Nstep_at ["program", "index"] (defScope sstep_at) := ⟨rfl, rfl, rfl, by decide +kernel, rfl, by decide +kernel, by decide +kernel⟩
abbrev Nsteps_from : List Str := ["program", "index"]
abbrev Ncount_steps : List Str := ["program", "letter"]
theorem sccount_steps : FnScope Ncount_steps ["program", "letter"] (defScope scount_steps) := ⟨rfl, rfl, rfl, by decide +kernel, rfl, by decide +kernel, by decide +kernel⟩
abbrev Nwritten : List Str := ["program"]
theorem scwritten : FnScope Nwritten ["program"] (defScope swritten) := ⟨rfl, rfl, rfl, by decide +kernel, rfl, by decide +kernel, by decide +kernel⟩
abbrev Ncheck_text : List Str := ["text", "wrong"]
theorem sccheck_text : FnScope Ncheck_text ["text"] (defScope scheck_text) := ⟨rfl, rfl, rfl, by decide +kernel, rfl, by decide +kernel, by decide +kernel⟩
abbrev Ncheck_program : List Str := ["program"]
theorem sccheck_program : FnScope Ncheck_program ["program"] (defScope scheck_program) := ⟨rfl, rfl, rfl, by decide +kernel, rfl, by decide +kernel, by decide +kernel⟩
abbrev Ncheck_length : List Str := ["program", "most"]
theorem sccheck_length : FnScope Ncheck_length ["program", "most"] (defScope scheck_length) := ⟨rfl, rfl, rfl, by decide +kernel, rfl, by decide +kernel, by decide +kernel⟩
abbrev Ncheck_index : List Str := ["index", "most"]
theorem sccheck_index : FnScope Ncheck_index ["index", "most"] (defScope scheck_index) := ⟨rfl, rfl, rfl, by decide +kernel, rfl, by decide +kernel, by decide +kernel⟩
abbrev N_law_bag : List Str := ["cell"]
theorem sc_law_bag : FnScope N_law_bag ["cell"] (defScope s_law_bag) := ⟨rfl, rfl, rfl, by decide +kernel, rfl, by decide +kernel, by decide +kernel⟩
abbrev N_law_pick : List Str := ["bag", "many", "told", "first", "second"]
theorem sc_law_pick : FnScope N_law_pick ["bag", "many"] (defScope s_law_pick) := ⟨rfl, rfl, rfl, by decide +kernel, rfl, by decide +kernel, by decide +kernel⟩
abbrev N_law_number : List Str := ["bag", "far"]
theorem sc_law_number : FnScope N_law_number ["bag", "far"] (defScope s_law_number) := ⟨rfl, rfl, rfl, by decide +kernel, rfl, by decide +kernel, by decide +kernel⟩
abbrev N_law_words : List Str := ["bag", "most", "deep", "letters", "far", "found", "many", "way", "room", "part"]
theorem sc_law_words : FnScope N_law_words ["bag", "most", "deep", "letters", "far"] (defScope s_law_words) := ⟨rfl, rfl, rfl, by decide +kernel, rfl, by decide +kernel, by decide +kernel⟩
abbrev N_law_length : List Str := ["words", "totals", "word", "one"]
theorem sc_law_length : FnScope N_law_length ["words"] (defScope s_law_length) := ⟨rfl, rfl, rfl, by decide +kernel, rfl, by decide +kernel, by decide +kernel⟩
abbrev N_law_steps : List Str := ["words", "parts", "word", "one"]
theorem sc_law_steps : FnScope N_law_steps ["words"] (defScope s_law_steps) := ⟨rfl, rfl, rfl, by decide +kernel, rfl, by decide +kernel, by decide +kernel⟩
abbrev N_law_short : List Str := ["bag", "most", "letters", "size", "found"]
theorem sc_law_short : FnScope N_law_short ["bag", "most", "letters", "size"] (defScope s_law_short) := ⟨rfl, rfl, rfl, by decide +kernel, rfl, by decide +kernel, by decide +kernel⟩
abbrev N_law_short_right : List Str := ["bag", "words", "told", "steps", "at", "letter"]
theorem sc_law_short_right : FnScope N_law_short_right ["bag", "words"] (defScope s_law_short_right) := ⟨rfl, rfl, rfl, by decide +kernel, rfl, by decide +kernel, by decide +kernel⟩
abbrev N_law_at : List Str := ["words", "index", "end", "opened", "size"]
theorem sc_law_at : FnScope N_law_at ["words", "index"] (defScope s_law_at) := ⟨rfl, rfl, rfl, by decide +kernel, rfl, by decide +kernel, by decide +kernel⟩
abbrev N_law_count : List Str := ["words", "letter", "totals", "word", "one"]
theorem sc_law_count : FnScope N_law_count ["words", "letter"] (defScope s_law_count) := ⟨rfl, rfl, rfl, by decide +kernel, rfl, by decide +kernel, by decide +kernel⟩
abbrev N_law_far_right : List Str := ["bag", "words", "told", "size", "letter", "at", "some"]
theorem sc_law_far_right : FnScope N_law_far_right ["bag", "words"] (defScope s_law_far_right) := ⟨rfl, rfl, rfl, by decide +kernel, rfl, by decide +kernel, by decide +kernel⟩
abbrev Nlaw : List Str := ["script", "cell", "bag", "short", "words", "told", "seen", "step", "exact"]
theorem sclaw : FnScope Nlaw ["script"] (defScope slaw) := ⟨rfl, rfl, rfl, by decide +kernel, rfl, by decide +kernel, by decide +kernel⟩
/-! ### the head -/
def dInvalidText_init : HP.DefA := ⟨fun K => He.fAd K ("InvalidText", some "__init__"), "__init__", "InvalidText.__init__", defArgs sInvalidText_init, defBody sInvalidText_init, defScope sInvalidText_init, [], []⟩
def dTooDeep_init : HP.DefA := ⟨fun K => He.fAd K ("TooDeep", some "__init__"), "__init__", "TooDeep.__init__", defArgs sTooDeep_init, defBody sTooDeep_init, defScope sTooDeep_init, [], []⟩
def dTooLarge_init : HP.DefA := ⟨fun K => He.fAd K ("TooLarge", some "__init__"), "__init__", "TooLarge.__init__", defArgs sTooLarge_init, defBody sTooLarge_init, defScope sTooLarge_init, [], []⟩
def dis_integer : HP.DefA := ⟨fun K => He.fAd K ("is_integer", none), "is_integer", "is_integer", defArgs sis_integer, defBody sis_integer, defScope sis_integer, [], []⟩
def dis_integer_within : HP.DefA := ⟨fun K => He.fAd K ("is_integer_within", none), "is_integer_within", "is_integer_within", defArgs sis_integer_within, defBody sis_integer_within, defScope sis_integer_within, [], []⟩
def dis_decimal : HP.DefA := ⟨fun K => He.fAd K ("is_decimal", none), "is_decimal", "is_decimal", defArgs sis_decimal, defBody sis_decimal, defScope sis_decimal, [], []⟩
def dcheck_times : HP.DefA := ⟨fun K => He.fAd K ("check_times", none), "check_times", "check_times", defArgs scheck_times, defBody scheck_times, defScope scheck_times, [], []⟩
def dwords_of : HP.DefA := ⟨fun K => He.fAd K ("words_of", none), "words_of", "words_of", defArgs swords_of, defBody swords_of, defScope swords_of, [], []⟩
def dis_letter : HP.DefA := ⟨fun K => He.fAd K ("is_letter", none), "is_letter", "is_letter", defArgs sis_letter, defBody sis_letter, defScope sis_letter, [], []⟩
def dnumber_of : HP.DefA := ⟨fun K => He.fAd K ("number_of", none), "number_of", "number_of", defArgs snumber_of, defBody snumber_of, defScope snumber_of, [], []⟩
def dwrong_word : HP.DefA := ⟨fun K => He.fAd K ("wrong_word", none), "wrong_word", "wrong_word", defArgs swrong_word, defBody swrong_word, defScope swrong_word, [], []⟩
def dmirrored : HP.DefA := ⟨fun K => He.fAd K ("mirrored", none), "mirrored", "mirrored", defArgs smirrored, defBody smirrored, defScope smirrored, [], []⟩
def dbackward : HP.DefA := ⟨fun K => He.fAd K ("backward", none), "backward", "backward", defArgs sbackward, defBody sbackward, defScope sbackward, [], []⟩
def d_is_counted : HP.DefA := ⟨fun K => He.fAd K ("_is_counted", none), "_is_counted", "_is_counted", defArgs s_is_counted, defBody s_is_counted, defScope s_is_counted, [], []⟩
def d_is_number : HP.DefA := ⟨fun K => He.fAd K ("_is_number", none), "_is_number", "_is_number", defArgs s_is_number, defBody s_is_number, defScope s_is_number, [], []⟩
def dPart_init : HP.DefA := ⟨fun K => He.fAd K ("Part", some "__init__"), "__init__", "Part.__init__", defArgs sPart_init, defBody sPart_init, defScope sPart_init, [], []⟩
def dsize_of : HP.DefA := ⟨fun K => He.fAd K ("size_of", none), "size_of", "size_of", defArgs ssize_of, defBody ssize_of, defScope ssize_of, [], []⟩
def dlevels_of : HP.DefA := ⟨fun K => He.fAd K ("levels_of", none), "levels_of", "levels_of", defArgs slevels_of, defBody slevels_of, defScope slevels_of, [], []⟩
def dparts_of_words : HP.DefA := ⟨fun K => He.fAd K ("parts_of_words", none), "parts_of_words", "parts_of_words", defArgs sparts_of_words, defBody sparts_of_words, defScope sparts_of_words, [], []⟩
def d_parts_from : HP.DefA := ⟨fun K => He.fAd K ("_parts_from", none), "_parts_from", "_parts_from", defArgs s_parts_from, defBody s_parts_from, defScope s_parts_from, [], []⟩
def dstep_in : HP.DefA := ⟨fun K => He.fAd K ("step_in", none), "step_in", "step_in", defArgs sstep_in, defBody sstep_in, defScope sstep_in, [], []⟩
def dcount_in : HP.DefA := ⟨fun K => He.fAd K ("count_in", none), "count_in", "count_in", defArgs scount_in, defBody scount_in, defScope scount_in, [], []⟩
def dsteps_in : HP.DefA := ⟨fun K => He.fAd K ("steps_in", none), "steps_in", "steps_in", defArgs ssteps_in, defBody ssteps_in, defScope ssteps_in, [], []⟩
def d_steps_of_part : HP.DefA := ⟨fun K => He.fAd K ("_steps_of_part", none), "_steps_of_part", "_steps_of_part", defArgs s_steps_of_part, defBody s_steps_of_part, defScope s_steps_of_part, [], []⟩
def d_steps_of_repeat : HP.DefA := ⟨fun K => He.fAd K ("_steps_of_repeat", none), "_steps_of_repeat", "_steps_of_repeat", defArgs s_steps_of_repeat, defBody s_steps_of_repeat, defScope s_steps_of_repeat, [], []⟩
def dProgram_init : HP.DefA := ⟨fun K => He.fAd K ("Program", some "__init__"), "__init__", "Program.__init__", defArgs sProgram_init, defBody sProgram_init, defScope sProgram_init, [], []⟩
def dProgram_text : HP.DefA := ⟨HP.getA "Program" "text", "text", "Program.text", defArgs sProgram_text, defBody sProgram_text, defScope sProgram_text, [], []⟩
def dProgram_length : HP.DefA := ⟨HP.getA "Program" "length", "length", "Program.length", defArgs sProgram_length, defBody sProgram_length, defScope sProgram_length, [], []⟩
def dProgram_depth : HP.DefA := ⟨HP.getA "Program" "depth", "depth", "Program.depth", defArgs sProgram_depth, defBody sProgram_depth, defScope sProgram_depth, [], []⟩
def dProgram_len : HP.DefA := ⟨fun K => He.fAd K ("Program", some "__len__"), "__len__", "Program.__len__", defArgs sProgram_len, defBody sProgram_len, defScope sProgram_len, [], []⟩
def dProgram_eq : HP.DefA := ⟨fun K => He.fAd K ("Program", some "__eq__"), "__eq__", "Program.__eq__", defArgs sProgram_eq, defBody sProgram_eq, defScope sProgram_eq, [], []⟩
def dProgram_contains : HP.DefA := ⟨fun K => He.fAd K ("Program", some "__contains__"), "__contains__", "Program.__contains__", defArgs sProgram_contains, defBody sProgram_contains, defScope sProgram_contains, [], []⟩
def dProgram_add : HP.DefA := ⟨fun K => He.fAd K ("Program", some "__add__"), "__add__", "Program.__add__", defArgs sProgram_add, defBody sProgram_add, defScope sProgram_add, [], []⟩
def dProgram_mul : HP.DefA := ⟨fun K => He.fAd K ("Program", some "__mul__"), "__mul__", "Program.__mul__", defArgs sProgram_mul, defBody sProgram_mul, defScope sProgram_mul, [], []⟩
def dProgram_neg : HP.DefA := ⟨fun K => He.fAd K ("Program", some "__neg__"), "__neg__", "Program.__neg__", defArgs sProgram_neg, defBody sProgram_neg, defScope sProgram_neg, [], []⟩
def dProgram_invert : HP.DefA := ⟨fun K => He.fAd K ("Program", some "__invert__"), "__invert__", "Program.__invert__", defArgs sProgram_invert, defBody sProgram_invert, defScope sProgram_invert, [], []⟩
def dstep_at : HP.DefA := ⟨fun K => He.fAd K ("step_at", none), "step_at", "step_at", defArgs sstep_at, defBody sstep_at, defScope sstep_at, [], []⟩
def dsteps_from : HP.DefA := ⟨fun K => He.fAd K ("steps_from", none), "steps_from", "steps_from", defArgs ssteps_from, defBody ssteps_from, defScope ssteps_from, [], []⟩
def dcount_steps : HP.DefA := ⟨fun K => He.fAd K ("count_steps", none), "count_steps", "count_steps", defArgs scount_steps, defBody scount_steps, defScope scount_steps, [], []⟩
def dwritten : HP.DefA := ⟨fun K => He.fAd K ("written", none), "written", "written", defArgs swritten, defBody swritten, defScope swritten, [], []⟩
def dcheck_text : HP.DefA := ⟨fun K => He.fAd K ("check_text", none), "check_text", "check_text", defArgs scheck_text, defBody scheck_text, defScope scheck_text, [], []⟩
def dcheck_program : HP.DefA := ⟨fun K => He.fAd K ("check_program", none), "check_program", "check_program", defArgs scheck_program, defBody scheck_program, defScope scheck_program, [], []⟩
def dcheck_length : HP.DefA := ⟨fun K => He.fAd K ("check_length", none), "check_length", "check_length", defArgs scheck_length, defBody scheck_length, defScope scheck_length, [], []⟩
def dcheck_index : HP.DefA := ⟨fun K => He.fAd K ("check_index", none), "check_index", "check_index", defArgs scheck_index, defBody scheck_index, defScope scheck_index, [], []⟩
def d_law_bag : HP.DefA := ⟨fun K => He.fAd K ("_law_bag", none), "_law_bag", "_law_bag", defArgs s_law_bag, defBody s_law_bag, defScope s_law_bag, [], []⟩
def d_law_pick : HP.DefA := ⟨fun K => He.fAd K ("_law_pick", none), "_law_pick", "_law_pick", defArgs s_law_pick, defBody s_law_pick, defScope s_law_pick, [], []⟩
def d_law_number : HP.DefA := ⟨fun K => He.fAd K ("_law_number", none), "_law_number", "_law_number", defArgs s_law_number, defBody s_law_number, defScope s_law_number, [], []⟩
def d_law_words : HP.DefA := ⟨fun K => He.fAd K ("_law_words", none), "_law_words", "_law_words", defArgs s_law_words, defBody s_law_words, defScope s_law_words, [], []⟩
def d_law_length : HP.DefA := ⟨fun K => He.fAd K ("_law_length", none), "_law_length", "_law_length", defArgs s_law_length, defBody s_law_length, defScope s_law_length, [], []⟩
def d_law_steps : HP.DefA := ⟨fun K => He.fAd K ("_law_steps", none), "_law_steps", "_law_steps", defArgs s_law_steps, defBody s_law_steps, defScope s_law_steps, [], []⟩
def d_law_short : HP.DefA := ⟨fun K => He.fAd K ("_law_short", none), "_law_short", "_law_short", defArgs s_law_short, defBody s_law_short, defScope s_law_short, [], []⟩
def d_law_short_right : HP.DefA := ⟨fun K => He.fAd K ("_law_short_right", none), "_law_short_right", "_law_short_right", defArgs s_law_short_right, defBody s_law_short_right, defScope s_law_short_right, [], []⟩
def d_law_at : HP.DefA := ⟨fun K => He.fAd K ("_law_at", none), "_law_at", "_law_at", defArgs s_law_at, defBody s_law_at, defScope s_law_at, [], []⟩
def d_law_count : HP.DefA := ⟨fun K => He.fAd K ("_law_count", none), "_law_count", "_law_count", defArgs s_law_count, defBody s_law_count, defScope s_law_count, [], []⟩
def d_law_far_right : HP.DefA := ⟨fun K => He.fAd K ("_law_far_right", none), "_law_far_right", "_law_far_right", defArgs s_law_far_right, defBody s_law_far_right, defScope s_law_far_right, [], []⟩
def dlaw : HP.DefA := ⟨fun K => He.fAd K ("law", none), "law", "law", defArgs slaw, defBody slaw, defScope slaw, [], []⟩
def fns : List HP.DefA := [dInvalidText_init, dTooDeep_init, dTooLarge_init, dis_integer, dis_integer_within, dis_decimal, dcheck_times, dwords_of, dis_letter, dnumber_of, dwrong_word, dmirrored, dbackward, d_is_counted, d_is_number, dPart_init, dsize_of, dlevels_of, dparts_of_words, d_parts_from, dstep_in, dcount_in, dsteps_in, d_steps_of_part, d_steps_of_repeat, dProgram_init, dProgram_text, dProgram_length, dProgram_depth, dProgram_len, dProgram_eq, dProgram_contains, dProgram_add, dProgram_mul, dProgram_neg, dProgram_invert, dstep_at, dsteps_from, dcount_steps, dwritten, dcheck_text, dcheck_program, dcheck_length, dcheck_index, d_law_bag, d_law_pick, d_law_number, d_law_words, d_law_length, d_law_steps, d_law_short, d_law_short_right, d_law_at, d_law_count, d_law_far_right, dlaw]
def fa0 : List HP.Fact := [HP.fa_ (.glo "is_integer"), HP.fa_ (.glo "is_integer_within"), HP.fa_ (.glo "is_decimal"), HP.fa_ (.glo "check_times"), HP.fa_ (.glo "words_of"), HP.fa_ (.glo "is_letter"), HP.fa_ (.glo "number_of"), HP.fa_ (.glo "wrong_word"), HP.fa_ (.glo "mirrored"), HP.fa_ (.glo "backward"), HP.fa_ (.glo "_is_counted"), HP.fa_ (.glo "_is_number"), HP.fa_ (.glo "size_of"), HP.fa_ (.glo "levels_of"), HP.fa_ (.glo "parts_of_words"), HP.fa_ (.glo "_parts_from"), HP.fa_ (.glo "step_in"), HP.fa_ (.glo "count_in"), HP.fa_ (.glo "steps_in"), HP.fa_ (.glo "_steps_of_part"), HP.fa_ (.glo "_steps_of_repeat"), HP.propB "Program" "text", HP.propB "Program" "length", HP.propB "Program" "depth", HP.fa_ (.meth "Program" "__len__")]
def fa1 : List HP.Fact := [HP.fa_ (.meth "Program" "__eq__"), HP.fa_ (.meth "Program" "__contains__"), HP.fa_ (.meth "Program" "__add__"), HP.fa_ (.meth "Program" "__mul__"), HP.fa_ (.meth "Program" "__neg__"), HP.fa_ (.meth "Program" "__invert__"), HP.fa_ (.glo "step_at"), HP.fa_ (.glo "steps_from"), HP.fa_ (.glo "count_steps"), HP.fa_ (.glo "written"), HP.fa_ (.glo "check_text"), HP.fa_ (.glo "check_program"), HP.fa_ (.glo "check_length"), HP.fa_ (.glo "check_index"), HP.fa_ (.glo "_law_bag"), HP.fa_ (.glo "_law_pick"), HP.fa_ (.glo "_law_number"), HP.fa_ (.glo "_law_words"), HP.fa_ (.glo "_law_length"), HP.fa_ (.glo "_law_steps"), HP.fa_ (.glo "_law_short"), HP.fa_ (.glo "_law_short_right"), HP.fa_ (.glo "_law_at"), HP.fa_ (.glo "_law_count"), HP.fa_ (.glo "_law_far_right")]
def fa2 : List HP.Fact := [HP.fa_ (.glo "law"), HP.fa_ (.glo "PlotError"), HP.fa_ (.glo "InvalidText"), HP.fa_ (.glo "TooDeep"), HP.fa_ (.glo "TooLarge"), HP.fa_ (.glo "InvalidProgram"), HP.fa_ (.glo "InvalidTimes"), HP.fa_ (.glo "InvalidIndex"), HP.fa_ (.glo "InvalidLetter"), HP.fa_ (.glo "HasPen"), HP.fa_ (.glo "Part"), HP.fa_ (.cls "Part"), HP.fa_ (.mkr "Part"), HP.isiB "Part", HP.kitB1 (fun K => .ref (He.ga K "Part")) (fun K => .ref (He.ga K "Part")) true, HP.fa_ (.noat "Part" "letter"), HP.fa_ (.noat "Part" "times"), HP.fa_ (.noat "Part" "inner"), HP.fa_ (.noat "Part" "unit"), HP.fa_ (.noat "Part" "size"), HP.fa_ (.noat "Part" "levels"), HP.fa_ (.glo "Program"), HP.fa_ (.cls "Program"), HP.fa_ (.mkr "Program"), HP.isiB "Program"]
def fa3 : List HP.Fact := [HP.kitB1 (fun K => .ref (He.ga K "Program")) (fun K => .ref (He.ga K "Program")) true, HP.fa_ (.noat "Program" "_text"), HP.fa_ (.noat "Program" "_words"), HP.fa_ (.noat "Program" "_parts"), HP.fa_ (.noat "Program" "_length"), HP.fa_ (.noat "Program" "_depth"), HP.fa_ (.free "ValueError"), HP.fa_ (.free "bool"), HP.fa_ (.free "enumerate"), HP.fa_ (.free "int"), HP.fa_ (.free "isinstance"), HP.fa_ (.free "len"), HP.fa_ (.free "list"), HP.fa_ (.free "max"), HP.fa_ (.free "min"), HP.fa_ (.free "property"), HP.fa_ (.free "range"), HP.fa_ (.free "repr"), HP.fa_ (.free "reversed"), HP.fa_ (.free "str"), HP.fa_ (.free "sum"), HP.fa_ (.free "tuple"), HP.fa_ (.free "zip"), HP.fa_ (.int "MOST_TIMES" (1000000000000000000000000000000)), HP.fa_ (.int "MOST_DIGITS" (31))]
def fa4 : List HP.Fact := [HP.fa_ (.int "MOST_WORDS" (1000)), HP.fa_ (.int "MOST_DEPTH" (12)), HP.fa_ (.int "MOST_STEPS" (1000)), HP.fa_ (.glo "LETTERS"), HP.tupB "LETTERS" [.str "f", .str "b", .str "l", .str "r", .str "u", .str "d"], HP.firstB "Program", HP.neB "Program", HP.notFirstB "Program" (fun K => (.ref (He.ga K "Program"))), HP.notFirstB "Program" (fun _ => .type "NoneType"), HP.kitB1 (fun _ => .type "NoneType") (fun K => (.ref (He.ga K "Program"))) false, HP.notFirstB "Program" (fun _ => .type "int"), HP.kitB1 (fun _ => .type "int") (fun K => (.ref (He.ga K "Program"))) false, HP.notFirstB "Program" (fun _ => .type "bool"), HP.kitB1 (fun _ => .type "bool") (fun K => (.ref (He.ga K "Program"))) false, HP.notFirstB "Program" (fun _ => .type "str"), HP.kitB1 (fun _ => .type "str") (fun K => (.ref (He.ga K "Program"))) false, HP.notFirstB "Program" (fun _ => .type "list"), HP.kitB1 (fun _ => .type "list") (fun K => (.ref (He.ga K "Program"))) false, HP.notFirstB "Program" (fun _ => .type "tuple"), HP.kitB1 (fun _ => .type "tuple") (fun K => (.ref (He.ga K "Program"))) false, HP.notFirstB "Program" (fun _ => .type "dict"), HP.kitB1 (fun _ => .type "dict") (fun K => (.ref (He.ga K "Program"))) false, HP.rightB "Program" .Mult "int"]
def facts : List HP.Fact := fa0 ++ fa1 ++ fa2 ++ fa3 ++ fa4
def nm0 : List Str := ["PlotError", "InvalidText", "TooDeep", "TooLarge", "InvalidProgram", "InvalidTimes", "InvalidIndex", "InvalidLetter", "HasPen", "MOST_TIMES", "MOST_DIGITS", "is_integer", "is_integer_within", "is_decimal", "check_times", "LETTERS", "MOST_WORDS", "MOST_DEPTH", "MIRRORED", "UNDONE", "words_of", "is_letter", "number_of", "wrong_word", "mirrored", "backward", "_is_counted", "_is_number", "Part", "size_of"]
def nm1 : List Str := ["levels_of", "parts_of_words", "_parts_from", "step_in", "count_in", "steps_in", "_steps_of_part", "_steps_of_repeat", "MOST_STEPS", "Program", "step_at", "steps_from", "count_steps", "written", "check_text", "check_program", "check_length", "check_index", "_law_bag", "_law_pick", "_law_number", "_law_words", "_law_length", "_law_steps", "_law_short", "_law_short_right", "_law_at", "_law_count", "_law_far_right"]
def names : List Str := nm0 ++ nm1
structure Tx (K : PySem.W.Frag) (mg : Str → Option Value) : Prop where
  g_is_integer : mg "is_integer" = some (.ref (He.ga K "is_integer"))
  g_is_integer_within : mg "is_integer_within" = some (.ref (He.ga K "is_integer_within"))
  g_is_decimal : mg "is_decimal" = some (.ref (He.ga K "is_decimal"))
  g_check_times : mg "check_times" = some (.ref (He.ga K "check_times"))
  g_words_of : mg "words_of" = some (.ref (He.ga K "words_of"))
  g_is_letter : mg "is_letter" = some (.ref (He.ga K "is_letter"))
  g_number_of : mg "number_of" = some (.ref (He.ga K "number_of"))
  g_wrong_word : mg "wrong_word" = some (.ref (He.ga K "wrong_word"))
  g_mirrored : mg "mirrored" = some (.ref (He.ga K "mirrored"))
  g_backward : mg "backward" = some (.ref (He.ga K "backward"))
  g__is_counted : mg "_is_counted" = some (.ref (He.ga K "_is_counted"))
  g__is_number : mg "_is_number" = some (.ref (He.ga K "_is_number"))
  g_size_of : mg "size_of" = some (.ref (He.ga K "size_of"))
  g_levels_of : mg "levels_of" = some (.ref (He.ga K "levels_of"))
  g_parts_of_words : mg "parts_of_words" = some (.ref (He.ga K "parts_of_words"))
  g__parts_from : mg "_parts_from" = some (.ref (He.ga K "_parts_from"))
  g_step_in : mg "step_in" = some (.ref (He.ga K "step_in"))
  g_count_in : mg "count_in" = some (.ref (He.ga K "count_in"))
  g_steps_in : mg "steps_in" = some (.ref (He.ga K "steps_in"))
  g__steps_of_part : mg "_steps_of_part" = some (.ref (He.ga K "_steps_of_part"))
  g__steps_of_repeat : mg "_steps_of_repeat" = some (.ref (He.ga K "_steps_of_repeat"))
  p_Program_text : PropOf K (He.ga K "Program") "text" (He.ma K (He.ga K "Program") "text") (HP.getA "Program" "text" K)
  p_Program_length : PropOf K (He.ga K "Program") "length" (He.ma K (He.ga K "Program") "length") (HP.getA "Program" "length" K)
  p_Program_depth : PropOf K (He.ga K "Program") "depth" (He.ma K (He.ga K "Program") "depth") (HP.getA "Program" "depth" K)
  m_Program_len : Meth K (He.ga K "Program") "__len__" (He.ma K (He.ga K "Program") "__len__")
  m_Program_eq : Meth K (He.ga K "Program") "__eq__" (He.ma K (He.ga K "Program") "__eq__")
  m_Program_contains : Meth K (He.ga K "Program") "__contains__" (He.ma K (He.ga K "Program") "__contains__")
  m_Program_add : Meth K (He.ga K "Program") "__add__" (He.ma K (He.ga K "Program") "__add__")
  m_Program_mul : Meth K (He.ga K "Program") "__mul__" (He.ma K (He.ga K "Program") "__mul__")
  m_Program_neg : Meth K (He.ga K "Program") "__neg__" (He.ma K (He.ga K "Program") "__neg__")
  m_Program_invert : Meth K (He.ga K "Program") "__invert__" (He.ma K (He.ga K "Program") "__invert__")
  g_step_at : mg "step_at" = some (.ref (He.ga K "step_at"))
  g_steps_from : mg "steps_from" = some (.ref (He.ga K "steps_from"))
  g_count_steps : mg "count_steps" = some (.ref (He.ga K "count_steps"))
  g_written : mg "written" = some (.ref (He.ga K "written"))
  g_check_text : mg "check_text" = some (.ref (He.ga K "check_text"))
  g_check_program : mg "check_program" = some (.ref (He.ga K "check_program"))
  g_check_length : mg "check_length" = some (.ref (He.ga K "check_length"))
  g_check_index : mg "check_index" = some (.ref (He.ga K "check_index"))
  g__law_bag : mg "_law_bag" = some (.ref (He.ga K "_law_bag"))
  g__law_pick : mg "_law_pick" = some (.ref (He.ga K "_law_pick"))
  g__law_number : mg "_law_number" = some (.ref (He.ga K "_law_number"))
  g__law_words : mg "_law_words" = some (.ref (He.ga K "_law_words"))
  g__law_length : mg "_law_length" = some (.ref (He.ga K "_law_length"))
  g__law_steps : mg "_law_steps" = some (.ref (He.ga K "_law_steps"))
  g__law_short : mg "_law_short" = some (.ref (He.ga K "_law_short"))
  g__law_short_right : mg "_law_short_right" = some (.ref (He.ga K "_law_short_right"))
  g__law_at : mg "_law_at" = some (.ref (He.ga K "_law_at"))
  g__law_count : mg "_law_count" = some (.ref (He.ga K "_law_count"))
  g__law_far_right : mg "_law_far_right" = some (.ref (He.ga K "_law_far_right"))
  g_law : mg "law" = some (.ref (He.ga K "law"))
  g_PlotError : mg "PlotError" = some (.ref (He.ga K "PlotError"))
  g_InvalidText : mg "InvalidText" = some (.ref (He.ga K "InvalidText"))
  g_TooDeep : mg "TooDeep" = some (.ref (He.ga K "TooDeep"))
  g_TooLarge : mg "TooLarge" = some (.ref (He.ga K "TooLarge"))
  g_InvalidProgram : mg "InvalidProgram" = some (.ref (He.ga K "InvalidProgram"))
  g_InvalidTimes : mg "InvalidTimes" = some (.ref (He.ga K "InvalidTimes"))
  g_InvalidIndex : mg "InvalidIndex" = some (.ref (He.ga K "InvalidIndex"))
  g_InvalidLetter : mg "InvalidLetter" = some (.ref (He.ga K "InvalidLetter"))
  g_HasPen : mg "HasPen" = some (.ref (He.ga K "HasPen"))
  g_Part : mg "Part" = some (.ref (He.ga K "Part"))
  c_Part : Cls K (He.ga K "Part")
  k_Part : Mk K (He.ga K "Part") (He.ma K (He.ga K "Part") "__init__")
  i_Part : HP.IsiC K (He.ga K "Part")
  t_Part : PySem.W.kitOne K (.ref (He.ga K "Part")) (.ref (He.ga K "Part")) = some true
  n_Part_letter : NoAttr K (He.ga K "Part") "letter"
  n_Part_times : NoAttr K (He.ga K "Part") "times"
  n_Part_inner : NoAttr K (He.ga K "Part") "inner"
  n_Part_unit : NoAttr K (He.ga K "Part") "unit"
  n_Part_size : NoAttr K (He.ga K "Part") "size"
  n_Part_levels : NoAttr K (He.ga K "Part") "levels"
  g_Program : mg "Program" = some (.ref (He.ga K "Program"))
  c_Program : Cls K (He.ga K "Program")
  k_Program : Mk K (He.ga K "Program") (He.ma K (He.ga K "Program") "__init__")
  i_Program : HP.IsiC K (He.ga K "Program")
  t_Program : PySem.W.kitOne K (.ref (He.ga K "Program")) (.ref (He.ga K "Program")) = some true
  n_Program__text : NoAttr K (He.ga K "Program") "_text"
  n_Program__words : NoAttr K (He.ga K "Program") "_words"
  n_Program__parts : NoAttr K (He.ga K "Program") "_parts"
  n_Program__length : NoAttr K (He.ga K "Program") "_length"
  n_Program__depth : NoAttr K (He.ga K "Program") "_depth"
  z_ValueError : mg "ValueError" = none
  z_bool : mg "bool" = none
  z_enumerate : mg "enumerate" = none
  z_int : mg "int" = none
  z_isinstance : mg "isinstance" = none
  z_len : mg "len" = none
  z_list : mg "list" = none
  z_max : mg "max" = none
  z_min : mg "min" = none
  z_property : mg "property" = none
  z_range : mg "range" = none
  z_repr : mg "repr" = none
  z_reversed : mg "reversed" = none
  z_str : mg "str" = none
  z_sum : mg "sum" = none
  z_tuple : mg "tuple" = none
  z_zip : mg "zip" = none
  v_MOST_TIMES : ∃ t, mg "MOST_TIMES" = some (.int (1000000000000000000000000000000) t)
  v_MOST_DIGITS : ∃ t, mg "MOST_DIGITS" = some (.int (31) t)
  v_MOST_WORDS : ∃ t, mg "MOST_WORDS" = some (.int (1000) t)
  v_MOST_DEPTH : ∃ t, mg "MOST_DEPTH" = some (.int (12) t)
  v_MOST_STEPS : ∃ t, mg "MOST_STEPS" = some (.int (1000) t)
  g_LETTERS : mg "LETTERS" = some (.ref (He.ga K "LETTERS"))
  l_LETTERS : ∀ H : Hp, SqT K H (He.ga K "LETTERS") ([.str "f", .str "b", .str "l", .str "r", .str "u", .str "d"] : List V)
  f_Program : PySem.W.selfFirst K (He.ga K "Program") = true
  ne_Program : PySem.W.findIn K (.ref (He.ga K "Program")) "__ne__" = some (some (.builtin "object.__ne__"))
  nf_self : PySem.W.notFirst K (He.ga K "Program") (.ref (He.ga K "Program")) = true
  nf_none : PySem.W.notFirst K (He.ga K "Program") (.type "NoneType") = true
  kt_none : PySem.W.kitOne K (.type "NoneType") (.ref (He.ga K "Program")) = some false
  nf_int : PySem.W.notFirst K (He.ga K "Program") (.type "int") = true
  kt_int : PySem.W.kitOne K (.type "int") (.ref (He.ga K "Program")) = some false
  nf_bool : PySem.W.notFirst K (He.ga K "Program") (.type "bool") = true
  kt_bool : PySem.W.kitOne K (.type "bool") (.ref (He.ga K "Program")) = some false
  nf_str : PySem.W.notFirst K (He.ga K "Program") (.type "str") = true
  kt_str : PySem.W.kitOne K (.type "str") (.ref (He.ga K "Program")) = some false
  nf_list : PySem.W.notFirst K (He.ga K "Program") (.type "list") = true
  kt_list : PySem.W.kitOne K (.type "list") (.ref (He.ga K "Program")) = some false
  nf_tuple : PySem.W.notFirst K (He.ga K "Program") (.type "tuple") = true
  kt_tuple : PySem.W.kitOne K (.type "tuple") (.ref (He.ga K "Program")) = some false
  nf_dict : PySem.W.notFirst K (He.ga K "Program") (.type "dict") = true
  kt_dict : PySem.W.kitOne K (.type "dict") (.ref (He.ga K "Program")) = some false
  r_Mult_int : RT.RightT K (He.ga K "Program") .Mult "int"
structure Ds (K : PySem.W.Frag) where
  fd_InvalidText_init : FuncData
  F_InvalidText_init : FunD K "__init__" "InvalidText.__init__" (defArgs sInvalidText_init) (defBody sInvalidText_init) (defScope sInvalidText_init) [] [] (dInvalidText_init.adr K) fd_InvalidText_init
  fd_TooDeep_init : FuncData
  F_TooDeep_init : FunD K "__init__" "TooDeep.__init__" (defArgs sTooDeep_init) (defBody sTooDeep_init) (defScope sTooDeep_init) [] [] (dTooDeep_init.adr K) fd_TooDeep_init
  fd_TooLarge_init : FuncData
  F_TooLarge_init : FunD K "__init__" "TooLarge.__init__" (defArgs sTooLarge_init) (defBody sTooLarge_init) (defScope sTooLarge_init) [] [] (dTooLarge_init.adr K) fd_TooLarge_init
  fd_is_integer : FuncData
  F_is_integer : FunD K "is_integer" "is_integer" (defArgs sis_integer) (defBody sis_integer) (defScope sis_integer) [] [] (dis_integer.adr K) fd_is_integer
  fd_is_integer_within : FuncData
  F_is_integer_within : FunD K "is_integer_within" "is_integer_within" (defArgs sis_integer_within) (defBody sis_integer_within) (defScope sis_integer_within) [] [] (dis_integer_within.adr K) fd_is_integer_within
  fd_is_decimal : FuncData
  F_is_decimal : FunD K "is_decimal" "is_decimal" (defArgs sis_decimal) (defBody sis_decimal) (defScope sis_decimal) [] [] (dis_decimal.adr K) fd_is_decimal
  fd_check_times : FuncData
  F_check_times : FunD K "check_times" "check_times" (defArgs scheck_times) (defBody scheck_times) (defScope scheck_times) [] [] (dcheck_times.adr K) fd_check_times
  fd_words_of : FuncData
  F_words_of : FunD K "words_of" "words_of" (defArgs swords_of) (defBody swords_of) (defScope swords_of) [] [] (dwords_of.adr K) fd_words_of
  fd_is_letter : FuncData
  F_is_letter : FunD K "is_letter" "is_letter" (defArgs sis_letter) (defBody sis_letter) (defScope sis_letter) [] [] (dis_letter.adr K) fd_is_letter
  fd_number_of : FuncData
  F_number_of : FunD K "number_of" "number_of" (defArgs snumber_of) (defBody snumber_of) (defScope snumber_of) [] [] (dnumber_of.adr K) fd_number_of
  fd_wrong_word : FuncData
  F_wrong_word : FunD K "wrong_word" "wrong_word" (defArgs swrong_word) (defBody swrong_word) (defScope swrong_word) [] [] (dwrong_word.adr K) fd_wrong_word
  fd_mirrored : FuncData
  F_mirrored : FunD K "mirrored" "mirrored" (defArgs smirrored) (defBody smirrored) (defScope smirrored) [] [] (dmirrored.adr K) fd_mirrored
  fd_backward : FuncData
  F_backward : FunD K "backward" "backward" (defArgs sbackward) (defBody sbackward) (defScope sbackward) [] [] (dbackward.adr K) fd_backward
  fd__is_counted : FuncData
  F__is_counted : FunD K "_is_counted" "_is_counted" (defArgs s_is_counted) (defBody s_is_counted) (defScope s_is_counted) [] [] (d_is_counted.adr K) fd__is_counted
  fd__is_number : FuncData
  F__is_number : FunD K "_is_number" "_is_number" (defArgs s_is_number) (defBody s_is_number) (defScope s_is_number) [] [] (d_is_number.adr K) fd__is_number
  fd_Part_init : FuncData
  F_Part_init : FunD K "__init__" "Part.__init__" (defArgs sPart_init) (defBody sPart_init) (defScope sPart_init) [] [] (dPart_init.adr K) fd_Part_init
  fd_size_of : FuncData
  F_size_of : FunD K "size_of" "size_of" (defArgs ssize_of) (defBody ssize_of) (defScope ssize_of) [] [] (dsize_of.adr K) fd_size_of
  fd_levels_of : FuncData
  F_levels_of : FunD K "levels_of" "levels_of" (defArgs slevels_of) (defBody slevels_of) (defScope slevels_of) [] [] (dlevels_of.adr K) fd_levels_of
  fd_parts_of_words : FuncData
  F_parts_of_words : FunD K "parts_of_words" "parts_of_words" (defArgs sparts_of_words) (defBody sparts_of_words) (defScope sparts_of_words) [] [] (dparts_of_words.adr K) fd_parts_of_words
  fd__parts_from : FuncData
  F__parts_from : FunD K "_parts_from" "_parts_from" (defArgs s_parts_from) (defBody s_parts_from) (defScope s_parts_from) [] [] (d_parts_from.adr K) fd__parts_from
  fd_step_in : FuncData
  F_step_in : FunD K "step_in" "step_in" (defArgs sstep_in) (defBody sstep_in) (defScope sstep_in) [] [] (dstep_in.adr K) fd_step_in
  fd_count_in : FuncData
  F_count_in : FunD K "count_in" "count_in" (defArgs scount_in) (defBody scount_in) (defScope scount_in) [] [] (dcount_in.adr K) fd_count_in
  fd_steps_in : FuncData
  F_steps_in : FunD K "steps_in" "steps_in" (defArgs ssteps_in) (defBody ssteps_in) (defScope ssteps_in) [] [] (dsteps_in.adr K) fd_steps_in
  fd__steps_of_part : FuncData
  F__steps_of_part : FunD K "_steps_of_part" "_steps_of_part" (defArgs s_steps_of_part) (defBody s_steps_of_part) (defScope s_steps_of_part) [] [] (d_steps_of_part.adr K) fd__steps_of_part
  fd__steps_of_repeat : FuncData
  F__steps_of_repeat : FunD K "_steps_of_repeat" "_steps_of_repeat" (defArgs s_steps_of_repeat) (defBody s_steps_of_repeat) (defScope s_steps_of_repeat) [] [] (d_steps_of_repeat.adr K) fd__steps_of_repeat
  fd_Program_init : FuncData
  F_Program_init : FunD K "__init__" "Program.__init__" (defArgs sProgram_init) (defBody sProgram_init) (defScope sProgram_init) [] [] (dProgram_init.adr K) fd_Program_init
  fd_Program_text : FuncData
  F_Program_text : FunD K "text" "Program.text" (defArgs sProgram_text) (defBody sProgram_text) (defScope sProgram_text) [] [] (dProgram_text.adr K) fd_Program_text
  fd_Program_length : FuncData
  F_Program_length : FunD K "length" "Program.length" (defArgs sProgram_length) (defBody sProgram_length) (defScope sProgram_length) [] [] (dProgram_length.adr K) fd_Program_length
  fd_Program_depth : FuncData
  F_Program_depth : FunD K "depth" "Program.depth" (defArgs sProgram_depth) (defBody sProgram_depth) (defScope sProgram_depth) [] [] (dProgram_depth.adr K) fd_Program_depth
  fd_Program_len : FuncData
  F_Program_len : FunD K "__len__" "Program.__len__" (defArgs sProgram_len) (defBody sProgram_len) (defScope sProgram_len) [] [] (dProgram_len.adr K) fd_Program_len
  fd_Program_eq : FuncData
  F_Program_eq : FunD K "__eq__" "Program.__eq__" (defArgs sProgram_eq) (defBody sProgram_eq) (defScope sProgram_eq) [] [] (dProgram_eq.adr K) fd_Program_eq
  fd_Program_contains : FuncData
  F_Program_contains : FunD K "__contains__" "Program.__contains__" (defArgs sProgram_contains) (defBody sProgram_contains) (defScope sProgram_contains) [] [] (dProgram_contains.adr K) fd_Program_contains
  fd_Program_add : FuncData
  F_Program_add : FunD K "__add__" "Program.__add__" (defArgs sProgram_add) (defBody sProgram_add) (defScope sProgram_add) [] [] (dProgram_add.adr K) fd_Program_add
  fd_Program_mul : FuncData
  F_Program_mul : FunD K "__mul__" "Program.__mul__" (defArgs sProgram_mul) (defBody sProgram_mul) (defScope sProgram_mul) [] [] (dProgram_mul.adr K) fd_Program_mul
  fd_Program_neg : FuncData
  F_Program_neg : FunD K "__neg__" "Program.__neg__" (defArgs sProgram_neg) (defBody sProgram_neg) (defScope sProgram_neg) [] [] (dProgram_neg.adr K) fd_Program_neg
  fd_Program_invert : FuncData
  F_Program_invert : FunD K "__invert__" "Program.__invert__" (defArgs sProgram_invert) (defBody sProgram_invert) (defScope sProgram_invert) [] [] (dProgram_invert.adr K) fd_Program_invert
  fd_step_at : FuncData
  F_step_at : FunD K "step_at" "step_at" (defArgs sstep_at) (defBody sstep_at) (defScope sstep_at) [] [] (dstep_at.adr K) fd_step_at
  fd_steps_from : FuncData
  F_steps_from : FunD K "steps_from" "steps_from" (defArgs ssteps_from) (defBody ssteps_from) (defScope ssteps_from) [] [] (dsteps_from.adr K) fd_steps_from
  fd_count_steps : FuncData
  F_count_steps : FunD K "count_steps" "count_steps" (defArgs scount_steps) (defBody scount_steps) (defScope scount_steps) [] [] (dcount_steps.adr K) fd_count_steps
  fd_written : FuncData
  F_written : FunD K "written" "written" (defArgs swritten) (defBody swritten) (defScope swritten) [] [] (dwritten.adr K) fd_written
  fd_check_text : FuncData
  F_check_text : FunD K "check_text" "check_text" (defArgs scheck_text) (defBody scheck_text) (defScope scheck_text) [] [] (dcheck_text.adr K) fd_check_text
  fd_check_program : FuncData
  F_check_program : FunD K "check_program" "check_program" (defArgs scheck_program) (defBody scheck_program) (defScope scheck_program) [] [] (dcheck_program.adr K) fd_check_program
  fd_check_length : FuncData
  F_check_length : FunD K "check_length" "check_length" (defArgs scheck_length) (defBody scheck_length) (defScope scheck_length) [] [] (dcheck_length.adr K) fd_check_length
  fd_check_index : FuncData
  F_check_index : FunD K "check_index" "check_index" (defArgs scheck_index) (defBody scheck_index) (defScope scheck_index) [] [] (dcheck_index.adr K) fd_check_index
  fd__law_bag : FuncData
  F__law_bag : FunD K "_law_bag" "_law_bag" (defArgs s_law_bag) (defBody s_law_bag) (defScope s_law_bag) [] [] (d_law_bag.adr K) fd__law_bag
  fd__law_pick : FuncData
  F__law_pick : FunD K "_law_pick" "_law_pick" (defArgs s_law_pick) (defBody s_law_pick) (defScope s_law_pick) [] [] (d_law_pick.adr K) fd__law_pick
  fd__law_number : FuncData
  F__law_number : FunD K "_law_number" "_law_number" (defArgs s_law_number) (defBody s_law_number) (defScope s_law_number) [] [] (d_law_number.adr K) fd__law_number
  fd__law_words : FuncData
  F__law_words : FunD K "_law_words" "_law_words" (defArgs s_law_words) (defBody s_law_words) (defScope s_law_words) [] [] (d_law_words.adr K) fd__law_words
  fd__law_length : FuncData
  F__law_length : FunD K "_law_length" "_law_length" (defArgs s_law_length) (defBody s_law_length) (defScope s_law_length) [] [] (d_law_length.adr K) fd__law_length
  fd__law_steps : FuncData
  F__law_steps : FunD K "_law_steps" "_law_steps" (defArgs s_law_steps) (defBody s_law_steps) (defScope s_law_steps) [] [] (d_law_steps.adr K) fd__law_steps
  fd__law_short : FuncData
  F__law_short : FunD K "_law_short" "_law_short" (defArgs s_law_short) (defBody s_law_short) (defScope s_law_short) [] [] (d_law_short.adr K) fd__law_short
  fd__law_short_right : FuncData
  F__law_short_right : FunD K "_law_short_right" "_law_short_right" (defArgs s_law_short_right) (defBody s_law_short_right) (defScope s_law_short_right) [] [] (d_law_short_right.adr K) fd__law_short_right
  fd__law_at : FuncData
  F__law_at : FunD K "_law_at" "_law_at" (defArgs s_law_at) (defBody s_law_at) (defScope s_law_at) [] [] (d_law_at.adr K) fd__law_at
  fd__law_count : FuncData
  F__law_count : FunD K "_law_count" "_law_count" (defArgs s_law_count) (defBody s_law_count) (defScope s_law_count) [] [] (d_law_count.adr K) fd__law_count
  fd__law_far_right : FuncData
  F__law_far_right : FunD K "_law_far_right" "_law_far_right" (defArgs s_law_far_right) (defBody s_law_far_right) (defScope s_law_far_right) [] [] (d_law_far_right.adr K) fd__law_far_right
  fd_law : FuncData
  F_law : FunD K "law" "law" (defArgs slaw) (defBody slaw) (defScope slaw) [] [] (dlaw.adr K) fd_law
theorem tx_of {K : PySem.W.Frag} {h : Heap} {mg : Str → Option Value} (X : K.In h) (G : h.Ns mainGlobals mg) (c : HP.SaysA facts fns K) : Tx K mg where
  g_is_integer := He.glo_ok X G (c.fact 0 rfl)
  g_is_integer_within := He.glo_ok X G (c.fact 1 rfl)
  g_is_decimal := He.glo_ok X G (c.fact 2 rfl)
  g_check_times := He.glo_ok X G (c.fact 3 rfl)
  g_words_of := He.glo_ok X G (c.fact 4 rfl)
  g_is_letter := He.glo_ok X G (c.fact 5 rfl)
  g_number_of := He.glo_ok X G (c.fact 6 rfl)
  g_wrong_word := He.glo_ok X G (c.fact 7 rfl)
  g_mirrored := He.glo_ok X G (c.fact 8 rfl)
  g_backward := He.glo_ok X G (c.fact 9 rfl)
  g__is_counted := He.glo_ok X G (c.fact 10 rfl)
  g__is_number := He.glo_ok X G (c.fact 11 rfl)
  g_size_of := He.glo_ok X G (c.fact 12 rfl)
  g_levels_of := He.glo_ok X G (c.fact 13 rfl)
  g_parts_of_words := He.glo_ok X G (c.fact 14 rfl)
  g__parts_from := He.glo_ok X G (c.fact 15 rfl)
  g_step_in := He.glo_ok X G (c.fact 16 rfl)
  g_count_in := He.glo_ok X G (c.fact 17 rfl)
  g_steps_in := He.glo_ok X G (c.fact 18 rfl)
  g__steps_of_part := He.glo_ok X G (c.fact 19 rfl)
  g__steps_of_repeat := He.glo_ok X G (c.fact 20 rfl)
  p_Program_text := HP.propB_ok (c.fact 21 rfl)
  p_Program_length := HP.propB_ok (c.fact 22 rfl)
  p_Program_depth := HP.propB_ok (c.fact 23 rfl)
  m_Program_len := He.meth_ok (c.fact 24 rfl)
  m_Program_eq := He.meth_ok (c.fact 25 rfl)
  m_Program_contains := He.meth_ok (c.fact 26 rfl)
  m_Program_add := He.meth_ok (c.fact 27 rfl)
  m_Program_mul := He.meth_ok (c.fact 28 rfl)
  m_Program_neg := He.meth_ok (c.fact 29 rfl)
  m_Program_invert := He.meth_ok (c.fact 30 rfl)
  g_step_at := He.glo_ok X G (c.fact 31 rfl)
  g_steps_from := He.glo_ok X G (c.fact 32 rfl)
  g_count_steps := He.glo_ok X G (c.fact 33 rfl)
  g_written := He.glo_ok X G (c.fact 34 rfl)
  g_check_text := He.glo_ok X G (c.fact 35 rfl)
  g_check_program := He.glo_ok X G (c.fact 36 rfl)
  g_check_length := He.glo_ok X G (c.fact 37 rfl)
  g_check_index := He.glo_ok X G (c.fact 38 rfl)
  g__law_bag := He.glo_ok X G (c.fact 39 rfl)
  g__law_pick := He.glo_ok X G (c.fact 40 rfl)
  g__law_number := He.glo_ok X G (c.fact 41 rfl)
  g__law_words := He.glo_ok X G (c.fact 42 rfl)
  g__law_length := He.glo_ok X G (c.fact 43 rfl)
  g__law_steps := He.glo_ok X G (c.fact 44 rfl)
  g__law_short := He.glo_ok X G (c.fact 45 rfl)
  g__law_short_right := He.glo_ok X G (c.fact 46 rfl)
  g__law_at := He.glo_ok X G (c.fact 47 rfl)
  g__law_count := He.glo_ok X G (c.fact 48 rfl)
  g__law_far_right := He.glo_ok X G (c.fact 49 rfl)
  g_law := He.glo_ok X G (c.fact 50 rfl)
  g_PlotError := He.glo_ok X G (c.fact 51 rfl)
  g_InvalidText := He.glo_ok X G (c.fact 52 rfl)
  g_TooDeep := He.glo_ok X G (c.fact 53 rfl)
  g_TooLarge := He.glo_ok X G (c.fact 54 rfl)
  g_InvalidProgram := He.glo_ok X G (c.fact 55 rfl)
  g_InvalidTimes := He.glo_ok X G (c.fact 56 rfl)
  g_InvalidIndex := He.glo_ok X G (c.fact 57 rfl)
  g_InvalidLetter := He.glo_ok X G (c.fact 58 rfl)
  g_HasPen := He.glo_ok X G (c.fact 59 rfl)
  g_Part := He.glo_ok X G (c.fact 60 rfl)
  c_Part := He.cls_ok (c.fact 61 rfl)
  k_Part := He.mkr_ok (c.fact 62 rfl)
  i_Part := HP.isiB_ok (c.fact 63 rfl)
  t_Part := of_decide_eq_true (c.fact 64 rfl)
  n_Part_letter := He.noat_ok (c.fact 65 rfl)
  n_Part_times := He.noat_ok (c.fact 66 rfl)
  n_Part_inner := He.noat_ok (c.fact 67 rfl)
  n_Part_unit := He.noat_ok (c.fact 68 rfl)
  n_Part_size := He.noat_ok (c.fact 69 rfl)
  n_Part_levels := He.noat_ok (c.fact 70 rfl)
  g_Program := He.glo_ok X G (c.fact 71 rfl)
  c_Program := He.cls_ok (c.fact 72 rfl)
  k_Program := He.mkr_ok (c.fact 73 rfl)
  i_Program := HP.isiB_ok (c.fact 74 rfl)
  t_Program := of_decide_eq_true (c.fact 75 rfl)
  n_Program__text := He.noat_ok (c.fact 76 rfl)
  n_Program__words := He.noat_ok (c.fact 77 rfl)
  n_Program__parts := He.noat_ok (c.fact 78 rfl)
  n_Program__length := He.noat_ok (c.fact 79 rfl)
  n_Program__depth := He.noat_ok (c.fact 80 rfl)
  z_ValueError := He.free_ok X G (c.fact 81 rfl)
  z_bool := He.free_ok X G (c.fact 82 rfl)
  z_enumerate := He.free_ok X G (c.fact 83 rfl)
  z_int := He.free_ok X G (c.fact 84 rfl)
  z_isinstance := He.free_ok X G (c.fact 85 rfl)
  z_len := He.free_ok X G (c.fact 86 rfl)
  z_list := He.free_ok X G (c.fact 87 rfl)
  z_max := He.free_ok X G (c.fact 88 rfl)
  z_min := He.free_ok X G (c.fact 89 rfl)
  z_property := He.free_ok X G (c.fact 90 rfl)
  z_range := He.free_ok X G (c.fact 91 rfl)
  z_repr := He.free_ok X G (c.fact 92 rfl)
  z_reversed := He.free_ok X G (c.fact 93 rfl)
  z_str := He.free_ok X G (c.fact 94 rfl)
  z_sum := He.free_ok X G (c.fact 95 rfl)
  z_tuple := He.free_ok X G (c.fact 96 rfl)
  z_zip := He.free_ok X G (c.fact 97 rfl)
  v_MOST_TIMES := He.int_ok X G (c.fact 98 rfl)
  v_MOST_DIGITS := He.int_ok X G (c.fact 99 rfl)
  v_MOST_WORDS := He.int_ok X G (c.fact 100 rfl)
  v_MOST_DEPTH := He.int_ok X G (c.fact 101 rfl)
  v_MOST_STEPS := He.int_ok X G (c.fact 102 rfl)
  g_LETTERS := He.glo_ok X G (c.fact 103 rfl)
  l_LETTERS := HP.tupB_ok (c.fact 104 rfl)
  f_Program := (c.fact 105 rfl)
  ne_Program := HP.neB_ok (c.fact 106 rfl)
  nf_self := (c.fact 107 rfl)
  nf_none := (c.fact 108 rfl)
  kt_none := of_decide_eq_true (c.fact 109 rfl)
  nf_int := (c.fact 110 rfl)
  kt_int := of_decide_eq_true (c.fact 111 rfl)
  nf_bool := (c.fact 112 rfl)
  kt_bool := of_decide_eq_true (c.fact 113 rfl)
  nf_str := (c.fact 114 rfl)
  kt_str := of_decide_eq_true (c.fact 115 rfl)
  nf_list := (c.fact 116 rfl)
  kt_list := of_decide_eq_true (c.fact 117 rfl)
  nf_tuple := (c.fact 118 rfl)
  kt_tuple := of_decide_eq_true (c.fact 119 rfl)
  nf_dict := (c.fact 120 rfl)
  kt_dict := of_decide_eq_true (c.fact 121 rfl)
  r_Mult_int := HP.rightB_ok (c.fact 122 rfl)
theorem ds_of {K : PySem.W.Frag} (c : HP.SaysA facts fns K) : Nonempty (Ds K) := by
  obtain ⟨f0, p0⟩ := c.def_ 0 (d := dInvalidText_init) rfl
  obtain ⟨f1, p1⟩ := c.def_ 1 (d := dTooDeep_init) rfl
  obtain ⟨f2, p2⟩ := c.def_ 2 (d := dTooLarge_init) rfl
  obtain ⟨f3, p3⟩ := c.def_ 3 (d := dis_integer) rfl
  obtain ⟨f4, p4⟩ := c.def_ 4 (d := dis_integer_within) rfl
  obtain ⟨f5, p5⟩ := c.def_ 5 (d := dis_decimal) rfl
  obtain ⟨f6, p6⟩ := c.def_ 6 (d := dcheck_times) rfl
  obtain ⟨f7, p7⟩ := c.def_ 7 (d := dwords_of) rfl
  obtain ⟨f8, p8⟩ := c.def_ 8 (d := dis_letter) rfl
  obtain ⟨f9, p9⟩ := c.def_ 9 (d := dnumber_of) rfl
  obtain ⟨f10, p10⟩ := c.def_ 10 (d := dwrong_word) rfl
  obtain ⟨f11, p11⟩ := c.def_ 11 (d := dmirrored) rfl
  obtain ⟨f12, p12⟩ := c.def_ 12 (d := dbackward) rfl
  obtain ⟨f13, p13⟩ := c.def_ 13 (d := d_is_counted) rfl
  obtain ⟨f14, p14⟩ := c.def_ 14 (d := d_is_number) rfl
  obtain ⟨f15, p15⟩ := c.def_ 15 (d := dPart_init) rfl
  obtain ⟨f16, p16⟩ := c.def_ 16 (d := dsize_of) rfl
  obtain ⟨f17, p17⟩ := c.def_ 17 (d := dlevels_of) rfl
  obtain ⟨f18, p18⟩ := c.def_ 18 (d := dparts_of_words) rfl
  obtain ⟨f19, p19⟩ := c.def_ 19 (d := d_parts_from) rfl
  obtain ⟨f20, p20⟩ := c.def_ 20 (d := dstep_in) rfl
  obtain ⟨f21, p21⟩ := c.def_ 21 (d := dcount_in) rfl
  obtain ⟨f22, p22⟩ := c.def_ 22 (d := dsteps_in) rfl
  obtain ⟨f23, p23⟩ := c.def_ 23 (d := d_steps_of_part) rfl
  obtain ⟨f24, p24⟩ := c.def_ 24 (d := d_steps_of_repeat) rfl
  obtain ⟨f25, p25⟩ := c.def_ 25 (d := dProgram_init) rfl
  obtain ⟨f26, p26⟩ := c.def_ 26 (d := dProgram_text) rfl
  obtain ⟨f27, p27⟩ := c.def_ 27 (d := dProgram_length) rfl
  obtain ⟨f28, p28⟩ := c.def_ 28 (d := dProgram_depth) rfl
  obtain ⟨f29, p29⟩ := c.def_ 29 (d := dProgram_len) rfl
  obtain ⟨f30, p30⟩ := c.def_ 30 (d := dProgram_eq) rfl
  obtain ⟨f31, p31⟩ := c.def_ 31 (d := dProgram_contains) rfl
  obtain ⟨f32, p32⟩ := c.def_ 32 (d := dProgram_add) rfl
  obtain ⟨f33, p33⟩ := c.def_ 33 (d := dProgram_mul) rfl
  obtain ⟨f34, p34⟩ := c.def_ 34 (d := dProgram_neg) rfl
  obtain ⟨f35, p35⟩ := c.def_ 35 (d := dProgram_invert) rfl
  obtain ⟨f36, p36⟩ := c.def_ 36 (d := dstep_at) rfl
  obtain ⟨f37, p37⟩ := c.def_ 37 (d := dsteps_from) rfl
  obtain ⟨f38, p38⟩ := c.def_ 38 (d := dcount_steps) rfl
  obtain ⟨f39, p39⟩ := c.def_ 39 (d := dwritten) rfl
  obtain ⟨f40, p40⟩ := c.def_ 40 (d := dcheck_text) rfl
  obtain ⟨f41, p41⟩ := c.def_ 41 (d := dcheck_program) rfl
  obtain ⟨f42, p42⟩ := c.def_ 42 (d := dcheck_length) rfl
  obtain ⟨f43, p43⟩ := c.def_ 43 (d := dcheck_index) rfl
  obtain ⟨f44, p44⟩ := c.def_ 44 (d := d_law_bag) rfl
  obtain ⟨f45, p45⟩ := c.def_ 45 (d := d_law_pick) rfl
  obtain ⟨f46, p46⟩ := c.def_ 46 (d := d_law_number) rfl
  obtain ⟨f47, p47⟩ := c.def_ 47 (d := d_law_words) rfl
  obtain ⟨f48, p48⟩ := c.def_ 48 (d := d_law_length) rfl
  obtain ⟨f49, p49⟩ := c.def_ 49 (d := d_law_steps) rfl
  obtain ⟨f50, p50⟩ := c.def_ 50 (d := d_law_short) rfl
  obtain ⟨f51, p51⟩ := c.def_ 51 (d := d_law_short_right) rfl
  obtain ⟨f52, p52⟩ := c.def_ 52 (d := d_law_at) rfl
  obtain ⟨f53, p53⟩ := c.def_ 53 (d := d_law_count) rfl
  obtain ⟨f54, p54⟩ := c.def_ 54 (d := d_law_far_right) rfl
  obtain ⟨f55, p55⟩ := c.def_ 55 (d := dlaw) rfl
  exact ⟨⟨f0, p0, f1, p1, f2, p2, f3, p3, f4, p4, f5, p5, f6, p6, f7, p7, f8, p8, f9, p9, f10, p10, f11, p11, f12, p12, f13, p13, f14, p14, f15, p15, f16, p16, f17, p17, f18, p18, f19, p19, f20, p20, f21, p21, f22, p22, f23, p23, f24, p24, f25, p25, f26, p26, f27, p27, f28, p28, f29, p29, f30, p30, f31, p31, f32, p32, f33, p33, f34, p34, f35, p35, f36, p36, f37, p37, f38, p38, f39, p39, f40, p40, f41, p41, f42, p42, f43, p43, f44, p44, f45, p45, f46, p46, f47, p47, f48, p48, f49, p49, f50, p50, f51, p51, f52, p52, f53, p53, f54, p54, f55, p55⟩⟩
theorem b_InvalidText_init {K : PySem.W.Frag} (D : Ds K) : Binds K D.fd_InvalidText_init ["self", "index"] [] := D.F_InvalidText_init.bindsN fun _ _ _ _ _ _ us hl => match us, hl with | [_, _], _ => rfl
theorem b_TooDeep_init {K : PySem.W.Frag} (D : Ds K) : Binds K D.fd_TooDeep_init ["self", "limit"] [] := D.F_TooDeep_init.bindsN fun _ _ _ _ _ _ us hl => match us, hl with | [_, _], _ => rfl
theorem b_TooLarge_init {K : PySem.W.Frag} (D : Ds K) : Binds K D.fd_TooLarge_init ["self", "limit"] [] := D.F_TooLarge_init.bindsN fun _ _ _ _ _ _ us hl => match us, hl with | [_, _], _ => rfl
theorem b_is_integer {K : PySem.W.Frag} (D : Ds K) : Binds K D.fd_is_integer ["value"] [] := D.F_is_integer.bindsN fun _ _ _ _ _ _ us hl => match us, hl with | [_], _ => rfl
theorem b_is_integer_within {K : PySem.W.Frag} (D : Ds K) : Binds K D.fd_is_integer_within ["value", "least", "most"] [] := D.F_is_integer_within.bindsN fun _ _ _ _ _ _ us hl => match us, hl with | [_, _, _], _ => rfl
theorem b_is_decimal {K : PySem.W.Frag} (D : Ds K) : Binds K D.fd_is_decimal ["word"] [] := D.F_is_decimal.bindsN fun _ _ _ _ _ _ us hl => match us, hl with | [_], _ => rfl
theorem b_check_times {K : PySem.W.Frag} (D : Ds K) : Binds K D.fd_check_times ["times"] [] := D.F_check_times.bindsN fun _ _ _ _ _ _ us hl => match us, hl with | [_], _ => rfl
theorem b_words_of {K : PySem.W.Frag} (D : Ds K) : Binds K D.fd_words_of ["text"] [] := D.F_words_of.bindsN fun _ _ _ _ _ _ us hl => match us, hl with | [_], _ => rfl
theorem b_is_letter {K : PySem.W.Frag} (D : Ds K) : Binds K D.fd_is_letter ["value"] [] := D.F_is_letter.bindsN fun _ _ _ _ _ _ us hl => match us, hl with | [_], _ => rfl
theorem b_number_of {K : PySem.W.Frag} (D : Ds K) : Binds K D.fd_number_of ["word"] [] := D.F_number_of.bindsN fun _ _ _ _ _ _ us hl => match us, hl with | [_], _ => rfl
theorem b_wrong_word {K : PySem.W.Frag} (D : Ds K) : Binds K D.fd_wrong_word ["words", "names"] [] := D.F_wrong_word.bindsN fun _ _ _ _ _ _ us hl => match us, hl with | [_, _], _ => rfl
theorem b_mirrored {K : PySem.W.Frag} (D : Ds K) : Binds K D.fd_mirrored ["words"] [] := D.F_mirrored.bindsN fun _ _ _ _ _ _ us hl => match us, hl with | [_], _ => rfl
theorem b_backward {K : PySem.W.Frag} (D : Ds K) : Binds K D.fd_backward ["words"] [] := D.F_backward.bindsN fun _ _ _ _ _ _ us hl => match us, hl with | [_], _ => rfl
theorem b__is_counted {K : PySem.W.Frag} (D : Ds K) : Binds K D.fd__is_counted ["word"] [] := D.F__is_counted.bindsN fun _ _ _ _ _ _ us hl => match us, hl with | [_], _ => rfl
theorem b__is_number {K : PySem.W.Frag} (D : Ds K) : Binds K D.fd__is_number ["digits"] [] := D.F__is_number.bindsN fun _ _ _ _ _ _ us hl => match us, hl with | [_], _ => rfl
theorem b_Part_init {K : PySem.W.Frag} (D : Ds K) : Binds K D.fd_Part_init ["self", "letter", "times", "inner"] [] := D.F_Part_init.bindsN fun _ _ _ _ _ _ us hl => match us, hl with | [_, _, _, _], _ => rfl
theorem b_size_of {K : PySem.W.Frag} (D : Ds K) : Binds K D.fd_size_of ["parts"] [] := D.F_size_of.bindsN fun _ _ _ _ _ _ us hl => match us, hl with | [_], _ => rfl
theorem b_levels_of {K : PySem.W.Frag} (D : Ds K) : Binds K D.fd_levels_of ["parts"] [] := D.F_levels_of.bindsN fun _ _ _ _ _ _ us hl => match us, hl with | [_], _ => rfl
theorem b_parts_of_words {K : PySem.W.Frag} (D : Ds K) : Binds K D.fd_parts_of_words ["words"] [] := D.F_parts_of_words.bindsN fun _ _ _ _ _ _ us hl => match us, hl with | [_], _ => rfl
theorem b__parts_from {K : PySem.W.Frag} (D : Ds K) : Binds K D.fd__parts_from ["words", "start"] [] := D.F__parts_from.bindsN fun _ _ _ _ _ _ us hl => match us, hl with | [_, _], _ => rfl
theorem b_step_in {K : PySem.W.Frag} (D : Ds K) : Binds K D.fd_step_in ["parts", "index"] [] := D.F_step_in.bindsN fun _ _ _ _ _ _ us hl => match us, hl with | [_, _], _ => rfl
theorem b_count_in {K : PySem.W.Frag} (D : Ds K) : Binds K D.fd_count_in ["parts", "letter"] [] := D.F_count_in.bindsN fun _ _ _ _ _ _ us hl => match us, hl with | [_, _], _ => rfl
theorem b_steps_in {K : PySem.W.Frag} (D : Ds K) : Binds K D.fd_steps_in ["parts", "index"] [] := D.F_steps_in.bindsN fun _ _ _ _ _ _ us hl => match us, hl with | [_, _], _ => rfl
theorem b__steps_of_part {K : PySem.W.Frag} (D : Ds K) : Binds K D.fd__steps_of_part ["part", "index"] [] := D.F__steps_of_part.bindsN fun _ _ _ _ _ _ us hl => match us, hl with | [_, _], _ => rfl
theorem b__steps_of_repeat {K : PySem.W.Frag} (D : Ds K) : Binds K D.fd__steps_of_repeat ["part", "index"] [] := D.F__steps_of_repeat.bindsN fun _ _ _ _ _ _ us hl => match us, hl with | [_, _], _ => rfl
theorem b_Program_init {K : PySem.W.Frag} (D : Ds K) : Binds K D.fd_Program_init ["self", "text"] [] := D.F_Program_init.bindsN fun _ _ _ _ _ _ us hl => match us, hl with | [_, _], _ => rfl
theorem b_Program_text {K : PySem.W.Frag} (D : Ds K) : Binds K D.fd_Program_text ["self"] [] := D.F_Program_text.bindsN fun _ _ _ _ _ _ us hl => match us, hl with | [_], _ => rfl
theorem b_Program_length {K : PySem.W.Frag} (D : Ds K) : Binds K D.fd_Program_length ["self"] [] := D.F_Program_length.bindsN fun _ _ _ _ _ _ us hl => match us, hl with | [_], _ => rfl
theorem b_Program_depth {K : PySem.W.Frag} (D : Ds K) : Binds K D.fd_Program_depth ["self"] [] := D.F_Program_depth.bindsN fun _ _ _ _ _ _ us hl => match us, hl with | [_], _ => rfl
theorem b_Program_len {K : PySem.W.Frag} (D : Ds K) : Binds K D.fd_Program_len ["self"] [] := D.F_Program_len.bindsN fun _ _ _ _ _ _ us hl => match us, hl with | [_], _ => rfl
theorem b_Program_eq {K : PySem.W.Frag} (D : Ds K) : Binds K D.fd_Program_eq ["self", "other"] [] := D.F_Program_eq.bindsN fun _ _ _ _ _ _ us hl => match us, hl with | [_, _], _ => rfl
theorem b_Program_contains {K : PySem.W.Frag} (D : Ds K) : Binds K D.fd_Program_contains ["self", "x"] [] := D.F_Program_contains.bindsN fun _ _ _ _ _ _ us hl => match us, hl with | [_, _], _ => rfl
theorem b_Program_add {K : PySem.W.Frag} (D : Ds K) : Binds K D.fd_Program_add ["self", "other"] [] := D.F_Program_add.bindsN fun _ _ _ _ _ _ us hl => match us, hl with | [_, _], _ => rfl
theorem b_Program_mul {K : PySem.W.Frag} (D : Ds K) : Binds K D.fd_Program_mul ["self", "other"] [] := D.F_Program_mul.bindsN fun _ _ _ _ _ _ us hl => match us, hl with | [_, _], _ => rfl
theorem b_Program_neg {K : PySem.W.Frag} (D : Ds K) : Binds K D.fd_Program_neg ["self"] [] := D.F_Program_neg.bindsN fun _ _ _ _ _ _ us hl => match us, hl with | [_], _ => rfl
theorem b_Program_invert {K : PySem.W.Frag} (D : Ds K) : Binds K D.fd_Program_invert ["self"] [] := D.F_Program_invert.bindsN fun _ _ _ _ _ _ us hl => match us, hl with | [_], _ => rfl
theorem b_step_at {K : PySem.W.Frag} (D : Ds K) : Binds K D.fd_step_at ["program", "index"] [] := D.F_step_at.bindsN fun _ _ _ _ _ _ us hl => match us, hl with | [_, _], _ => rfl
theorem b_steps_from {K : PySem.W.Frag} (D : Ds K) : Binds K D.fd_steps_from ["program", "index"] [] := D.F_steps_from.bindsN fun _ _ _ _ _ _ us hl => match us, hl with | [_, _], _ => rfl
theorem b_count_steps {K : PySem.W.Frag} (D : Ds K) : Binds K D.fd_count_steps ["program", "letter"] [] := D.F_count_steps.bindsN fun _ _ _ _ _ _ us hl => match us, hl with | [_, _], _ => rfl
theorem b_written {K : PySem.W.Frag} (D : Ds K) : Binds K D.fd_written ["program"] [] := D.F_written.bindsN fun _ _ _ _ _ _ us hl => match us, hl with | [_], _ => rfl
theorem b_check_text {K : PySem.W.Frag} (D : Ds K) : Binds K D.fd_check_text ["text"] [] := D.F_check_text.bindsN fun _ _ _ _ _ _ us hl => match us, hl with | [_], _ => rfl
theorem b_check_program {K : PySem.W.Frag} (D : Ds K) : Binds K D.fd_check_program ["program"] [] := D.F_check_program.bindsN fun _ _ _ _ _ _ us hl => match us, hl with | [_], _ => rfl
theorem b_check_length {K : PySem.W.Frag} (D : Ds K) : Binds K D.fd_check_length ["program", "most"] [] := D.F_check_length.bindsN fun _ _ _ _ _ _ us hl => match us, hl with | [_, _], _ => rfl
theorem b_check_index {K : PySem.W.Frag} (D : Ds K) : Binds K D.fd_check_index ["index", "most"] [] := D.F_check_index.bindsN fun _ _ _ _ _ _ us hl => match us, hl with | [_, _], _ => rfl
theorem b__law_bag {K : PySem.W.Frag} (D : Ds K) : Binds K D.fd__law_bag ["cell"] [] := D.F__law_bag.bindsN fun _ _ _ _ _ _ us hl => match us, hl with | [_], _ => rfl
theorem b__law_pick {K : PySem.W.Frag} (D : Ds K) : Binds K D.fd__law_pick ["bag", "many"] [] := D.F__law_pick.bindsN fun _ _ _ _ _ _ us hl => match us, hl with | [_, _], _ => rfl
theorem b__law_number {K : PySem.W.Frag} (D : Ds K) : Binds K D.fd__law_number ["bag", "far"] [] := D.F__law_number.bindsN fun _ _ _ _ _ _ us hl => match us, hl with | [_, _], _ => rfl
theorem b__law_words {K : PySem.W.Frag} (D : Ds K) : Binds K D.fd__law_words ["bag", "most", "deep", "letters", "far"] [] := D.F__law_words.bindsN fun _ _ _ _ _ _ us hl => match us, hl with | [_, _, _, _, _], _ => rfl
theorem b__law_length {K : PySem.W.Frag} (D : Ds K) : Binds K D.fd__law_length ["words"] [] := D.F__law_length.bindsN fun _ _ _ _ _ _ us hl => match us, hl with | [_], _ => rfl
theorem b__law_steps {K : PySem.W.Frag} (D : Ds K) : Binds K D.fd__law_steps ["words"] [] := D.F__law_steps.bindsN fun _ _ _ _ _ _ us hl => match us, hl with | [_], _ => rfl
theorem b__law_short {K : PySem.W.Frag} (D : Ds K) : Binds K D.fd__law_short ["bag", "most", "letters", "size"] [] := D.F__law_short.bindsN fun _ _ _ _ _ _ us hl => match us, hl with | [_, _, _, _], _ => rfl
theorem b__law_short_right {K : PySem.W.Frag} (D : Ds K) : Binds K D.fd__law_short_right ["bag", "words"] [] := D.F__law_short_right.bindsN fun _ _ _ _ _ _ us hl => match us, hl with | [_, _], _ => rfl
theorem b__law_at {K : PySem.W.Frag} (D : Ds K) : Binds K D.fd__law_at ["words", "index"] [] := D.F__law_at.bindsN fun _ _ _ _ _ _ us hl => match us, hl with | [_, _], _ => rfl
theorem b__law_count {K : PySem.W.Frag} (D : Ds K) : Binds K D.fd__law_count ["words", "letter"] [] := D.F__law_count.bindsN fun _ _ _ _ _ _ us hl => match us, hl with | [_, _], _ => rfl
theorem b__law_far_right {K : PySem.W.Frag} (D : Ds K) : Binds K D.fd__law_far_right ["bag", "words"] [] := D.F__law_far_right.bindsN fun _ _ _ _ _ _ us hl => match us, hl with | [_, _], _ => rfl
theorem b_law {K : PySem.W.Frag} (D : Ds K) : Binds K D.fd_law ["script"] [] := D.F_law.bindsN fun _ _ _ _ _ _ us hl => match us, hl with | [_], _ => rfl
abbrev Rw : PySem.W.OpenRow := PySem.W.OpenLaw.row PySem.Challenge.rw_plotpens_k05_steps_of_programs
def as0 : List Addr := [3, 6, 4, 24, 44, 63, 82, 94, 106, 118, 130, 142, 151, 158, 165, 172, 173, 174, 175, 182, 189, 196, 203, 208, 215, 222, 229, 246, 255, 260, 267, 274, 281, 288, 295, 302, 309, 399, 410, 417, 424, 431, 438, 445, 452, 459, 466, 473, 480, 487, 494, 501, 508, 513, 520, 527, 532, 537, 0, 23, 43, 62, 81, 93, 105, 117, 129, 141, 150, 157, 164, 171, 181, 188, 195, 202, 207, 214, 221, 228, 245, 254, 259, 266, 273, 280, 287, 294, 301, 308, 398, 409, 416, 423, 430, 437, 444, 451, 458, 465]
def as1 : List Addr := [472, 479, 486, 493, 500, 507, 512, 519, 526, 531, 536, 22, 25, 41, 42, 60, 61, 79, 80, 92, 104, 116, 128, 140, 145, 146, 147, 148, 149, 152, 153, 154, 155, 156, 159, 160, 161, 162, 163, 166, 167, 168, 169, 170, 176, 177, 178, 179, 180, 183, 184, 185, 186, 187, 190, 191, 192, 193, 194, 197, 198, 199, 200, 201, 204, 205, 206, 209, 210, 211, 212, 213, 216, 217, 218, 219, 220, 223, 224, 225, 226, 227, 243, 244, 247, 248, 251, 252, 253, 256, 257, 258, 261, 262, 263, 264, 265, 268, 269, 270]
def as2 : List Addr := [271, 272, 275, 276, 277, 278, 279, 282, 283, 284, 285, 286, 289, 290, 291, 292, 293, 296, 297, 298, 299, 300, 303, 304, 305, 306, 307, 323, 331, 339, 347, 354, 361, 368, 375, 382, 389, 396, 397, 400, 401, 404, 405, 406, 407, 408, 411, 412, 413, 414, 415, 418, 419, 420, 421, 422, 425, 426, 427, 428, 429, 432, 433, 434, 435, 436, 439, 440, 441, 442, 443, 446, 447, 448, 449, 450, 453, 454, 455, 456, 457, 460, 461, 462, 463, 464, 467, 468, 469, 470, 471, 474, 475, 476, 477, 478, 481, 482, 483, 484]
def as3 : List Addr := [485, 488, 489, 490, 491, 492, 495, 496, 497, 498, 499, 502, 503, 504, 505, 506, 509, 510, 511, 514, 515, 516, 517, 518, 521, 522, 523, 524, 525, 528, 529, 530, 533, 534, 535, 40, 59, 78, 242, 322, 330, 338, 346, 353, 360, 367, 374, 381, 388, 395, 35, 36, 37, 38, 39, 54, 55, 56, 57, 58, 73, 74, 75, 76, 77, 237, 238, 239, 240, 241, 317, 318, 319, 320, 321, 329, 337, 345, 348, 349, 350, 351, 352, 355, 356, 357, 358, 359, 362, 363, 364, 365, 366, 369, 370, 371, 372, 373, 376, 377]
def as4 : List Addr := [378, 379, 380, 383, 384, 385, 386, 387, 390, 391, 392, 393, 394, 324, 325, 326, 327, 328, 332, 333, 334, 335, 336, 340, 341, 342, 343, 344, 1, 2]
def as_ : List Addr := as0 ++ as1 ++ as2 ++ as3 ++ as4
abbrev hk : PySem.W.Hook := HP.hookL as_ facts fns
def ob (s : PySem.W.SharedT) : HP.Al := HP.obsL as_ facts fns (HandSHeadRun.getT s)
theorem ob_eq (s : PySem.W.SharedT) : ob s = hk.obs s.abs := HP.obsL_eq (HandSHeadRun.getT_eq s)
end K05

set_option Elab.async false
set_option linter.all false
set_option maxRecDepth 100000
set_option maxHeartbeats 0
namespace K05
open PySem PySem.Spec PyProof.Rows L2
theorem rb0 (w : World) : HP.BaseEq Rw (PySem.W.view Rw.prog [65]) 12000 names (w.withFollow "special-get-raises" false) := by
  intro os
  kernel_rfl
theorem rp0_0 (w : World) : HP.PartEq Rw 12000 as_ (fa0 ++ fa1 ++ fa2 ++ fa3) [] (w.withFollow "special-get-raises" false) := by
  intro os
  kernel_rfl
theorem rp0_1 (w : World) : HP.PartEq Rw 12000 as_ (fa4) fns (w.withFollow "special-get-raises" false) := by
  intro os
  kernel_rfl
theorem run0 (w : World) : HandSHeadRun.RunEq Rw (PySem.W.view Rw.prog [65]) hk ob 12000 names (w.withFollow "special-get-raises" false) := HP.run_join (rb0 w) (by
  have e := (rp0_0 w).app (rp0_1 w)
  simp only [List.append_assoc, List.nil_append] at e
  unfold facts
  simp only [List.append_assoc]
  exact e)
theorem rb1 (w : World) : HP.BaseEq Rw (PySem.W.view Rw.prog [65]) 12000 names (w.withFollow "special-get-raises" true) := by
  intro os
  kernel_rfl
theorem rp1_0 (w : World) : HP.PartEq Rw 12000 as_ (fa0 ++ fa1 ++ fa2 ++ fa3) [] (w.withFollow "special-get-raises" true) := by
  intro os
  kernel_rfl
theorem rp1_1 (w : World) : HP.PartEq Rw 12000 as_ (fa4) fns (w.withFollow "special-get-raises" true) := by
  intro os
  kernel_rfl
theorem run1 (w : World) : HandSHeadRun.RunEq Rw (PySem.W.view Rw.prog [65]) hk ob 12000 names (w.withFollow "special-get-raises" true) := HP.run_join (rb1 w) (by
  have e := (rp1_0 w).app (rp1_1 w)
  simp only [List.append_assoc, List.nil_append] at e
  unfold facts
  simp only [List.append_assoc]
  exact e)
theorem run (w : World) : HandSHeadRun.RunEq Rw (PySem.W.view Rw.prog [65]) hk ob 12000 names w := PySem.W.byRow2 "special-get-raises" (P := fun w => HandSHeadRun.RunEq Rw (PySem.W.view Rw.prog [65]) hk ob 12000 names w) run0 run1 w
end K05

set_option linter.all false
set_option maxRecDepth 100000
set_option maxHeartbeats 4000000
/-! words of program texts: signs -/
namespace WM
open PySem PySem.Spec PyProof.Rows L2 TL PySem.Builtin PySem.Builtin.Str PySem.StrLaws
/-- a word: an opening bracket, a closing one with its number, a letter so many times -/
inductive Wd where
  | op
  | cl (n : Nat)
  | lt (c : Nat) (n : Nat)
  deriving DecidableEq
def six : List Nat := [102, 98, 108, 114, 117, 100]
abbrev T30 : Nat := 1000000000000000000000000000000
def Wd.ok : Wd → Prop
  | .op => True
  | .cl n => 2 ≤ n ∧ n ≤ T30
  | .lt c n => c ∈ six ∧ 1 ≤ n ∧ n ≤ T30
def Wd.cps : Wd → List Nat
  | .op => [40]
  | .cl n => 41 :: numL n
  | .lt c n => if n = 1 then [c] else c :: numL n
def Wd.str (x : Wd) : Str := ⟨x.cps.toArray⟩
theorem tl_str (x : Wd) : tl x.str = x.cps := rfl
theorem len_tl (x : Str) : x.length = (tl x).length := by
  show x.cps.size = x.cps.toList.length
  rw [Array.length_toList]
theorem cps_len {x : Wd} (h : x.ok) : x.cps.length ≤ 32 := by
  cases x with
  | op => decide
  | cl n =>
    have := numL_len (n := n) (k := 31) (by decide) (by have h2 : n ≤ 1000000000000000000000000000000 := h.2; omega)
    simp only [Wd.cps, List.length_cons]
    omega
  | lt c n =>
    have := numL_len (n := n) (k := 31) (by decide) (by have h2 : n ≤ 1000000000000000000000000000000 := h.2.2; omega)
    simp only [Wd.cps]
    split
    · show 1 ≤ 32
      decide
    · simp only [List.length_cons]
      omega
theorem numL_head {n : Nat} (h : 1 ≤ n) : ∃ d r, numL n = d :: r ∧ 49 ≤ d ∧ d ≤ 57 := by
  induction n using Nat.strongRecOn with
  | ind n ih =>
    by_cases h10 : n < 10
    · exact ⟨48 + n, [], numL_lt h10, by omega, by omega⟩
    · obtain ⟨d, r, e, h1, h2⟩ := ih (n / 10) (by omega) (by omega)
      exact ⟨d, r ++ [48 + n % 10], by rw [numL_step (by omega), e]; rfl, h1, h2⟩
/-- the digits of a number, as a text -/
def dgS (n : Nat) : Str := ⟨(numL n).toArray⟩
theorem dgS_eq (n : Nat) : Str.ofString (toString ((n : Nat) : Int)) = dgS n := ext_tl (tl_num n)
theorem dg_len {n : Nat} (h : n ≤ T30) : (dgS n).length ≤ 31 := by
  rw [len_tl]
  exact numL_len (by decide) (by have h2 : n ≤ 1000000000000000000000000000000 := h; omega)
theorem dg_ascii (n : Nat) : Txt.isascii (dgS n) = true := by
  show (dgS n).cps.all (· < 128) = true
  rw [← Array.all_toList]
  refine List.all_eq_true.mpr fun c hc => ?_
  have := numL_digits n c hc
  simp only [decide_eq_true_eq]
  omega
theorem uni_digit : ∀ c, 48 ≤ c → c ≤ 57 → Unicode.isDigit c = true := by
  intro c h1 h2
  have : c = 48 ∨ c = 49 ∨ c = 50 ∨ c = 51 ∨ c = 52 ∨ c = 53 ∨ c = 54 ∨ c = 55 ∨ c = 56 ∨ c = 57 := by omega
  rcases this with rfl | rfl | rfl | rfl | rfl | rfl | rfl | rfl | rfl | rfl <;> decide +kernel
theorem dg_digit (n : Nat) : Txt.isdigit (dgS n) = true := by
  show (decide ((dgS n).length > 0) && (dgS n).cps.all Unicode.isDigit) = true
  have h1 : 0 < (dgS n).length := by
    rw [len_tl]
    exact List.length_pos_iff.mpr (numL_ne n)
  rw [decide_eq_true h1, Bool.true_and, ← Array.all_toList]
  refine List.all_eq_true.mpr fun c hc => ?_
  have := numL_digits n c hc
  exact uni_digit c this.1 this.2
theorem dg_int {n : Nat} (h : n ≤ T30) : intText? (dgS n) = some (n : Int) := by
  rw [← dgS_eq]
  refine int_num ?_
  have := dg_len h
  rw [len_tl] at this
  exact Nat.le_trans this (by decide)
/-- startswith of one sign -/
theorem starts1 (x : Str) (c : Nat) : Txt.startswith x ⟨#[c]⟩ = (match tl x with | [] => false | d :: _ => decide (d = c)) := by
  show (decide (0 + 1 ≤ x.length) && subAt x ⟨#[c]⟩ 0) = _
  rw [subAt_eq]
  have e1 : (⟨#[c]⟩ : Str).cps.toList = [c] := rfl
  have e2 : (⟨#[c]⟩ : Str).length = 1 := rfl
  have e3 : x.length = (tl x).length := len_tl x
  rw [e1, e2, e3]
  show (decide (0 + 1 ≤ (tl x).length) && (List.take 1 (List.drop 0 (tl x)) == [c])) = _
  cases tl x with
  | nil => rfl
  | cons d r =>
    show (decide (0 + 1 ≤ r.length + 1) && ([d] == [c])) = decide (d = c)
    rw [decide_eq_true (by omega), Bool.true_and]
    by_cases h : d = c
    · subst h
      simp
    · rw [decide_eq_false h]
      simp [h]
theorem dg_no0 {n : Nat} (h : 1 ≤ n) : Txt.startswith (dgS n) ⟨#[48]⟩ = false := by
  obtain ⟨d, r, e, h1, h2⟩ := numL_head h
  rw [starts1]
  have e2 : tl (dgS n) = d :: r := e
  rw [e2]
  exact decide_eq_false (by omega)
def sixB (x : Str) : Bool := inV (.str x) [.str "f", .str "b", .str "l", .str "r", .str "u", .str "d"]
theorem sixB_eq (x : Str) : sixB x = six.any fun c => decide (tl x = [c]) := by
  have e : ∀ (y : Str) (c : Nat), tl y = [c] → (y == x) = decide (tl x = [c]) := by
    intro y c h
    by_cases z : y = x
    · subst z
      rw [decide_eq_true h]
      exact beq_self_eq_true y
    · rw [decide_eq_false (fun w => z (ext_tl (h.trans w.symm)))]
      exact beq_false_of_ne z
  show ((("f" : Str) == x) || ((("b" : Str) == x) || ((("l" : Str) == x) || ((("r" : Str) == x) || ((("u" : Str) == x) || ((("d" : Str) == x) || false)))))) = _
  rw [e "f" 102 (by decide), e "b" 98 (by decide), e "l" 108 (by decide), e "r" 114 (by decide), e "u" 117 (by decide), e "d" 100 (by decide)]
  rfl
theorem six_one {c : Nat} (h : c ∈ six) : sixB ⟨#[c]⟩ = true := by
  rw [sixB_eq]
  exact List.any_eq_true.mpr ⟨c, h, decide_eq_true rfl⟩
theorem six_not {x : Str} (h : ∀ c ∈ six, tl x ≠ [c]) : sixB x = false := by
  rw [sixB_eq]
  exact List.any_eq_false.mpr fun c hc => by rw [decide_eq_false (h c hc)]; decide
/-- the first sign, the rest -/
theorem cut_first (d : Nat) (r : List Nat) : cutS ⟨(d :: r).toArray⟩ none (some 1) = ⟨#[d]⟩ := by
  refine ext_tl ?_
  have e2 : HT.sIx (d :: r).length (d :: r).length (some 1) = 1 := by
    have := HT.sIx_nat (d :: r).length (d :: r).length 1
    rw [show ((1 : Nat) : Int) = 1 from rfl] at this
    rw [this, List.length_cons]
    omega
  show ((d :: r).drop 0).take (HT.sIx (d :: r).length (d :: r).length (some 1) - 0) = [d]
  rw [e2]
  rfl
theorem cut_rest (d : Nat) (r : List Nat) : cutS ⟨(d :: r).toArray⟩ (some 1) none = ⟨r.toArray⟩ := by
  refine ext_tl ?_
  have e2 : HT.sIx (d :: r).length 0 (some 1) = 1 := by
    have := HT.sIx_nat (d :: r).length 0 1
    rw [show ((1 : Nat) : Int) = 1 from rfl] at this
    rw [this, List.length_cons]
    omega
  show ((d :: r).drop (HT.sIx (d :: r).length 0 (some 1))).take ((d :: r).length - HT.sIx (d :: r).length 0 (some 1)) = r
  rw [e2]
  show List.take (r.length + 1 - 1) r = r
  rw [Nat.add_sub_cancel, List.take_length]
theorem cl_cut (n : Nat) : cutS (Wd.cl n).str none (some 1) = ⟨#[41]⟩ ∧ cutS (Wd.cl n).str (some 1) none = dgS n := ⟨cut_first 41 (numL n), cut_rest 41 (numL n)⟩
theorem lt_cut (c : Nat) {n : Nat} (h : n ≠ 1) : cutS (Wd.lt c n).str none (some 1) = ⟨#[c]⟩ ∧ cutS (Wd.lt c n).str (some 1) none = dgS n := by
  have e : (Wd.lt c n).str = ⟨(c :: numL n).toArray⟩ := by
    show (⟨(if n = 1 then [c] else c :: numL n).toArray⟩ : Str) = _
    rw [if_neg h]
  rw [e]
  exact ⟨cut_first c (numL n), cut_rest c (numL n)⟩
theorem lt1_str (c : Nat) : (Wd.lt c 1).str = ⟨#[c]⟩ := rfl
theorem six_cl (n : Nat) : sixB (Wd.cl n).str = false := six_not fun c hc e => by
  have e : 41 :: numL n = [c] := e
  injection e with e1 e2
  exact numL_ne n e2
theorem six_lt (c : Nat) {n : Nat} (h : n ≠ 1) : sixB (Wd.lt c n).str = false := six_not fun d hd e => by
  have e : (if n = 1 then [c] else c :: numL n) = [d] := e
  rw [if_neg h] at e
  injection e with e1 e2
  exact numL_ne n e2
theorem six_41 : sixB ⟨#[41]⟩ = false := by decide
theorem op_starts : Txt.startswith Wd.op.str ⟨#[41]⟩ = false := by decide
theorem cl_starts (n : Nat) : Txt.startswith (Wd.cl n).str ⟨#[41]⟩ = true := by
  rw [starts1]
  show (match 41 :: numL n with | [] => false | d :: _ => decide (d = 41)) = true
  rfl
theorem six_ne {c : Nat} (h : c ∈ six) : c ≠ 41 ∧ c ≠ 40 ∧ c ≠ 32 := by
  simp only [six, List.mem_cons, List.not_mem_nil, or_false] at h
  omega
theorem lt_starts {c n : Nat} (h : c ∈ six) : Txt.startswith (Wd.lt c n).str ⟨#[41]⟩ = false := by
  rw [starts1]
  have e : tl (Wd.lt c n).str = if n = 1 then [c] else c :: numL n := rfl
  rw [e]
  have := (six_ne h).1
  by_cases h1 : n = 1
  · rw [if_pos h1]
    exact decide_eq_false this
  · rw [if_neg h1]
    exact decide_eq_false this
theorem is_op (x : Wd) (hx : x.ok) : (x.str = Wd.op.str) ↔ x = .op := by
  constructor
  · intro h
    have e : x.cps = [40] := congrArg tl h
    cases x with
    | op => rfl
    | cl n => cases e
    | lt c n =>
      have h6 := (six_ne hx.1).2.1
      simp only [Wd.cps] at e
      split at e
      · injection e with e1
        exact absurd e1 h6
      · injection e with e1
        exact absurd e1 h6
  · intro h
    rw [h]
theorem free_sp (x : Wd) (hx : x.ok) : 32 ∉ tl x.str := by
  have e : tl x.str = x.cps := rfl
  rw [e]
  cases x with
  | op => decide
  | cl n =>
    simp only [Wd.cps, List.mem_cons, not_or]
    exact ⟨by decide, numL_free (.inl (by decide))⟩
  | lt c n =>
    have h6 := (six_ne hx.1).2.2
    simp only [Wd.cps]
    split
    · simp only [List.mem_cons, List.not_mem_nil, or_false]
      exact fun z => h6 z.symm
    · simp only [List.mem_cons, not_or]
      exact ⟨fun z => h6 z.symm, numL_free (.inl (by decide))⟩
end WM

set_option Elab.async false
set_option linter.all false
set_option maxRecDepth 100000
set_option maxHeartbeats 4000000
namespace K05P
open PySem PySem.Spec PyProof.Rows L2 RT WM K05
section
variable {P : Program} {w : World} {K : PySem.W.Frag} {mg : Str → Option Value} {base : Heap}
theorem kit_ss {K : PySem.W.Frag} : PySem.W.kitOne K (.type "str") (.type "str") = some true := kit_ty (by decide +kernel)
def spLetter : Sp := fun vs H Q _ => ∃ x : Str, vs = [.str x] ∧ Q (.bl (sixB x)) H
theorem ok_letter (D : Ds K) (T : Tx K mg) : FnOk P w K mg base CX0 1 (dis_letter.adr K) D.fd_is_letter ["value"] spLetter := by
  refine D.F_is_letter.ok scis_letter (fun vs H Q E h => ?_) (fun cdv A outer s H vs Q E hr h => ?_)
  · obtain ⟨x, rfl, _⟩ := h
    rfl
  · obtain ⟨x, rfl, q⟩ := h
    refine ⟨_, PSs.nox (pss_one (ps_ret (pe_and (pe_callB call_isiY (by rfl) T.z_isinstance (by decide +kernel) (pa_cons (pv 0) (pa_cons (pe_bltn (v := .ty "str") (by rfl) T.z_str (by decide +kernel) rfl) pa_nil)))
      (pe_one (pe_cmpR op_in_seq (pv 0) (pe_glob (v := .ref (He.ga K "LETTERS")) rfl T.g_LETTERS rfl) (by rfl)))))), ?_⟩
    refine ⟨_, rfl, _, .ty "str", _, _, true, rfl, .ty "str", .base (.base (.str x)), kit_ss, true, rfl, iteT ?_⟩
    exact ⟨_, rfl, _, _, rfl, .inr (T.l_LETTERS H), rfl, rfl, q⟩
def spDec : Sp := fun vs H Q _ => ∃ n : Nat, vs = [.str (dgS n)] ∧ 2 ≤ n ∧ n ≤ T30 ∧ Q (.bl true) H
theorem dg_ne0 {n : Nat} (h : 2 ≤ n) : dgS n ≠ "0" := fun z => by
  have h1 := dg_no0 (n := n) (by omega)
  rw [z] at h1
  revert h1
  decide
theorem ok_dec (D : Ds K) (T : Tx K mg) : FnOk P w K mg base CX0 1 (dis_decimal.adr K) D.fd_is_decimal ["word"] spDec := by
  refine D.F_is_decimal.ok scis_decimal (fun vs H Q E h => ?_) (fun cdv A outer s H vs Q E hr h => ?_)
  · obtain ⟨n, rfl, _⟩ := h
    rfl
  · obtain ⟨n, rfl, h2, h30, q⟩ := h
    obtain ⟨tD, vD⟩ := T.v_MOST_DIGITS
    refine ⟨_, PSs.nox (pss_cons (ps_if (PW.pt (pw_or (pt_cmpR op_gt (pe_callB call_len_str (by rfl) T.z_len PySem.boot_len (pa_cons (pv 0) pa_nil)) (pe_glob (v := .int 31) rfl vD ⟨_, rfl⟩) (nomark _))
        (pw_or (pt_not (pt_val (pe_m0 PySem.F.slot_str_isascii PySem.F.type_str_isascii mt_isascii (pv 0)))) (pw_or1 (pt_not (pt_val (pe_m0 PySem.F.slot_str_isdigit PySem.F.type_str_isdigit mt_isdigit (pv 0))))))))
        (pss_one (ps_ret pe_bl)) pss_nil)
      (pss_one (ps_ret (pe_or (pe_cmpR op_eq (pv 0) pe_str (nomark _)) (pe_one (pe_not (pe_m1 PySem.F.slot_str_startswith PySem.F.type_str_startswith mt_startswith (pv 0) pe_str))))))), ?_⟩
    have hl := dg_len h30
    have h31 : ((dgS n).length : Int) ≤ 31 := by omega
    have hz : (dgS n).length ≤ sizeLine := Nat.le_trans hl (by decide)
    refine ⟨_, rfl, _, rfl, hz, _, _, rfl, rfl, _, rfl, ?_⟩
    rw [decide_eq_false (show ¬ ((dgS n).length : Int) > 31 by omega)]
    refine iteF ⟨_, rfl, ⟨_, rfl⟩, _, rfl, rfl, trivial, true, by rw [dg_ascii], iteF ⟨_, rfl, ⟨_, rfl⟩, _, rfl, rfl, trivial, true, by rw [dg_digit], iteF ?_⟩⟩
    refine ⟨_, rfl, rfl, false, congrArg V.bl (decide_eq_false fun z => by injection z with z; exact dg_ne0 h2 z), iteF ?_⟩
    refine ⟨_, rfl, ⟨_, rfl⟩, _, _, rfl, rfl, false, by rw [show Txt.startswith (dgS n) ("0" : Str) = false from dg_no0 (by omega)], q⟩
def spNumb : Sp := fun vs H Q _ => ∃ n : Nat, vs = [.str (dgS n)] ∧ 2 ≤ n ∧ n ≤ T30 ∧ Q (.bl true) H
theorem ok_numb (D : Ds K) (T : Tx K mg) : FnOk P w K mg base CX0 2 (d_is_number.adr K) D.fd__is_number ["digits"] spNumb := by
  have GD : FnOk P w K mg base CX0 1 _ _ _ spDec := ok_dec D T
  refine D.F__is_number.ok sc_is_number (fun vs H Q E h => ?_) (fun cdv A outer s H vs Q E hr h => ?_)
  · obtain ⟨n, rfl, _⟩ := h
    rfl
  · obtain ⟨n, rfl, h2, h30, q⟩ := h
    obtain ⟨tM, vM⟩ := T.v_MOST_TIMES
    refine ⟨_, PSs.nox (pss_one (ps_ret (pe_and (pe_call GD hr (by rfl) T.g_is_decimal D.F_is_decimal.kp (b_is_decimal D) .nil pass0 (pa_cons (pv 0) pa_nil))
        (pe_one (pe_chain op_le op_le pe_int (pe_callTy call_int_str (by rfl) T.z_int (by decide +kernel) (pa_cons (pv 0) pa_nil)) (pe_glob (v := .int 1000000000000000000000000000000) rfl vM ⟨_, rfl⟩)))))), ?_⟩
    have hl := dg_len h30
    have h30' : (n : Int) ≤ 1000000000000000000000000000000 := by
      have : n ≤ 1000000000000000000000000000000 := h30
      omega
    refine ⟨_, rfl, n, rfl, h2, h30, true, rfl, iteT ?_⟩
    refine ⟨_, rfl, _, _, rfl, dg_int h30, Nat.le_trans hl (by decide), _, _, rfl, rfl, true, by show V.bl (decide ((2 : Int) ≤ (n : Int))) = _; rw [decide_eq_true (show (2 : Int) ≤ (n : Int) by omega)], iteT ⟨_, _, rfl, rfl, ?_⟩⟩
    show Q (.bl (decide ((n : Int) ≤ 1000000000000000000000000000000))) H
    rw [decide_eq_true h30']
    exact q
def spCounted : Sp := fun vs H Q _ => ∃ x : Wd, vs = [.str x.str] ∧ x.ok ∧ x ≠ .op ∧ Q (.bl true) H
theorem ok_counted (D : Ds K) (T : Tx K mg) : FnOk P w K mg base CX0 3 (d_is_counted.adr K) D.fd__is_counted ["word"] spCounted := by
  have GL : FnOk P w K mg base CX0 1 _ _ _ spLetter := ok_letter D T
  have GN : FnOk P w K mg base CX0 2 _ _ _ spNumb := ok_numb D T
  refine D.F__is_counted.ok sc_is_counted (fun vs H Q E h => ?_) (fun cdv A outer s H vs Q E hr h => ?_)
  · obtain ⟨x, rfl, _⟩ := h
    rfl
  · obtain ⟨x, rfl, hx, hn, q⟩ := h
    have hz : x.str.length ≤ sizeLine := by
      rw [len_tl]
      exact Nat.le_trans (cps_len hx) (by decide)
    refine ⟨_, PSs.nox (pss_cons (ps_if (pt_val (pe_call GL (hr.mono (by decide)) (by rfl) T.g_is_letter D.F_is_letter.kp (b_is_letter D) .nil pass0 (pa_cons (pv 0) pa_nil))) (pss_one (ps_ret pe_bl)) pss_nil)
      (pss_one (ps_ret (pe_and (pe_or (pe_call GL (hr.mono (by decide)) (by rfl) T.g_is_letter D.F_is_letter.kp (b_is_letter D) .nil pass0 (pa_cons (pe_slice sl_str (pv 0) po_none (po_some pe_int)) pa_nil)) (pe_one (pe_m1 PySem.F.slot_str_startswith PySem.F.type_str_startswith mt_startswith (pv 0) pe_str)))
        (pe_one (pe_call GN hr (by rfl) T.g__is_number D.F__is_number.kp (b__is_number D) .nil pass0 (pa_cons (pe_slice sl_str (pv 0) (po_some pe_int) po_none) pa_nil))))))), ?_⟩
    refine ⟨_, rfl, _, rfl, _, rfl, ?_⟩
    cases x with
    | op => exact absurd rfl hn
    | cl n =>
      rw [six_cl]
      refine iteF ⟨_, rfl, 1, rfl, _, rfl, hz, _, rfl, ?_⟩
      rw [(cl_cut n).1, six_41]
      refine ⟨false, rfl, iteF ⟨_, rfl, ⟨_, rfl⟩, _, _, rfl, rfl, true, by rw [show Txt.startswith (Wd.cl n).str (")" : Str) = true from cl_starts n], iteT ?_⟩⟩
      exact ⟨_, rfl, 1, rfl, _, rfl, hz, n, by rw [(cl_cut n).2]; rfl, hx.1, hx.2, q⟩
    | lt c n =>
      by_cases h1 : n = 1
      · subst h1
        rw [show sixB (Wd.lt c 1).str = true from six_one hx.1]
        exact iteT q
      · rw [six_lt c h1]
        refine iteF ⟨_, rfl, 1, rfl, _, rfl, hz, _, rfl, ?_⟩
        rw [(lt_cut c h1).1, six_one hx.1]
        refine ⟨true, rfl, iteT ?_⟩
        refine ⟨true, rfl, iteT ?_⟩
        exact ⟨_, rfl, 1, rfl, _, rfl, hz, n, by rw [(lt_cut c h1).2]; rfl, by have := hx.2.1; omega, hx.2.2, q⟩
end
end K05P

set_option linter.all false
set_option maxRecDepth 100000
set_option maxHeartbeats 4000000
/-! rows of words -/
namespace WM
open PySem PySem.Spec PyProof.Rows L2 TL
def isOp : Wd → Bool
  | .op => true
  | _ => false
def isCl : Wd → Bool
  | .cl _ => true
  | _ => false
def b2 (b : Bool) : Int := if b then 1 else 0
def step (x : Wd) : Int := b2 (isOp x) - b2 (isCl x)
/-- how deep it is behind i words -/
def dep (ws : List Wd) (i : Nat) : Int := ((ws.take i).map step).sum
theorem dep_succ {ws : List Wd} {i : Nat} {x : Wd} (h : ws[i]? = some x) : dep ws (i + 1) = dep ws i + b2 (isOp x) - b2 (isCl x) := by
  unfold dep
  rw [List.take_succ, h, List.map_append, List.sum_append]
  show _ + (step x + 0) = _
  unfold step
  omega
/-- the words of a program text -/
structure OkW (ws : List Wd) : Prop where
  ok : ∀ x ∈ ws, x.ok
  most : ws.length ≤ 1000
  cl : ∀ (i n : Nat), ws[i]? = some (.cl n) → 0 < dep ws i ∧ ∀ j : Nat, j + 1 = i → ws[j]? ≠ some .op
  up : ∀ i : Nat, i ≤ ws.length → 0 ≤ dep ws i ∧ dep ws i ≤ 12
  need : ∀ (i : Nat) (x : Wd), ws[i]? = some x → (i : Int) + 1 + (dep ws (i + 1) + b2 (isOp x)) ≤ 1000
  shut : dep ws ws.length = 0
def wstrs (ws : List Wd) : List V := ws.map fun x => V.str x.str
def textOf (ws : List Wd) : Str := Str.join " " (ws.map Wd.str)
theorem joinL_len (S : List Nat) (B : Nat) : ∀ ps : List (List Nat), (∀ p ∈ ps, p.length ≤ B) → (joinL S ps).length ≤ ps.length * (B + S.length)
  | [], _ => by simp [joinL]
  | [p], h => by
    have := h p (List.mem_singleton.mpr rfl)
    simp only [joinL, List.length_singleton, Nat.one_mul]
    omega
  | p :: q :: r, h => by
    have h1 := h p (List.mem_cons_self ..)
    have h2 := joinL_len S B (q :: r) fun z hz => h z (List.mem_cons_of_mem _ hz)
    simp only [joinL, List.length_append, List.length_cons] at h2 ⊢
    rw [Nat.add_mul (r.length + 1) 1, Nat.one_mul]
    omega
theorem text_len {ws : List Wd} (h : OkW ws) : (textOf ws).length ≤ 33000 := by
  rw [len_tl]
  unfold textOf
  rw [tl_join]
  have h1 := joinL_len (tl " ") 32 ((ws.map Wd.str).map tl) (by
    intro p hp
    obtain ⟨s, hs, rfl⟩ := List.mem_map.mp hp
    obtain ⟨x, hx, rfl⟩ := List.mem_map.mp hs
    exact cps_len (h.ok x hx))
  have e : (tl (" " : Str)).length = 1 := rfl
  rw [List.length_map, List.length_map, e] at h1
  have := h.most
  omega
theorem text_ne {ws : List Wd} (hn : ws ≠ []) : (textOf ws : Str) ≠ "" := by
  intro e
  have e2 : tl (textOf ws) = [] := by rw [e]; rfl
  unfold textOf at e2
  rw [tl_join] at e2
  cases ws with
  | nil => exact hn rfl
  | cons x r =>
    have hx : x.cps ≠ [] := by
      cases x with
      | op => simp [Wd.cps]
      | cl n => simp [Wd.cps]
      | lt c n =>
        simp only [Wd.cps]
        split <;> simp
    cases r with
    | nil => exact hx e2
    | cons y r =>
      have e3 : x.cps ++ (tl (" " : Str) ++ _) = [] := e2
      exact hx (List.append_eq_nil_iff.mp e3).1
theorem split_text {ws : List Wd} (h : OkW ws) (hn : ws ≠ []) : Txt.split (textOf ws) " " = ws.map Wd.str := by
  have := split_join (y := " ") (s := 32) (S := []) rfl (by decide +kernel) (parts := ws.map Wd.str) (fun e => hn (List.map_eq_nil_iff.mp e)) (fun p hp => by
    obtain ⟨x, hx, rfl⟩ := List.mem_map.mp hp
    exact free_sp x (h.ok x hx))
  rw [join_eq] at this
  exact this
theorem for_enum {K : PySem.W.Frag} {a : Addr} {xs : List V} {g : TG} {tb : TS} {D : Ends} {σ : L2.St} {H : Hp} (Pv : Nat → L2.St → Hp → Prop) (h0 : Pv 0 σ H) (hl : ∀ i σ H, i ≤ xs.length → Pv i σ H → SqL K H a xs)
    (hs : ∀ i x σ H T, xs[i]? = some x → Pv i σ H → H T = none → g (.ref T) σ (upd H T (.tup [.int (i : Nat), x])) fun σ2 H2 => tb { D with nx := Pv (i + 1), ct := Pv (i + 1), bk := D.nx } σ2 H2) (hd : ∀ σ H, Pv xs.length σ H → D.nx σ H) :
    ∃ W : Nat → Nat → L2.St → Hp → Prop, (∃ m, W 0 m σ H) ∧ ∀ i m σ H, W i m σ H →
      ((Ite K a).stop i H ∧ D.nx σ H) ∨ ((Ite K a).go i H ∧ ∃ N : L2.St → Hp → Prop, (∀ σ' H', N σ' H' → ∃ m', m' < m ∧ W (i + 1) m' σ' H') ∧ ∀ x H', (Ite K a).yld i H x H' → g x σ H' fun σ2 H2 => tb { D with nx := N, ct := N, bk := D.nx } σ2 H2) := by
  refine ⟨fun i m σ H => m = xs.length - i ∧ i ≤ xs.length ∧ Pv i σ H, ⟨xs.length, by simp, Nat.zero_le _, h0⟩, ?_⟩
  rintro i m σ H ⟨rfl, hi, p⟩
  have q := hl i σ H hi p
  by_cases hlt : i < xs.length
  · refine .inr ⟨⟨xs, xs[i], q, by simp [hlt]⟩, Pv (i + 1), fun σ' H' p' => ⟨xs.length - (i + 1), by omega, rfl, hlt, p'⟩, fun x H' y => ?_⟩
    obtain ⟨T, v, rfl, hT, rfl, y⟩ := y
    exact hs i v σ _ T (y xs q) p hT
  · have e : i = xs.length := by omega
    subst e
    exact .inl ⟨⟨xs, q, Nat.le_refl _⟩, hd σ H p⟩
end WM

set_option Elab.async false
set_option linter.all false
set_option maxRecDepth 100000
set_option maxHeartbeats 4000000
namespace K05P
open PySem PySem.Spec PyProof.Rows L2 RT WM K05 TL
theorem same_new {H : Hp} {p : Addr} {o : HO} (h : H p = none) : Same H (upd H p o) := fun b x e => by
  rw [upd_ne (ne_of_none e h)]
  exact e
theorem Same.sql {K : PySem.W.Frag} {H H' : Hp} {a : Addr} {xs : List V} (e : Same H H') (h : SqL K H a xs) : SqL K H' a xs := by
  rcases h with (h | ⟨o, h⟩) | h
  · exact .inl (.inl (e _ _ h))
  · exact .inl (.inr ⟨o, e _ _ h⟩)
  · exact .inr h
theorem Same.sqt {K : PySem.W.Frag} {H H' : Hp} {a : Addr} {xs : List V} (e : Same H H') (h : SqT K H a xs) : SqT K H' a xs := by
  rcases h with (h | ⟨o, h⟩) | h
  · exact .inl (.inl (e _ _ h))
  · exact .inl (.inr ⟨o, e _ _ h⟩)
  · exact .inr h
theorem tupT {K : PySem.W.Frag} {H : Hp} {a : Addr} {xs : List V} (h : H a = some (.tup xs)) : SqT K H a xs := .inl (.inl h)
theorem lstL {K : PySem.W.Frag} {H : Hp} {a : Addr} {xs : List V} (h : H a = some (.lst xs)) : SqL K H a xs := .inl (.inl h)
section
variable {P : Program} {w : World} {K : PySem.W.Frag} {mg : Str → Option Value} {base : Heap}
def spWords : Sp := fun vs H Q _ => ∃ ws, vs = [.str (textOf ws)] ∧ OkW ws ∧ ∀ r H', Same H H' → H r = none → H' r = some (.lst (wstrs ws)) → Q (.ref r) H'
theorem ok_words (D : Ds K) (T : Tx K mg) : FnOk P w K mg base CX0 1 (dwords_of.adr K) D.fd_words_of ["text"] spWords := by
  refine D.F_words_of.ok scwords_of (fun vs H Q E h => ?_) (fun cdv A outer s H vs Q E hr h => ?_)
  · obtain ⟨x, rfl, _⟩ := h
    rfl
  · obtain ⟨ws, rfl, ok, q⟩ := h
    refine ⟨_, PSs.nox (pss_cons (ps_if (pt_cmpR op_eq (pv 0) pe_str (nomark _)) (pss_one (ps_ret (pe_lst pa_nil))) pss_nil)
      (pss_one (ps_ret (pe_split (pv 0) pe_str)))), ?_⟩
    have hl := text_len ok
    by_cases hn : ws = []
    · subst hn
      refine ⟨_, rfl, rfl, true, rfl, iteT ⟨by show 0 ≤ sizeLine; decide, fun l hl => q l _ (same_new hl) hl upd_same⟩⟩
    · refine ⟨_, rfl, rfl, false, by rw [decide_eq_false]; intro z; injection z with z; exact text_ne hn z, iteF ?_⟩
      refine ⟨_, rfl, ⟨_, rfl⟩, _, _, rfl, rfl, rfl, Nat.le_trans (Nat.add_le_add_right hl 2) (by decide), fun l hl => ?_⟩
      refine q l _ (same_new hl) hl ?_
      rw [upd_same, split_text ok hn, List.map_map]
      rfl
def numOf : Wd → Nat
  | .op => 1
  | .cl n => n
  | .lt _ n => n
def spNumOf : Sp := fun vs H Q _ => ∃ x : Wd, vs = [.str x.str] ∧ x.ok ∧ Q (.int (numOf x : Int)) H
theorem ok_numof (D : Ds K) (T : Tx K mg) : FnOk P w K mg base CX0 1 (dnumber_of.adr K) D.fd_number_of ["word"] spNumOf := by
  refine D.F_number_of.ok scnumber_of (fun vs H Q E h => ?_) (fun cdv A outer s H vs Q E hr h => ?_)
  · obtain ⟨x, rfl, _⟩ := h
    rfl
  · obtain ⟨x, rfl, hx, q⟩ := h
    have hz : x.str.length ≤ sizeLine := by
      rw [WM.len_tl]
      exact Nat.le_trans (cps_len hx) (by decide)
    refine ⟨_, PSs.nox (pss_cons (ps_if (pt_cmpR op_eq (pe_callB call_len_str (by rfl) T.z_len PySem.boot_len (pa_cons (pv 0) pa_nil)) pe_int (nomark _)) (pss_one (ps_ret pe_int)) pss_nil)
      (pss_one (ps_ret (pe_callTy call_int_str (by rfl) T.z_int (by decide +kernel) (pa_cons (pe_slice sl_str (pv 0) (po_some pe_int) po_none) pa_nil))))), ?_⟩
    refine ⟨_, rfl, _, rfl, hz, rfl, ?_⟩
    have big : ∀ n : Nat, (numL n).length ≠ 0 := fun n z => numL_ne n (List.length_eq_zero_iff.mp z)
    cases x with
    | op => exact ⟨true, rfl, iteT q⟩
    | cl n =>
      refine ⟨false, ?_, iteF ⟨_, rfl, 1, rfl, _, rfl, hz, _, n, rfl, ?_, ?_, q⟩⟩
      · rw [decide_eq_false]
        intro z
        injection z with z
        have z : (((numL n).length + 1 : Nat) : Int) = 1 := z
        have := big n
        omega
      · rw [(cl_cut n).2]
        exact dg_int hx.2
      · rw [(cl_cut n).2]
        exact Nat.le_trans (dg_len hx.2) (by decide)
    | lt c n =>
      by_cases h1 : n = 1
      · subst h1
        exact ⟨true, rfl, iteT q⟩
      · refine ⟨false, ?_, iteF ⟨_, rfl, 1, rfl, _, rfl, hz, _, n, rfl, ?_, ?_, q⟩⟩
        · rw [decide_eq_false]
          intro z
          injection z with z
          have e : (Wd.lt c n).str = ⟨(c :: numL n).toArray⟩ := by
            show (⟨(if n = 1 then [c] else c :: numL n).toArray⟩ : Str) = _
            rw [if_neg h1]
          rw [e] at z
          have z : (((numL n).length + 1 : Nat) : Int) = 1 := z
          have := big n
          omega
        · rw [(lt_cut c h1).2]
          exact dg_int hx.2.2
        · rw [(lt_cut c h1).2]
          exact Nat.le_trans (dg_len hx.2.2) (by decide)
def spWrong (K : PySem.W.Frag) : Sp := fun vs H Q _ => ∃ a b ws, vs = [.ref a, .ref b] ∧ SqL K H a (wstrs ws) ∧ SqT K H b [] ∧ OkW ws ∧ ∀ H', Same H H' → Q .non H'
theorem ok_wrong (D : Ds K) (T : Tx K mg) : FnOk P w K mg base CX0 4 (dwrong_word.adr K) D.fd_wrong_word ["words", "names"] (spWrong K) := by
  have GC : FnOk P w K mg base CX0 3 _ _ _ spCounted := ok_counted D T
  refine D.F_wrong_word.ok scwrong_word (fun vs H Q E h => ?_) (fun cdv A outer s H vs Q E hr h => ?_)
  · obtain ⟨a, b, ws, rfl, _⟩ := h
    rfl
  · obtain ⟨a, b, ws, rfl, ha, hb, ok, q⟩ := h
    have nd := scwrong_word.nd
    obtain ⟨tD, vD⟩ := T.v_MOST_DEPTH
    obtain ⟨tW, vW⟩ := T.v_MOST_WORDS
    refine ⟨_, PSs.nox (pss_cons (ps_set (i := 2) nd rfl (.inl rfl) pe_int)
      (pss_cons (ps_for PassesOwn.never rfl (pi_enum (by rfl) T.z_enumerate (pa_cons (pv 0) pa_nil)) (pg_tup (by rfl) (pgs_cons (pg_name (i := 3) nd rfl (.inl rfl)) (pgs_cons (pg_name (i := 4) nd rfl (.inl rfl)) pgs_nil)))
        (pss_cons (ps_set (i := 5) nd rfl (.inl rfl) (pe_cmpR op_eq (pv 4) pe_str (nomark _)))
        (pss_cons (ps_set (i := 6) nd rfl (.inl rfl) (pe_m1 PySem.F.slot_str_startswith PySem.F.type_str_startswith mt_startswith (pv 4) pe_str))
        (pss_cons (ps_if (pt_not (PW.pt (pw_or (pt_val (pv 5)) (pw_or (pt_cmpR op_in_seq (pv 4) (pv 1) (by rfl)) (pw_or1 (pt_val (pe_call GC hr (by rfl) T.g__is_counted D.F__is_counted.kp (b__is_counted D) .nil pass0 (pa_cons (pv 4) pa_nil)))))))) (pss_one (ps_ret (pv 3))) pss_nil)
        (pss_cons (ps_if (PW.pt (pw_and (pt_val (pv 6)) (pw_and1 (PW.pt (pw_or (pt_cmpR op_eq (pv 2) pe_int (nomark _)) (pw_or1 (pt_cmpR op_eq (pe_ix ix_list (pv 0) (pe_op op_sub (pv 3) pe_int) (fun _ _ => rfl)) pe_str (nomark _)))))))) (pss_one (ps_ret (pv 3))) pss_nil)
        (pss_cons (ps_set (i := 2) nd rfl (.inl rfl) (pe_op op_sub (pe_op op_add (pv 2) (pe_callTy call_int1 (by rfl) T.z_int (by decide +kernel) (pa_cons (pv 5) pa_nil))) (pe_callTy call_int1 (by rfl) T.z_int (by decide +kernel) (pa_cons (pv 6) pa_nil))))
        (pss_cons (ps_set (i := 7) nd rfl (.inl rfl) (pe_op op_add (pv 2) (pe_callTy call_int1 (by rfl) T.z_int (by decide +kernel) (pa_cons (pv 5) pa_nil))))
        (pss_one (ps_if (PW.pt (pw_or (pt_cmpR op_gt (pv 2) (pe_glob (v := .int 12) rfl vD ⟨_, rfl⟩) (nomark _)) (pw_or1 (pt_cmpR op_gt (pe_op op_add (pe_op op_add (pv 3) pe_int) (pv 7)) (pe_glob (v := .int 1000) rfl vW ⟨_, rfl⟩) (nomark _))))) (pss_one (ps_ret (pv 3))) pss_nil)))))))))
      (pss_cons (ps_if (pt_cmpR op_gt (pv 2) pe_int (nomark _)) (pss_one (ps_ret (pe_callB call_len_seq (by rfl) T.z_len PySem.boot_len (pa_cons (pv 0) pa_nil)))) pss_nil)
      (pss_one (ps_ret pe_non))))), ?_⟩
    have len : (wstrs ws).length = ws.length := List.length_map ..
    refine ⟨_, rfl, a, _, rfl, ha, ?_⟩
    refine for_enum (xs := wstrs ws) (fun i σ H' => ∃ z3 z4 z5 z6 z7, Same H H' ∧ σ = [some (.ref a), some (.ref b), some (.int (dep ws i)), z3, z4, z5, z6, z7]) ⟨none, none, none, none, none, fun _ _ e => e, rfl⟩
      (fun i σ H' hi hp => by obtain ⟨_, _, _, _, _, sm, _⟩ := hp; exact Same.sql sm ha) (fun i x σ H1 Tp hx hp hT => ?_) fun σ H' hp => ?_
    · obtain ⟨z3, z4, z5, z6, z7, sm, rfl⟩ := hp
      obtain ⟨y, hy, rfl⟩ : ∃ y, ws[i]? = some y ∧ x = .str y.str := by
        unfold wstrs at hx
        rw [List.getElem?_map] at hx
        cases e : ws[i]? with
        | none => rw [e] at hx; cases hx
        | some y =>
          rw [e] at hx
          injection hx with hx
          exact ⟨y, rfl, hx.symm⟩
      have hyo := ok.ok y (List.mem_of_getElem? hy)
      have sm1 := sm.trans (same_new (o := .tup [.int (i : Nat), .str y.str]) hT)
      have il : i < ws.length := (List.getElem?_eq_some_iff.mp hy).1
      refine ⟨Tp, _, rfl, tupT upd_same, rfl, _, _, rfl, _, _, rfl, rfl, ?_⟩
      have ho : decide (V.str y.str = V.str "(") = isOp y := by
        have e := is_op y hyo
        cases y with
        | op => exact decide_eq_true rfl
        | cl n => exact decide_eq_false fun z => by injection z with z; cases e.mp z
        | lt c n => exact decide_eq_false fun z => by injection z with z; cases e.mp z
      have hc : Txt.startswith y.str (")" : Str) = isCl y := by
        cases y with
        | op => exact op_starts
        | cl n => exact cl_starts n
        | lt c n => exact lt_starts hyo.1
      refine ⟨_, rfl, rfl, ?_⟩
      rw [ho]
      refine ⟨_, rfl, ⟨_, rfl⟩, _, _, rfl, rfl, ?_⟩
      rw [hc]
      dsimp only [List.set_cons_zero, List.set_cons_succ]
      have hd := dep_succ hy
      have hup := ok.up (i + 1) il
      have hne := ok.need i y hy
      have b1 : b2 (isOp y) = if isOp y = true then 1 else 0 := rfl
      have b2' : b2 (isCl y) = if isCl y = true then 1 else 0 := rfl
      cases y with
      | op =>
        refine ⟨_, rfl, true, rfl, iteT (iteF ?_)⟩
        refine ⟨_, rfl, false, rfl, iteF ?_⟩
        refine ⟨_, rfl, _, rfl, .inr ⟨_, rfl, _, _, rfl, rfl, _, rfl, .inr ⟨_, rfl, _, _, rfl, rfl, ?_⟩⟩⟩
        dsimp only [List.set_cons_zero, List.set_cons_succ]
        rw [← b1, ← b2', ← hd]
        refine ⟨_, rfl, _, rfl, .inr ⟨_, rfl, _, _, rfl, rfl, ?_⟩⟩
        dsimp only [List.set_cons_zero, List.set_cons_succ]
        rw [← b1]
        refine ⟨_, rfl, _, _, rfl, rfl, false, ?_, iteF ⟨_, rfl, _, _, rfl, rfl, _, rfl, _, _, rfl, rfl, _, _, rfl, rfl, false, ?_, iteF ⟨_, _, _, _, _, sm1, rfl⟩⟩⟩
        · exact congrArg V.bl (decide_eq_false (by omega))
        · exact congrArg V.bl (decide_eq_false (by omega))
      | cl n =>
        refine ⟨_, rfl, false, rfl, iteF ⟨_, rfl, _, rfl, b, _, rfl, .inr (Same.sqt sm1 hb), rfl, rfl, false, rfl, iteF ⟨_, rfl, _, rfl, hyo, nofun, true, rfl, iteF ?_⟩⟩⟩
        obtain ⟨hd0, hpre⟩ := ok.cl i n hy
        have i0 : i ≠ 0 := by
          intro z
          rw [z] at hd0
          exact absurd hd0 (by show ¬ (0 : Int) < 0; decide)
        obtain ⟨j, rfl⟩ : ∃ j, i = j + 1 := ⟨i - 1, by omega⟩
        obtain ⟨u, hu⟩ : ∃ u, ws[j]? = some u := ⟨_, List.getElem?_eq_getElem (by omega)⟩
        have hun : u ≠ .op := fun z => hpre j rfl (by rw [hu, z])
        have huo := ok.ok u (List.mem_of_getElem? hu)
        have gx : (wstrs ws)[j]? = some (.str u.str) := by
          unfold wstrs
          rw [List.getElem?_map, hu]
          rfl
        refine ⟨_, rfl, true, rfl, iteT ⟨_, rfl, rfl, false, ?_, iteF ⟨_, rfl, _, rfl, _, _, rfl, rfl, a, _, _, .str u.str, rfl, rfl, Same.sql sm1 ha, ?_, rfl, false, ?_, iteF ?_⟩⟩⟩
        · exact congrArg V.bl (decide_eq_false fun z => by injection z with z; omega)
        · show atI (wstrs ws) (((j + 1 : Nat) : Int) - 1) = _
          rw [show ((j + 1 : Nat) : Int) - 1 = (j : Int) by omega]
          exact atI_nat gx
        · exact congrArg V.bl (decide_eq_false fun z => by injection z with z; exact hun ((is_op u huo).mp z))
        refine ⟨_, rfl, _, rfl, .inr ⟨_, rfl, _, _, rfl, rfl, _, rfl, .inr ⟨_, rfl, _, _, rfl, rfl, ?_⟩⟩⟩
        dsimp only [List.set_cons_zero, List.set_cons_succ]
        rw [← b1, ← b2', ← hd]
        refine ⟨_, rfl, _, rfl, .inr ⟨_, rfl, _, _, rfl, rfl, ?_⟩⟩
        dsimp only [List.set_cons_zero, List.set_cons_succ]
        rw [← b1]
        refine ⟨_, rfl, _, _, rfl, rfl, false, ?_, iteF ⟨_, rfl, _, _, rfl, rfl, _, rfl, _, _, rfl, rfl, _, _, rfl, rfl, false, ?_, iteF ⟨_, _, _, _, _, sm1, rfl⟩⟩⟩
        · exact congrArg V.bl (decide_eq_false (by omega))
        · exact congrArg V.bl (decide_eq_false (by omega))
      | lt c n =>
        refine ⟨_, rfl, false, rfl, iteF ⟨_, rfl, _, rfl, b, _, rfl, .inr (Same.sqt sm1 hb), rfl, rfl, false, rfl, iteF ⟨_, rfl, _, rfl, hyo, nofun, true, rfl, iteF ?_⟩⟩⟩
        refine ⟨_, rfl, false, rfl, iteF ?_⟩
        refine ⟨_, rfl, _, rfl, .inr ⟨_, rfl, _, _, rfl, rfl, _, rfl, .inr ⟨_, rfl, _, _, rfl, rfl, ?_⟩⟩⟩
        dsimp only [List.set_cons_zero, List.set_cons_succ]
        rw [← b1, ← b2', ← hd]
        refine ⟨_, rfl, _, rfl, .inr ⟨_, rfl, _, _, rfl, rfl, ?_⟩⟩
        dsimp only [List.set_cons_zero, List.set_cons_succ]
        rw [← b1]
        refine ⟨_, rfl, _, _, rfl, rfl, false, ?_, iteF ⟨_, rfl, _, _, rfl, rfl, _, rfl, _, _, rfl, rfl, _, _, rfl, rfl, false, ?_, iteF ⟨_, _, _, _, _, sm1, rfl⟩⟩⟩
        · exact congrArg V.bl (decide_eq_false (by omega))
        · exact congrArg V.bl (decide_eq_false (by omega))
    · obtain ⟨z3, z4, z5, z6, z7, sm, rfl⟩ := hp
      have h0 : dep ws (wstrs ws).length = 0 := by rw [len]; exact ok.shut
      refine ⟨_, rfl, _, _, rfl, rfl, false, ?_, iteF (q H' sm)⟩
      show V.bl (decide (dep ws (wstrs ws).length > 0)) = _
      rw [h0]
      rfl
end
end K05P

set_option linter.all false
set_option maxRecDepth 100000
set_option maxHeartbeats 4000000
set_option exponentiation.threshold 3000
/-! programs as trees -/
namespace WM
open PySem PySem.Spec PyProof.Rows L2 TL
/-- the parts of a program: a letter so many times and the rest; inner parts so many times and the rest -/
inductive Ps where
  | nil
  | lf (c n : Nat) (r : Ps)
  | rp (b : Ps) (n : Nat) (r : Ps)
def Ps.app : Ps → Ps → Ps
  | .nil, q => q
  | .lf c n r, q => .lf c n (r.app q)
  | .rp b n r, q => .rp b n (r.app q)
def Ps.words : Ps → List Wd
  | .nil => []
  | .lf c n r => .lt c n :: r.words
  | .rp b n r => .op :: (b.words ++ .cl n :: r.words)
def Ps.size : Ps → Nat
  | .nil => 0
  | .lf _ n r => n + r.size
  | .rp b n r => b.size * n + r.size
def Ps.lev : Ps → Nat
  | .nil => 0
  | .lf _ _ r => r.lev
  | .rp b _ r => max (1 + b.lev) r.lev
def Ps.ok : Ps → Prop
  | .nil => True
  | .lf c n r => (c ∈ six ∧ 1 ≤ n ∧ n ≤ T30) ∧ r.ok
  | .rp b n r => b ≠ .nil ∧ b.ok ∧ (2 ≤ n ∧ n ≤ T30) ∧ r.ok
def Ps.sizes : Ps → List Int
  | .nil => []
  | .lf _ n r => (n : Int) :: r.sizes
  | .rp b n r => ((b.size * n : Nat) : Int) :: r.sizes
def Ps.levs : Ps → List Int
  | .nil => []
  | .lf _ _ r => 0 :: r.levs
  | .rp b _ r => ((1 + b.lev : Nat) : Int) :: r.levs
theorem sizes_sum : ∀ p : Ps, p.sizes.sum = (p.size : Int)
  | .nil => rfl
  | .lf c n r => by
    have := sizes_sum r
    simp only [Ps.sizes, Ps.size, List.sum_cons, this]
    omega
  | .rp b n r => by
    have := sizes_sum r
    simp only [Ps.sizes, Ps.size, List.sum_cons, this]
    omega
theorem levs_fold : ∀ (p : Ps) (a : Int), p.levs.foldl max a = max a (p.lev : Int) ∨ p = .nil
  | .nil, _ => .inr rfl
  | .lf c n r, a => by
    refine .inl ?_
    show r.levs.foldl max (max a 0) = max a (r.lev : Int)
    rcases levs_fold r (max a 0) with h | h
    · rw [h]
      omega
    · subst h
      show max a 0 = max a ((0 : Nat) : Int)
      rfl
  | .rp b n r, a => by
    refine .inl ?_
    show r.levs.foldl max (max a ((1 + b.lev : Nat) : Int)) = max a ((max (1 + b.lev) r.lev : Nat) : Int)
    rcases levs_fold r (max a ((1 + b.lev : Nat) : Int)) with h | h
    · rw [h]
      omega
    · subst h
      show max a _ = max a ((max (1 + b.lev) 0 : Nat) : Int)
      omega
theorem levs_max (p : Ps) : RT.maxI 0 p.levs = (p.lev : Int) := by
  cases p with
  | nil => rfl
  | lf c n r =>
    show r.levs.foldl max 0 = (r.lev : Int)
    rcases levs_fold r 0 with h | h
    · rw [h]; omega
    · subst h; rfl
  | rp b n r =>
    show r.levs.foldl max ((1 + b.lev : Nat) : Int) = ((max (1 + b.lev) r.lev : Nat) : Int)
    rcases levs_fold r ((1 + b.lev : Nat) : Int) with h | h
    · rw [h]; omega
    · subst h
      show ((1 + b.lev : Nat) : Int) = ((max (1 + b.lev) 0 : Nat) : Int)
      omega
theorem sizes_len (p : Ps) : p.sizes.length = p.levs.length := by
  induction p with
  | nil => rfl
  | lf c n r ih => simp [Ps.sizes, Ps.levs, ih]
  | rp b n r _ ih => simp [Ps.sizes, Ps.levs, ih]
theorem app_words (p q : Ps) : (p.app q).words = p.words ++ q.words := by
  induction p with
  | nil => rfl
  | lf c n r ih => simp [Ps.app, Ps.words, ih]
  | rp b n r _ ih => simp [Ps.app, Ps.words, ih]
theorem app_nil (p : Ps) : p.app .nil = p := by
  induction p with
  | nil => rfl
  | lf c n r ih => simp [Ps.app, ih]
  | rp b n r _ ih => simp [Ps.app, ih]
theorem app_assoc (p q r : Ps) : (p.app q).app r = p.app (q.app r) := by
  induction p with
  | nil => rfl
  | lf c n r ih => simp [Ps.app, ih]
  | rp b n r _ ih => simp [Ps.app, ih]
/-- a program of so many words has only so many steps -/
theorem size_le (p : Ps) (h : p.ok) : p.size ≤ p.words.length * 2 ^ (100 * (p.lev + 1)) := by
  have t : T30 ≤ 2 ^ 100 := by decide
  induction p with
  | nil => exact Nat.zero_le _
  | lf c n r ih =>
    have h1 := ih h.2
    have h2 : n ≤ 2 ^ 100 := Nat.le_trans h.1.2.2 t
    have h3 : (2 : Nat) ^ 100 ≤ 2 ^ (100 * (r.lev + 1)) := Nat.pow_le_pow_right (by decide) (by omega)
    simp only [Ps.size, Ps.words, Ps.lev, List.length_cons, Nat.add_mul, Nat.one_mul]
    omega
  | rp b n r ihb ihr =>
    obtain ⟨_, hb, hn, hr⟩ := h
    have h1 := ihb hb
    have h2 := ihr hr
    have h3 : n ≤ 2 ^ 100 := Nat.le_trans hn.2 t
    have e1 : b.size * n ≤ (b.words.length * 2 ^ (100 * (b.lev + 1))) * 2 ^ 100 := Nat.mul_le_mul h1 h3
    rw [Nat.mul_assoc, ← Nat.pow_add] at e1
    have h4 : (2 : Nat) ^ (100 * (b.lev + 1) + 100) ≤ 2 ^ (100 * (max (1 + b.lev) r.lev + 1)) := Nat.pow_le_pow_right (by decide) (by omega)
    have h5 : (2 : Nat) ^ (100 * (r.lev + 1)) ≤ 2 ^ (100 * (max (1 + b.lev) r.lev + 1)) := Nat.pow_le_pow_right (by decide) (by omega)
    have e2 := Nat.le_trans e1 (Nat.mul_le_mul_left b.words.length h4)
    have e3 := Nat.le_trans h2 (Nat.mul_le_mul_left r.words.length h5)
    simp only [Ps.size, Ps.words, Ps.lev, List.length_cons, List.length_append, Nat.add_mul, Nat.one_mul]
    generalize 2 ^ (100 * (max (1 + b.lev) r.lev + 1)) = X at *
    omega
section
variable (K : PySem.W.Frag) (C : Addr)
/-- the objects of the parts -/
inductive PartsAt (H : Hp) : List V → Ps → Prop
  | nil : PartsAt H [] .nil
  | lf {a d e : Addr} {c n : Nat} {vs : List V} {r : Ps} : H a = some (.ins C d [("letter", .str ⟨#[c]⟩), ("times", .int (n : Int)), ("inner", .ref e), ("unit", .int 1), ("size", .int (n : Int)), ("levels", .int 0)]) → H e = some (.tup []) → PartsAt H vs r → PartsAt H (.ref a :: vs) (.lf c n r)
  | rp {a d e : Addr} {n : Nat} {us vs : List V} {b r : Ps} : H a = some (.ins C d [("letter", .str ""), ("times", .int (n : Int)), ("inner", .ref e), ("unit", .int (b.size : Int)), ("size", .int ((b.size * n : Nat) : Int)), ("levels", .int ((1 + b.lev : Nat) : Int))]) → H e = some (.tup us) → PartsAt H us b → PartsAt H vs r → PartsAt H (.ref a :: vs) (.rp b n r)
variable {K C}
theorem PartsAt.same {H H' : Hp} {vs : List V} {p : Ps} (h : PartsAt C H vs p) (s : ∀ b o, H b = some o → H' b = some o) : PartsAt C H' vs p := by
  induction h with
  | nil => exact .nil
  | lf h1 h2 _ ih => exact .lf (s _ _ h1) (s _ _ h2) ih
  | rp h1 h2 _ _ ih1 ih2 => exact .rp (s _ _ h1) (s _ _ h2) ih1 ih2
theorem PartsAt.app {H : Hp} {vs us : List V} {p q : Ps} (h : PartsAt C H vs p) (k : PartsAt C H us q) : PartsAt C H (vs ++ us) (p.app q) := by
  induction h with
  | nil => exact k
  | lf h1 h2 _ ih => exact .lf h1 h2 ih
  | rp h1 h2 h3 _ _ ih2 => exact .rp h1 h2 h3 ih2
theorem PartsAt.len {H : Hp} {vs : List V} {p : Ps} (h : PartsAt C H vs p) : vs.length = p.sizes.length := by
  induction h with
  | nil => rfl
  | lf _ _ _ ih => simp [Ps.sizes, ih]
  | rp _ _ _ _ _ ih => simp [Ps.sizes, ih]
/-- what a part's fields tell -/
theorem PartsAt.get {H : Hp} {vs : List V} {p : Ps} (h : PartsAt C H vs p) : ∀ (i : Nat) (x : V), vs[i]? = some x → ∃ a d fs z l, x = .ref a ∧ H a = some (.ins C d fs) ∧ fs.lookup ("size" : Str) = some (.int z) ∧ p.sizes[i]? = some z ∧ fs.lookup ("levels" : Str) = some (.int l) ∧ p.levs[i]? = some l := by
  induction h with
  | nil => intro i x e; cases e
  | lf h1 h2 _ ih =>
    intro i x e
    cases i with
    | zero => cases e; exact ⟨_, _, _, _, _, rfl, h1, rfl, rfl, rfl, rfl⟩
    | succ i => exact ih i x e
  | rp h1 h2 _ _ _ ih =>
    intro i x e
    cases i with
    | zero => cases e; exact ⟨_, _, _, _, _, rfl, h1, rfl, rfl, rfl, rfl⟩
    | succ i => exact ih i x e
end
theorem sizes_le (p : Ps) : p.sizes.length ≤ p.words.length := by
  induction p with
  | nil => exact Nat.le_refl _
  | lf c n r ih => simp only [Ps.sizes, Ps.words, List.length_cons]; omega
  | rp b n r _ ih => simp only [Ps.sizes, Ps.words, List.length_cons, List.length_append]; omega
end WM

set_option Elab.async false
set_option linter.all false
set_option maxRecDepth 100000
set_option maxHeartbeats 4000000
namespace K05P
open PySem PySem.Spec PyProof.Rows L2 RT WM K05 TL
abbrev NSz : List Str := Nsize_of ++ [("part" : Str)]
theorem scSz : FnScope NSz ["parts"] (defScope ssize_of) := ⟨rfl, rfl, rfl, by decide +kernel, rfl, by decide +kernel, by decide +kernel⟩
abbrev NLv : List Str := Nlevels_of ++ [("part" : Str)]
theorem scLv : FnScope NLv ["parts"] (defScope slevels_of) := ⟨rfl, rfl, rfl, by decide +kernel, rfl, by decide +kernel, by decide +kernel⟩
section
variable {P : Program} {w : World} {K : PySem.W.Frag} {mg : Str → Option Value} {base : Heap}
def spSize (K : PySem.W.Frag) : Sp := fun vs H Q _ => ∃ a us p, vs = [.ref a] ∧ SqT K H a us ∧ PartsAt (He.ga K "Part") H us p ∧ p.sizes.length ≤ 1000 ∧ ∀ H', Same H H' → Q (.int (p.size : Int)) H'
theorem ok_size (D : Ds K) (T : Tx K mg) : FnOk P w K mg base CX0 1 (dsize_of.adr K) D.fd_size_of ["parts"] (spSize K) := by
  refine D.F_size_of.ok scSz (fun vs H Q E h => ?_) (fun cdv A outer s H vs Q E hr h => ?_)
  · obtain ⟨a, us, p, rfl, _⟩ := h
    rfl
  · obtain ⟨a, us, p, rfl, ha, hp, hl, q⟩ := h
    have nd := scSz.nd
    refine ⟨_, PSs.nox (pss_one (ps_ret (pe_callB (cr_sum rfl) (by rfl) T.z_sum (by decide +kernel) (pa_cons (pe_lc (own := [(("part" : Str), 1)]) (g := gName 1) (tt := tYes) (te := tFld K (tVar 1) "size") rfl nd (pi_tup (pv 0)) (blkOk_by (own := [(("part" : Str), 1)]) (N := NSz) (sc := defScope ssize_of) (by decide +kernel))
      (fun _ _ _ _ _ => pg_name (i := 1) nd rfl (Or.inl rfl)) (fun _ _ _ _ _ => pts_nil) (fun _ _ _ _ _ => pe_fld (pv 1) rfl)) pa_nil)))), ?_⟩
    refine ⟨_, rfl, a, rfl, ⟨_, ha⟩, fun Dd hD => ?_⟩
    have s0 := same_new (o := .lst []) hD
    have lz : p.sizes.length ≤ sizeLine := Nat.le_trans hl (by decide)
    refine lc_tup (K := K) (a := a) (xs := us) (fun i H' => Same H H' ∧ H' Dd = some (.lst ((p.sizes.take i).map V.int))) ⟨s0, upd_same⟩ (fun i H' hi hp' => Same.sqt hp'.1 ha) (fun i x H' hx hp' => ?_) fun H' hp' => ?_
    · obtain ⟨sm, eD⟩ := hp'
      obtain ⟨b, d, fs, z, l, rfl, eb, ez, gz, _, _⟩ := hp.get i x hx
      refine ⟨rfl, _, rfl, b, _, d, fs, .int z, rfl, sm _ _ eb, T.c_Part, T.n_Part_size, ez, _, eD, ?_, ?_, ?_⟩
      · rw [List.length_map, List.length_take]
        have : i < p.sizes.length := (List.getElem?_eq_some_iff.mp gz).1
        omega
      · intro b' o' e'
        have := sm _ _ e'
        rw [upd_ne (ne_of_none e' hD)]
        exact this
      · rw [upd_same, List.take_succ, gz, List.map_append]
        rfl
    · obtain ⟨sm, eD⟩ := hp'
      have e : us.length = p.sizes.length := hp.len
      rw [e, List.take_length] at eD
      refine ⟨Dd, p.sizes, rfl, lstL eD, ?_⟩
      rw [sizes_sum]
      exact q _ sm
def spLevs (K : PySem.W.Frag) : Sp := fun vs H Q _ => ∃ a us p, vs = [.ref a] ∧ SqT K H a us ∧ PartsAt (He.ga K "Part") H us p ∧ p.sizes.length ≤ 1000 ∧ ∀ H', Same H H' → Q (.int (p.lev : Int)) H'
theorem ok_levs (D : Ds K) (T : Tx K mg) : FnOk P w K mg base CX0 1 (dlevels_of.adr K) D.fd_levels_of ["parts"] (spLevs K) := by
  refine D.F_levels_of.ok scLv (fun vs H Q E h => ?_) (fun cdv A outer s H vs Q E hr h => ?_)
  · obtain ⟨a, us, p, rfl, _⟩ := h
    rfl
  · obtain ⟨a, us, p, rfl, ha, hp, hl, q⟩ := h
    have nd := scLv.nd
    refine ⟨_, PSs.nox (pss_one (ps_ret (pe_callBK (crk_maxD rfl hr.units) (by rfl) T.z_max (by decide +kernel) (pa_cons (pe_lc (own := [(("part" : Str), 1)]) (g := gName 1) (tt := tYes) (te := tFld K (tVar 1) "levels") rfl nd (pi_tup (pv 0)) (blkOk_by (own := [(("part" : Str), 1)]) (N := NLv) (sc := defScope slevels_of) (by decide +kernel))
      (fun _ _ _ _ _ => pg_name (i := 1) nd rfl (Or.inl rfl)) (fun _ _ _ _ _ => pts_nil) (fun _ _ _ _ _ => pe_fld (pv 1) rfl)) pa_nil) (pk_cons pe_int pk_nil)))), ?_⟩
    refine ⟨_, rfl, a, rfl, ⟨_, ha⟩, fun Dd hD => ?_⟩
    have s0 := same_new (o := .lst []) hD
    have lz : p.sizes.length ≤ sizeLine := Nat.le_trans hl (by decide)
    refine lc_tup (K := K) (a := a) (xs := us) (fun i H' => Same H H' ∧ H' Dd = some (.lst ((p.levs.take i).map V.int))) ⟨s0, upd_same⟩ (fun i H' hi hp' => Same.sqt hp'.1 ha) (fun i x H' hx hp' => ?_) fun H' hp' => ?_
    · obtain ⟨sm, eD⟩ := hp'
      obtain ⟨b, d, fs, z, l, rfl, eb, _, _, ez, gz⟩ := hp.get i x hx
      refine ⟨rfl, _, rfl, b, _, d, fs, .int l, rfl, sm _ _ eb, T.c_Part, T.n_Part_levels, ez, _, eD, ?_, ?_, ?_⟩
      · rw [List.length_map, List.length_take]
        have : i < p.levs.length := (List.getElem?_eq_some_iff.mp gz).1
        rw [sizes_len] at lz
        omega
      · intro b' o' e'
        have := sm _ _ e'
        rw [upd_ne (ne_of_none e' hD)]
        exact this
      · rw [upd_same, List.take_succ, gz, List.map_append]
        rfl
    · obtain ⟨sm, eD⟩ := hp'
      have e : us.length = p.levs.length := hp.len.trans (sizes_len p)
      rw [e, List.take_length] at eD
      refine ⟨Dd, p.levs, 0, rfl, rfl, lstL eD, ?_⟩
      rw [levs_max]
      exact q _ sm
end
end K05P

set_option Elab.async false
set_option linter.all false
set_option maxRecDepth 100000
set_option maxHeartbeats 4000000
set_option exponentiation.threshold 3000
namespace K05P
open PySem PySem.Spec PyProof.Rows L2 RT WM K05 TL
def unitOf : Ps → Nat
  | .nil => 1
  | p => p.size
def levOf : Ps → Nat
  | .nil => 0
  | p => 1 + p.lev
theorem partsKeep {C a d : Addr} {H H' : Hp} {us : List V} {p : Ps} (h : PartsAt C H us p) (ea : H a = some (.ins C d [])) (k : ∀ b o, b ≠ a → H b = some o → H' b = some o) : PartsAt C H' us p := by
  induction h with
  | nil => exact .nil
  | lf h1 h2 _ ih =>
    refine .lf (k _ _ (fun z => ?_) h1) (k _ _ (fun z => ?_) h2) ih
    · rw [z, ea] at h1; cases h1
    · rw [z, ea] at h2; cases h2
  | rp h1 h2 _ _ ih1 ih2 =>
    refine .rp (k _ _ (fun z => ?_) h1) (k _ _ (fun z => ?_) h2) ih1 ih2
    · rw [z, ea] at h1; cases h1
    · rw [z, ea] at h2; cases h2
theorem isE_false {us : List V} {C : Addr} {H : Hp} {p : Ps} (h : PartsAt C H us p) : (!us.isEmpty) = (match p with | .nil => false | _ => true) := by
  cases h <;> rfl
section
variable {P : Program} {w : World} {K : PySem.W.Frag} {mg : Str → Option Value} {base : Heap}
def spPart (K : PySem.W.Frag) : Sp := fun vs H Q _ => ∃ (a d e : Addr) (l : Str) (n : Nat) (us : List V) (b : Ps), vs = [.ref a, .str l, .int (n : Int), .ref e] ∧ n ≤ T30 ∧ H a = some (.ins (He.ga K "Part") d []) ∧ H e = some (.tup us) ∧ PartsAt (He.ga K "Part") H us b ∧ b.sizes.length ≤ 1000 ∧ b.size < 2 ^ 2000 ∧
  ∀ H', (∀ x o, x ≠ a → H x = some o → H' x = some o) → H' a = some (.ins (He.ga K "Part") d [("letter", .str l), ("times", .int (n : Int)), ("inner", .ref e), ("unit", .int (unitOf b : Int)), ("size", .int ((unitOf b * n : Nat) : Int)), ("levels", .int (levOf b : Int))]) → Q .non H'
theorem ok_part (D : Ds K) (T : Tx K mg) : FnOk P w K mg base CX0 2 (dPart_init.adr K) D.fd_Part_init ["self", "letter", "times", "inner"] (spPart K) := by
  have GS : FnOk P w K mg base CX0 1 _ _ _ (spSize K) := ok_size D T
  have GL : FnOk P w K mg base CX0 1 _ _ _ (spLevs K) := ok_levs D T
  refine D.F_Part_init.ok scPart_init (fun vs H Q E h => ?_) (fun cdv A outer s H vs Q E hr h => ?_)
  · obtain ⟨a, d, e, l, n, us, b, rfl, _⟩ := h
    rfl
  · obtain ⟨a, d, e, l, n, us, b, rfl, hn, ea, ee, hp, hl, hs, q⟩ := h
    refine ⟨_, PSs.nox (pss_cons (ps_fld (pv 0) (pv 1) rfl) (pss_cons (ps_fld (pv 0) (pv 2) rfl) (pss_cons (ps_fld (pv 0) (pv 3) rfl)
      (pss_cons (ps_fld (pv 0) (pe_ifExp (pt_truth (pv 3) (by intro _; rfl)) (pe_call GS hr (by rfl) T.g_size_of D.F_size_of.kp (b_size_of D) .nil pass0 (pa_cons (pv 3) pa_nil)) pe_int) rfl)
      (pss_cons (ps_fld (pv 0) (pe_op op_mulW (pe_fld (pv 0) rfl) (pv 2)) rfl)
      (pss_one (ps_fld (pv 0) (pe_ifExp (pt_truth (pv 3) (by intro _; rfl)) (pe_op op_add pe_int (pe_call GL hr (by rfl) T.g_levels_of D.F_levels_of.kp (b_levels_of D) .nil pass0 (pa_cons (pv 3) pa_nil))) pe_int) rfl))))))), ?_⟩
    have nea : e ≠ a := fun z => by
      rw [z, ea] at ee
      cases ee
    refine ⟨_, rfl, _, rfl, a, _, d, _, rfl, ea, T.c_Part, T.n_Part_letter, by show 0 < 1000; decide, ?_⟩
    refine ⟨_, rfl, _, rfl, a, _, d, _, rfl, upd_same, T.c_Part, T.n_Part_times, by show 1 < 1000; decide, ?_⟩
    refine ⟨_, rfl, _, rfl, a, _, d, _, rfl, upd_same, T.c_Part, T.n_Part_inner, by show 2 < 1000; decide, ?_⟩
    have k3 : ∀ x o, x ≠ a → H x = some o → (upd (upd (upd H a (.ins (He.ga K "Part") d [("letter", .str l)])) a (.ins (He.ga K "Part") d [("letter", .str l), ("times", .int (n : Int))])) a (.ins (He.ga K "Part") d [("letter", .str l), ("times", .int (n : Int)), ("inner", .ref e)])) x = some o := fun x o hx h => by
      rw [upd_ne hx, upd_ne hx, upd_ne hx]
      exact h
    have a3 : (upd (upd (upd H a (.ins (He.ga K "Part") d [("letter", .str l)])) a (.ins (He.ga K "Part") d [("letter", .str l), ("times", .int (n : Int))])) a (.ins (He.ga K "Part") d [("letter", .str l), ("times", .int (n : Int)), ("inner", .ref e)])) a = some (.ins (He.ga K "Part") d [("letter", .str l), ("times", .int (n : Int)), ("inner", .ref e)]) := upd_same
    have p3 := partsKeep hp ea k3
    have e3 := k3 e _ nea ee
    have n100 : ((n : Int)).natAbs < 2 ^ 101 := by
      have t : T30 ≤ 2 ^ 100 := by decide
      have t2 : (2 : Nat) ^ 100 < 2 ^ 101 := by decide
      omega
    have isE := isE_false p3
    by_cases hb : b = .nil
    · subst hb
      have ie : (!us.isEmpty) = false := isE
      refine ⟨_, rfl, false, .inr (.inl ⟨us, tupT e3, ie.symm⟩), iteF ⟨_, rfl, a, _, d, _, rfl, upd_same, T.c_Part, T.n_Part_unit, by show 3 < 1000; decide, ?_⟩⟩
      refine ⟨_, rfl, a, _, d, _, .int 1, rfl, upd_same, T.c_Part, T.n_Part_unit, rfl, _, rfl, _, _, rfl, rfl, wide_mul (a := 10) (b := 101) (by decide) n100 (by decide) (by decide) (by decide), _, rfl, a, _, d, _, rfl, upd_same, T.c_Part, T.n_Part_size, by show 4 < 1000; decide, ?_⟩
      have e5 : ∀ o4 o5, upd (upd (upd (upd (upd H a (.ins (He.ga K "Part") d [("letter", .str l)])) a (.ins (He.ga K "Part") d [("letter", .str l), ("times", .int (n : Int))])) a (.ins (He.ga K "Part") d [("letter", .str l), ("times", .int (n : Int)), ("inner", .ref e)])) a o4) a o5 e = some (.tup us) := fun o4 o5 => by
        rw [upd_ne nea, upd_ne nea]
        exact e3
      refine ⟨_, rfl, false, .inr (.inl ⟨us, tupT (e5 _ _), ie.symm⟩), iteF ⟨_, rfl, a, _, d, _, rfl, upd_same, T.c_Part, T.n_Part_levels, by show 5 < 1000; decide, ?_⟩⟩
      refine q _ (fun x o hx h => ?_) ?_
      · rw [upd_ne hx, upd_ne hx, upd_ne hx]
        exact k3 x o hx h
      · rw [upd_same]
        show some (HO.ins _ d [_, _, _, _, ("size", .int (1 * (n : Int))), _]) = some (HO.ins _ d [_, _, _, _, ("size", .int ((1 * n : Nat) : Int)), _])
        rw [Int.one_mul, Nat.one_mul]
        rfl
    · have ie : (!us.isEmpty) = true := by
        rw [isE]
        cases b with
        | nil => exact absurd rfl hb
        | lf c m r => rfl
        | rp b m r => rfl
      have hu : unitOf b = b.size := by
        cases b with
        | nil => exact absurd rfl hb
        | lf c m r => rfl
        | rp b m r => rfl
      have hv : levOf b = 1 + b.lev := by
        cases b with
        | nil => exact absurd rfl hb
        | lf c m r => rfl
        | rp b m r => rfl
      refine ⟨_, rfl, true, .inr (.inl ⟨us, tupT e3, ie.symm⟩), iteT ⟨_, rfl, e, us, b, rfl, tupT e3, p3, hl, fun H4 s4 => ?_⟩⟩
      have a4 := s4 _ _ a3
      refine ⟨_, rfl, a, _, d, _, rfl, a4, T.c_Part, T.n_Part_unit, by show 3 < 1000; decide, ?_⟩
      refine ⟨_, rfl, a, _, d, _, .int (b.size : Int), rfl, upd_same, T.c_Part, T.n_Part_unit, rfl, _, rfl, _, _, rfl, rfl, wide_mul (a := 2000) (b := 101) (by omega) n100 (by decide) (by decide) (by decide), _, rfl, a, _, d, _, rfl, upd_same, T.c_Part, T.n_Part_size, by show 4 < 1000; decide, ?_⟩
      have k5 : ∀ o4 o5 x o, x ≠ a → H x = some o → upd (upd H4 a o4) a o5 x = some o := fun o4 o5 x o hx h => by
        rw [upd_ne hx, upd_ne hx]
        exact s4 _ _ (k3 x o hx h)
      refine ⟨_, rfl, true, .inr (.inl ⟨us, tupT (k5 _ _ e _ nea ee), ie.symm⟩), iteT ⟨_, rfl, e, us, b, rfl, tupT (k5 _ _ e _ nea ee), partsKeep hp ea (k5 _ _), hl, fun H6 s6 => ?_⟩⟩
      refine ⟨_, _, rfl, rfl, _, rfl, a, _, d, _, rfl, s6 _ _ upd_same, T.c_Part, T.n_Part_levels, by show 5 < 1000; decide, ?_⟩
      refine q _ (fun x o hx h => ?_) ?_
      · rw [upd_ne hx]
        exact s6 _ _ (k5 _ _ x o hx h)
      · rw [upd_same, hu, hv]
        show some (HO.ins _ d [_, _, _, _, ("size", .int ((b.size : Int) * (n : Int))), ("levels", .int (1 + (b.lev : Int)))]) = some (HO.ins _ d [_, _, _, _, ("size", .int ((b.size * n : Nat) : Int)), ("levels", .int ((1 + b.lev : Nat) : Int))])
        rw [Int.natCast_mul, Int.natCast_add]
        rfl
end
end K05P

set_option Elab.async false
set_option linter.all false
set_option maxRecDepth 100000
set_option maxHeartbeats 4000000
set_option exponentiation.threshold 3000
namespace K05P
open PySem PySem.Spec PyProof.Rows L2 RT WM K05 TL
theorem getAt {A B t : List Wd} {y : Wd} (h : B = y :: t) : (wstrs (A ++ B))[A.length]? = some (.str y.str) := by
  subst h
  unfold wstrs
  rw [List.getElem?_map, List.getElem?_append_right (Nat.le_refl _), Nat.sub_self]
  rfl
theorem lt_head (c n : Nat) : ((Wd.lt c n).str.cps.toList)[0]? = some c := by
  show (if n = 1 then [c] else c :: numL n)[0]? = some c
  split <;> rfl
theorem partsUpd {C l : Addr} {H : Hp} {us ys : List V} {o : HO} {p : Ps} (h : PartsAt C H us p) (el : H l = some (.lst ys)) : PartsAt C (upd H l o) us p := by
  have k : ∀ b u, (∀ zs, u ≠ .lst zs) → H b = some u → upd H l o b = some u := fun b u hu h => by
    rw [upd_ne]
    · exact h
    · intro z
      rw [z, el] at h
      exact hu ys (Option.some.inj h).symm
  induction h with
  | nil => exact .nil
  | lf h1 h2 _ ih => exact .lf (k _ _ (fun _ => nofun) h1) (k _ _ (fun _ => nofun) h2) ih
  | rp h1 h2 _ _ ih1 ih2 => exact .rp (k _ _ (fun _ => nofun) h1) (k _ _ (fun _ => nofun) h2) ih1 ih2
theorem app_ok {p q : Ps} (hp : p.ok) (hq : q.ok) : (p.app q).ok := by
  induction p with
  | nil => exact hq
  | lf c n r ih => exact ⟨hp.1, ih hp.2⟩
  | rp b n r _ ih => exact ⟨hp.1, hp.2.1, hp.2.2.1, ih hp.2.2.2⟩
theorem app_lev (p q : Ps) : (p.app q).lev = max p.lev q.lev := by
  induction p with
  | nil => exact (Nat.zero_max _).symm
  | lf c n r ih => exact ih
  | rp b n r _ ih =>
    show max (1 + b.lev) (r.app q).lev = max (max (1 + b.lev) r.lev) q.lev
    rw [ih, Nat.max_assoc]
theorem size_bd {p : Ps} (h : p.ok) (hl : p.lev ≤ 12) (hw : p.words.length ≤ 1000) : p.size < 2 ^ 2000 := by
  have h1 := size_le p h
  have h2 : (2 : Nat) ^ (100 * (p.lev + 1)) ≤ 2 ^ 1300 := Nat.pow_le_pow_right (by decide) (by omega)
  have h3 : p.words.length * 2 ^ (100 * (p.lev + 1)) ≤ 1000 * 2 ^ 1300 := Nat.mul_le_mul hw h2
  have h4 : 1000 * (2 : Nat) ^ 1300 < 2 ^ 2000 := by decide +kernel
  omega
section
variable {P : Program} {w : World} {K : PySem.W.Frag} {mg : Str → Option Value} {base : Heap}
def spPF (K : PySem.W.Frag) (d : Nat) : Sp := fun vs H Q _ => ∃ (a : Addr) (pre rest : List Wd) (p : Ps), vs = [.ref a, .int (pre.length : Int)] ∧ SqT K H a (wstrs (pre ++ p.words ++ rest)) ∧ p.ok ∧ p.lev < d ∧ p.lev ≤ 12 ∧ (pre ++ p.words ++ rest).length ≤ 1000 ∧ (∀ x ∈ rest.head?, ∃ n, x = .cl n ∧ x.ok) ∧
  ∀ r t us H', Same H H' → H' r = some (.tup [.ref t, .int ((pre.length + p.words.length : Nat) : Int)]) → H' t = some (.tup us) → PartsAt (He.ga K "Part") H' us p → Q (.ref r) H'
theorem ok_pf (D : Ds K) (T : Tx K mg) : ∀ d, FnOk P w K mg base CX0 (4 + d) (d_parts_from.adr K) D.fd__parts_from ["words", "start"] (spPF K d) := by
  have GN : FnOk P w K mg base CX0 1 _ _ _ spNumOf := ok_numof D T
  have GP : FnOk P w K mg base CX0 2 _ _ _ (spPart K) := ok_part D T
  intro d
  induction d with
  | zero =>
    refine D.F__parts_from.ok sc_parts_from (fun vs H Q E h => ?_) (fun cdv A outer s H vs Q E hr h => ?_)
    · obtain ⟨a, pre, rest, p, rfl, _⟩ := h
      rfl
    · obtain ⟨a, pre, rest, p, rfl, ha, hp, hd, _⟩ := h
      exact absurd hd (Nat.not_lt_zero _)
  | succ d ih =>
  refine D.F__parts_from.ok sc_parts_from (fun vs H Q E h => ?_) (fun cdv A outer s H vs Q E hr h => ?_)
  · obtain ⟨a, pre, rest, p, rfl, _⟩ := h
    rfl
  · obtain ⟨a, pre, rest, p, rfl, ha, hp, hd, hd12, hlen, hrest, q⟩ := h
    have nd := sc_parts_from.nd
    have hr' : Room (4 + d) _ := hr
    refine ⟨_, PSs.nox (pss_cons (ps_set (i := 2) nd rfl (.inl rfl) (pe_lst pa_nil))
      (pss_cons (ps_set (i := 3) nd rfl (.inl rfl) (pv 1))
      (pss_cons (ps_while PassesOwn.never (PW.pt (pw_and (pt_cmpR op_lt (pv 3) (pe_callB call_len_seq (by rfl) T.z_len PySem.boot_len (pa_cons (pv 0) pa_nil)) (nomark _))
            (pw_and1 (pt_not (pt_val (pe_m1 PySem.F.slot_str_startswith PySem.F.type_str_startswith mt_startswith (pe_ix ix_tup (pv 0) (pv 3) (fun _ _ => rfl)) pe_str))))))
        (pss_cons (ps_if (pt_cmpR op_eq (pe_ix ix_tup (pv 0) (pv 3) (fun _ _ => rfl)) pe_str (nomark _))
            (pss_cons (ps_asg (pe_call ih (hr'.mono (by omega)) (by rfl) T.g__parts_from D.F__parts_from.kp (b__parts_from D) .nil pass0 (pa_cons (pv 0) (pa_cons (pe_op op_add (pv 3) pe_int) pa_nil))) (pg_tup (by rfl) (pgs_cons (pg_name (i := 4) nd rfl (.inl rfl)) (pgs_cons (pg_name (i := 3) nd rfl (.inl rfl)) pgs_nil))))
              (pss_one (ps_expr (pe_bm PySem.F.plainAttrs_list PySem.F.slot_list_append PySem.F.type_list_append mt_append (pv 2) (pa_cons (pe_make T.k_Part GP (hr'.mono (by omega)) (by rfl) T.g_Part (b_Part_init D) .nil pass0 (pa_cons pe_str (pa_cons (pe_call GN (hr'.mono (by omega)) (by rfl) T.g_number_of D.F_number_of.kp (b_number_of D) .nil pass0 (pa_cons (pe_ix ix_tup (pv 0) (pv 3) (fun _ _ => rfl)) pa_nil)) (pa_cons (pv 4) pa_nil)))) pa_nil)))))
            (pss_one (ps_expr (pe_bm PySem.F.plainAttrs_list PySem.F.slot_list_append PySem.F.type_list_append mt_append (pv 2) (pa_cons (pe_make T.k_Part GP (hr'.mono (by omega)) (by rfl) T.g_Part (b_Part_init D) .nil pass0 (pa_cons (pe_ix ix_str (pe_ix ix_tup (pv 0) (pv 3) (fun _ _ => rfl)) pe_int (fun _ _ => rfl)) (pa_cons (pe_call GN (hr'.mono (by omega)) (by rfl) T.g_number_of D.F_number_of.kp (b_number_of D) .nil pass0 (pa_cons (pe_ix ix_tup (pv 0) (pv 3) (fun _ _ => rfl)) pa_nil)) (pa_cons (pe_tup pa_nil) pa_nil)))) pa_nil)))))
          (pss_one (ps_set (i := 3) nd rfl (.inl rfl) (pe_op op_add (pv 3) pe_int)))))
      (pss_one (ps_ret (pe_tup (pa_cons (pe_callTy call_tuple_of (by rfl) T.z_tuple (by decide +kernel) (pa_cons (pv 2) pa_nil)) (pa_cons (pv 3) pa_nil)))))))), ?_⟩
    refine ⟨by show 0 ≤ sizeLine; decide, fun l hl => ⟨_, rfl, ?_⟩⟩
    have sl := same_new (o := .lst []) hl
    refine ⟨fun m σ H' => ∃ p1 p2 us z4, p = p1.app p2 ∧ p1.ok ∧ p2.ok ∧ m = p2.words.length ∧ Same H H' ∧ H' l = some (.lst us) ∧ PartsAt (He.ga K "Part") H' us p1 ∧ σ = [some (.ref a), some (.int (pre.length : Int)), some (.ref l), some (.int (((pre ++ p1.words).length : Nat) : Int)), z4],
      ⟨_, .nil, p, [], none, rfl, trivial, hp, rfl, sl, upd_same, .nil, by rw [show pre ++ Ps.words .nil = pre from List.append_nil _]; rfl⟩, fun m σ H' h => ?_⟩
    obtain ⟨p1, p2, us, z4, rfl, ok1, ok2, rfl, sm, el, hP, rfl⟩ := h
    have full : pre ++ (p1.app p2).words ++ rest = (pre ++ p1.words) ++ (p2.words ++ rest) := by
      rw [app_words]
      simp only [List.append_assoc]
    rw [full] at ha hlen
    have ha' := Same.sqt sm ha
    have l1000 : (wstrs ((pre ++ p1.words) ++ (p2.words ++ rest))).length = (pre ++ p1.words).length + (p2.words ++ rest).length := by
      unfold wstrs
      rw [List.length_map, List.length_append]
    have exit : ∀ z, p2 = .nil → (tRet (tTup (tCons (tCB (fun xs H Q => ∃ p ys, xs = [.ref p] ∧ ((SqL K H p ys ∧ ∀ l, H l = none → Q (.ref l) (upd H l (.tup ys))) ∨ (SqT K H p ys ∧ Q (.ref p) H))) (tCons (tVar 2) tNil)) (tCons (tVar 3) tNil)))) { nx := fun x H' => Q V.non H', rt := Q } [some (.ref a), some (.int (pre.length : Int)), some (.ref l), some (.int (((pre ++ p1.words).length : Nat) : Int)), z] H' := by
      intro z e
      subst e
      refine ⟨_, rfl, l, us, rfl, .inl ⟨lstL el, fun t ht => ⟨_, rfl, by show 2 ≤ sizeLine; decide, fun r hr2 => ?_⟩⟩⟩
      have st := same_new (o := .tup us) ht
      have sr := same_new (o := .tup [.ref t, .int (((pre ++ p1.words).length : Nat) : Int)]) hr2
      rw [app_nil] at q
      refine q r t us _ (sm.trans (st.trans sr)) ?_ (sr _ _ upd_same) (hP.same (st.trans sr))
      rw [upd_same, List.length_append]
    cases p2 with
    | nil =>
      cases rest with
      | nil =>
        refine ⟨_, rfl, _, rfl, a, _, rfl, .inr ha', _, _, rfl, rfl, false, ?_, iteF (iteF (exit _ rfl))⟩
        rw [l1000]
        exact congrArg V.bl (decide_eq_false (by simp [Ps.words]))
      | cons x rest =>
        obtain ⟨n, rfl, hx⟩ := hrest x rfl
        have g := getAt (A := pre ++ p1.words) (B := Ps.words .nil ++ .cl n :: rest) rfl
        refine ⟨_, rfl, _, rfl, a, _, rfl, .inr ha', _, _, rfl, rfl, true, ?_, iteT ⟨_, rfl, _, rfl, a, _, _, .str (Wd.cl n).str, rfl, rfl, ha', atI_nat g, ⟨_, rfl⟩, _, _, rfl, rfl, true, ?_, iteF (exit _ rfl)⟩⟩
        · rw [l1000]
          exact congrArg V.bl (decide_eq_true (by simp [Ps.words]; omega))
        · exact congrArg V.bl (cl_starts n)
    | lf c n r =>
      have g := getAt (A := pre ++ p1.words) (B := Ps.words (.lf c n r) ++ rest) rfl
      have hyo : (Wd.lt c n).ok := ok2.1
      have hz : (Wd.lt c n).str.length ≤ sizeLine := by
        rw [WM.len_tl]
        exact Nat.le_trans (cps_len hyo) (by decide)
      refine ⟨_, rfl, _, rfl, a, _, rfl, .inr ha', _, _, rfl, rfl, true, ?_, iteT ⟨_, rfl, _, rfl, a, _, _, .str (Wd.lt c n).str, rfl, rfl, ha', atI_nat g, ⟨_, rfl⟩, _, _, rfl, rfl, false, ?_, ?_⟩⟩
      · rw [l1000]
        exact congrArg V.bl (decide_eq_true (by simp [Ps.words]; omega))
      · exact congrArg V.bl (lt_starts hyo.1)
      refine ⟨_, fun σ' H'' h => ⟨r.words.length, by show r.words.length < r.words.length + 1; omega, h⟩, ?_⟩
      refine ⟨_, rfl, _, rfl, a, _, _, .str (Wd.lt c n).str, rfl, rfl, ha', atI_nat g, rfl, false, ?_, iteF ?_⟩
      · exact congrArg V.bl (decide_eq_false fun z => by injection z with z; cases (is_op _ hyo).mp z)
      refine ⟨_, rfl, .inl ⟨rfl, _, lstL el⟩, ?_⟩
      refine ⟨_, rfl, _, rfl, a, _, _, .str (Wd.lt c n).str, rfl, rfl, ha', atI_nat g, (Wd.lt c n).str, _, c, rfl, rfl, hz, ?_, ?_⟩
      · exact atI_nat (j := 0) (lt_head c n)
      refine ⟨_, rfl, _, rfl, a, _, _, .str (Wd.lt c n).str, rfl, rfl, ha', atI_nat g, Wd.lt c n, rfl, hyo, by show 0 ≤ sizeLine; decide, fun e0 he0 x dx nx ndx hne => ?_⟩
      have s0 := same_new (o := .tup []) he0
      have ex : e0 ≠ x := ne_of_none upd_same nx
      have ed : e0 ≠ dx := ne_of_none upd_same ndx
      refine ⟨x, dx, e0, ⟨#[c]⟩, n, [], .nil, rfl, hyo.2.2, upd_same, (upd_ne ex).trans ((upd_ne ed).trans upd_same), .nil, by decide, by decide, fun H3 k3 a3 => ⟨rfl, ?_⟩⟩
      have up : Same H' H3 := fun b o h => k3 b o (ne_of_none (s0 b o h) nx) (by
        rw [upd_ne (ne_of_none (s0 b o h) nx), upd_ne (ne_of_none (s0 b o h) ndx)]
        exact s0 b o h)
      have e3 : H3 e0 = some (.tup []) := k3 e0 _ ex ((upd_ne ex).trans ((upd_ne ed).trans upd_same))
      have hP3 : PartsAt (He.ga K "Part") H3 (us ++ [.ref x]) (p1.app (.lf c n .nil)) := (hP.same up).app (.lf (by
        rw [a3]
        show some (HO.ins _ dx [_, _, _, _, ("size", .int ((1 * n : Nat) : Int)), _]) = some (HO.ins _ dx [_, _, _, _, ("size", .int (n : Int)), _])
        rw [Nat.one_mul]
        rfl) e3 .nil)
      have lus : us.length < 1000 := by
        have h1 := hP.len
        have h2 := sizes_le p1
        simp only [List.length_append, Ps.words, List.length_cons] at hlen
        omega
      refine ⟨l, us, .ref x, rfl, rfl, up _ _ el, Nat.lt_of_lt_of_le lus (by decide), ?_⟩
      have el3 := up _ _ el
      refine ⟨_, rfl, _, _, rfl, rfl, p1.app (.lf c n .nil), r, us ++ [.ref x], z4, by rw [app_assoc]; rfl, app_ok ok1 ⟨ok2.1, trivial⟩, ok2.2, rfl, fun b o h => ?_, upd_same, partsUpd hP3 el3, ?_⟩
      · rw [upd_ne (ne_of_none h hl)]
        exact up _ _ (sm _ _ h)
      · rw [app_words]
        show [_, _, _, some (V.int (((pre ++ p1.words).length : Int) + 1)), z4] = [_, _, _, some (V.int (((pre ++ (p1.words ++ [Wd.lt c n])).length : Nat) : Int)), z4]
        rw [show (((pre ++ (p1.words ++ [Wd.lt c n])).length : Nat) : Int) = (((pre ++ p1.words).length : Nat) : Int) + 1 by simp only [List.length_append, List.length_cons, List.length_nil]; omega]
    | rp b n r =>
      have g := getAt (A := pre ++ p1.words) (B := Ps.words (.rp b n r) ++ rest) rfl
      obtain ⟨hbn, hb, hn, hr2⟩ := ok2
      refine ⟨_, rfl, _, rfl, a, _, rfl, .inr ha', _, _, rfl, rfl, true, ?_, iteT ⟨_, rfl, _, rfl, a, _, _, .str Wd.op.str, rfl, rfl, ha', atI_nat g, ⟨_, rfl⟩, _, _, rfl, rfl, false, ?_, ?_⟩⟩
      · rw [l1000]
        exact congrArg V.bl (decide_eq_true (by simp [Ps.words]; omega))
      · exact congrArg V.bl op_starts
      refine ⟨_, fun σ' H'' h => ⟨r.words.length, ?_, h⟩, ?_⟩
      · simp only [Ps.words, List.length_cons, List.length_append]
        omega
      refine ⟨_, rfl, _, rfl, a, _, _, .str Wd.op.str, rfl, rfl, ha', atI_nat g, rfl, true, ?_, iteT ?_⟩
      · exact congrArg V.bl (decide_eq_true rfl)
      have full2 : (pre ++ p1.words) ++ (Ps.words (.rp b n r) ++ rest) = (pre ++ p1.words ++ [.op]) ++ b.words ++ (.cl n :: (r.words ++ rest)) := by
        simp only [Ps.words, List.append_assoc, List.cons_append, List.nil_append]
      have lv : 1 + b.lev ≤ (p1.app (.rp b n r)).lev := by
        rw [app_lev]
        show 1 + b.lev ≤ max p1.lev (max (1 + b.lev) r.lev)
        omega
      rw [full2] at ha' hlen
      refine ⟨_, rfl, _, rfl, _, _, rfl, rfl, a, pre ++ p1.words ++ [.op], .cl n :: (r.words ++ rest), b, ?_, ha', hb, by omega, by omega, hlen, fun x hx => ⟨n, (Option.some.inj hx).symm, by cases hx; exact hn⟩, fun r1 t1 us1 H1 s1 er et pt => ?_⟩
      · show [V.ref a, V.int (((pre ++ p1.words).length : Int) + 1)] ++ [] = [V.ref a, V.int (((pre ++ p1.words ++ [Wd.op]).length : Nat) : Int)]
        rw [show (((pre ++ p1.words ++ [Wd.op]).length : Nat) : Int) = (((pre ++ p1.words).length : Nat) : Int) + 1 by simp only [List.length_append, List.length_cons, List.length_nil]; omega]
        rfl
      have g2 := getAt (A := (pre ++ p1.words ++ [.op]) ++ b.words) (B := .cl n :: (r.words ++ rest)) rfl
      rw [List.length_append] at g2
      refine ⟨r1, _, rfl, tupT er, rfl, _, _, rfl, _, _, rfl, rfl, ?_⟩
      dsimp only [List.set_cons_zero, List.set_cons_succ]
      have ha1 := Same.sqt s1 ha'
      refine ⟨_, rfl, .inl ⟨rfl, _, lstL (s1 _ _ el)⟩, ?_⟩
      refine ⟨_, rfl, _, rfl, a, _, _, .str (Wd.cl n).str, rfl, rfl, ha1, atI_nat g2, Wd.cl n, rfl, hn, _, rfl, fun x dx nx ndx hne => ?_⟩
      have tx : t1 ≠ x := ne_of_none et nx
      have td : t1 ≠ dx := ne_of_none et ndx
      have up1 : ∀ o1 o2, Same H1 (upd (upd H1 dx o1) x o2) := fun o1 o2 b o h => by
        rw [upd_ne (ne_of_none h nx), upd_ne (ne_of_none h ndx)]
        exact h
      have bw : b.words.length ≤ 1000 := by
        simp only [List.length_append] at hlen
        omega
      have bs := sizes_le b
      refine ⟨x, dx, t1, "", n, us1, b, rfl, hn.2, upd_same, up1 _ _ _ _ et, pt.same (up1 _ _), by omega, size_bd hb (by omega) bw, fun H3 k3 a3 => ⟨rfl, ?_⟩⟩
      have up : Same H' H3 := fun b' o h => k3 b' o (ne_of_none (s1 _ _ h) nx) (up1 _ _ _ _ (s1 _ _ h))
      have up2 : Same H1 H3 := fun b' o h => k3 b' o (ne_of_none h nx) (up1 _ _ _ _ h)
      have hu : unitOf b = b.size := by
        cases b with
        | nil => exact absurd rfl hbn
        | lf c m r => rfl
        | rp b m r => rfl
      have hv : levOf b = 1 + b.lev := by
        cases b with
        | nil => exact absurd rfl hbn
        | lf c m r => rfl
        | rp b m r => rfl
      rw [hu, hv] at a3
      have hP3 : PartsAt (He.ga K "Part") H3 (us ++ [.ref x]) (p1.app (.rp b n .nil)) := (hP.same up).app (.rp a3 (up2 _ _ et) (pt.same up2) .nil)
      have lus : us.length < 1000 := by
        have h1 := hP.len
        have h2 := sizes_le p1
        simp only [List.length_append, List.length_cons, List.length_nil] at hlen
        omega
      have el3 := up _ _ el
      refine ⟨l, us, .ref x, rfl, rfl, el3, Nat.lt_of_lt_of_le lus (by decide), ?_⟩
      refine ⟨_, rfl, _, _, rfl, rfl, p1.app (.rp b n .nil), r, us ++ [.ref x], some (.ref t1), by rw [app_assoc]; rfl, app_ok ok1 ⟨hbn, hb, hn, trivial⟩, hr2, rfl, fun b' o h => ?_, upd_same, partsUpd hP3 el3, ?_⟩
      · rw [upd_ne (ne_of_none h hl)]
        exact up _ _ (sm _ _ h)
      · rw [app_words]
        show [_, _, _, some (V.int ((((pre ++ p1.words ++ [Wd.op]).length + b.words.length : Nat) : Int) + 1)), some (V.ref t1)] = [_, _, _, some (V.int (((pre ++ (p1.words ++ (Wd.op :: (b.words ++ [Wd.cl n])))).length : Nat) : Int)), some (V.ref t1)]
        rw [show (((pre ++ (p1.words ++ (Wd.op :: (b.words ++ [Wd.cl n])))).length : Nat) : Int) = ((((pre ++ p1.words ++ [Wd.op]).length + b.words.length : Nat) : Int) + 1) by simp only [List.length_append, List.length_cons, List.length_nil]; omega]
end
end K05P

set_option linter.all false
set_option maxRecDepth 100000
set_option maxHeartbeats 4000000
/-! the words of a tree are those of a program text -/
namespace WM
open PySem PySem.Spec PyProof.Rows L2 TL
theorem dep_left {A B : List Wd} {i : Nat} (h : i ≤ A.length) : dep (A ++ B) i = dep A i := by
  unfold dep
  rw [List.take_append_of_le_length h]
theorem dep_right (A B : List Wd) (j : Nat) : dep (A ++ B) (A.length + j) = dep A A.length + dep B j := by
  unfold dep
  rw [List.take_length_add_append, List.map_append, List.sum_append, List.take_length]
theorem dep_cons (x : Wd) (B : List Wd) (j : Nat) : dep (x :: B) (j + 1) = step x + dep B j := by
  have := dep_right [x] B j
  rw [show [x].length + j = j + 1 by simp; omega] at this
  refine this.trans ?_
  show ([x].map step).sum + _ = _
  simp
theorem dep_zero (A : List Wd) : dep A 0 = 0 := rfl
theorem dep_all {A : List Wd} {i : Nat} (h : A.length ≤ i) : dep A i = dep A A.length := by
  unfold dep
  rw [List.take_of_length_le h, List.take_length]
theorem words_ne {p : Ps} (h : p ≠ .nil) : ∃ A x, p.words = A ++ [x] ∧ x ≠ .op := by
  induction p with
  | nil => exact absurd rfl h
  | lf c n r ih =>
    cases r with
    | nil => exact ⟨[], .lt c n, rfl, nofun⟩
    | lf c' n' r' =>
      obtain ⟨A, x, e, hx⟩ := ih nofun
      exact ⟨.lt c n :: A, x, by rw [show (Ps.lf c n (.lf c' n' r')).words = .lt c n :: (Ps.lf c' n' r').words from rfl, e]; rfl, hx⟩
    | rp b n' r' =>
      obtain ⟨A, x, e, hx⟩ := ih nofun
      exact ⟨.lt c n :: A, x, by rw [show (Ps.lf c n (.rp b n' r')).words = .lt c n :: (Ps.rp b n' r').words from rfl, e]; rfl, hx⟩
  | rp b n r _ ih =>
    cases r with
    | nil => exact ⟨.op :: b.words, .cl n, rfl, nofun⟩
    | lf c' n' r' =>
      obtain ⟨A, x, e, hx⟩ := ih nofun
      exact ⟨.op :: (b.words ++ .cl n :: A), x, by rw [show (Ps.rp b n (.lf c' n' r')).words = .op :: (b.words ++ .cl n :: (Ps.lf c' n' r').words) from rfl, e]; simp, hx⟩
    | rp b' n' r' =>
      obtain ⟨A, x, e, hx⟩ := ih nofun
      exact ⟨.op :: (b.words ++ .cl n :: A), x, by rw [show (Ps.rp b n (.rp b' n' r')).words = .op :: (b.words ++ .cl n :: (Ps.rp b' n' r').words) from rfl, e]; simp, hx⟩
/-- levels along the words -/
theorem dep_tree (p : Ps) : (∀ i, 0 ≤ dep p.words i ∧ dep p.words i ≤ p.lev) ∧ dep p.words p.words.length = 0 := by
  induction p with
  | nil => exact ⟨fun i => by unfold dep; simp [Ps.words, Ps.lev], rfl⟩
  | lf c n r ih =>
    refine ⟨fun i => ?_, ?_⟩
    · cases i with
      | zero => exact ⟨Int.le_refl _, Int.natCast_nonneg _⟩
      | succ i =>
        show 0 ≤ dep (.lt c n :: r.words) (i + 1) ∧ dep (.lt c n :: r.words) (i + 1) ≤ (r.lev : Int)
        rw [dep_cons]
        have := ih.1 i
        have e : step (.lt c n) = 0 := rfl
        omega
    · show dep (.lt c n :: r.words) (r.words.length + 1) = 0
      rw [dep_cons, ih.2]
      rfl
  | rp b n r ihb ihr =>
    have tail : ∀ j, 0 ≤ 1 + dep (b.words ++ .cl n :: r.words) j ∧ 1 + dep (b.words ++ .cl n :: r.words) j ≤ ((max (1 + b.lev) r.lev : Nat) : Int) := fun j => by
      by_cases h : j ≤ b.words.length
      · rw [dep_left h]
        have := ihb.1 j
        omega
      · obtain ⟨k, rfl⟩ : ∃ k, j = b.words.length + (k + 1) := ⟨j - b.words.length - 1, by omega⟩
        rw [dep_right, ihb.2, dep_cons]
        have := ihr.1 k
        have e : step (.cl n) = -1 := rfl
        omega
    refine ⟨fun i => ?_, ?_⟩
    · cases i with
      | zero => exact ⟨Int.le_refl _, Int.natCast_nonneg _⟩
      | succ i =>
        show 0 ≤ dep (.op :: (b.words ++ .cl n :: r.words)) (i + 1) ∧ dep (.op :: (b.words ++ .cl n :: r.words)) (i + 1) ≤ _
        rw [dep_cons]
        exact tail i
    · show dep (.op :: (b.words ++ .cl n :: r.words)) ((b.words ++ .cl n :: r.words).length + 1) = 0
      rw [dep_cons, List.length_append, List.length_cons, dep_right, dep_cons, ihb.2, ihr.2]
      rfl
/-- where a bracket closes -/
theorem cl_tree (p : Ps) (ok : p.ok) : ∀ (i n : Nat), p.words[i]? = some (.cl n) → 0 < dep p.words i ∧ ∀ j, j + 1 = i → p.words[j]? ≠ some .op := by
  induction p with
  | nil => intro i n h; cases h
  | lf c m r ih =>
    intro i n h
    cases i with
    | zero => cases h
    | succ i =>
      have h1 := ih ok.2 i n h
      refine ⟨?_, fun j hj => ?_⟩
      · show 0 < dep (.lt c m :: r.words) (i + 1)
        rw [dep_cons]
        have e : step (.lt c m) = 0 := rfl
        omega
      · cases j with
        | zero => intro z; cases z
        | succ j => exact h1.2 j (by omega)
  | rp b m r ihb ihr =>
    obtain ⟨hbn, hb, _, hr⟩ := ok
    intro i n h
    have ebr := (dep_tree b).2
    cases i with
    | zero => cases h
    | succ i =>
      have h : (b.words ++ .cl m :: r.words)[i]? = some (.cl n) := h
      have e1 : dep (Ps.rp b m r).words (i + 1) = 1 + dep (b.words ++ .cl m :: r.words) i := dep_cons _ _ _
      rw [e1]
      by_cases hi : i < b.words.length
      · rw [List.getElem?_append_left hi] at h
        have h1 := ihb hb i n h
        refine ⟨by rw [dep_left (Nat.le_of_lt hi)]; omega, fun j hj => ?_⟩
        have : j = i := by omega
        subst this
        cases j with
        | zero =>
          exact absurd h1.1 (by rw [dep_zero]; decide)
        | succ j =>
          show (b.words ++ .cl m :: r.words)[j]? ≠ _
          rw [List.getElem?_append_left (by omega)]
          exact h1.2 j rfl
      · rw [List.getElem?_append_right (by omega)] at h
        obtain ⟨k, rfl⟩ : ∃ k, i = b.words.length + k := ⟨i - b.words.length, by omega⟩
        rw [Nat.add_sub_cancel_left] at h
        rw [dep_right, ebr]
        cases k with
        | zero =>
          refine ⟨by rw [dep_zero]; decide, fun j hj => ?_⟩
          have : j = b.words.length := by omega
          subst this
          obtain ⟨A, x, e, hx⟩ := words_ne hbn
          have : (b.words).length = A.length + 1 := by rw [e]; simp
          rw [this]
          show (b.words ++ .cl m :: r.words)[A.length]? ≠ _
          rw [List.getElem?_append_left (by omega), e, List.getElem?_append_right (Nat.le_refl _), Nat.sub_self]
          intro z
          exact hx (Option.some.inj z)
        | succ k =>
          have h1 := ihr hr k n h
          rw [dep_cons]
          have es : step (.cl m) = -1 := rfl
          refine ⟨by omega, fun j hj => ?_⟩
          have : j = b.words.length + (k + 1) := by omega
          subst this
          show (b.words ++ .cl m :: r.words)[b.words.length + k]? ≠ _
          rw [List.getElem?_append_right (by omega), Nat.add_sub_cancel_left]
          cases k with
          | zero => intro z; cases z
          | succ k => exact h1.2 k rfl
theorem words_ok (p : Ps) (ok : p.ok) : ∀ x ∈ p.words, x.ok := by
  induction p with
  | nil => intro x h; cases h
  | lf c n r ih =>
    intro x h
    rcases List.mem_cons.mp h with rfl | h
    · exact ok.1
    · exact ih ok.2 x h
  | rp b n r ihb ihr =>
    intro x h
    rcases List.mem_cons.mp h with rfl | h
    · exact trivial
    · rcases List.mem_append.mp h with h | h
      · exact ihb ok.2.1 x h
      · rcases List.mem_cons.mp h with rfl | h
        · exact ok.2.2.1
        · exact ihr ok.2.2.2 x h
theorem step_ge (x : Wd) : -1 ≤ step x := by
  cases x with
  | op => decide
  | cl n =>
    show (-1 : Int) ≤ -1
    decide
  | lt c n =>
    show (-1 : Int) ≤ 0
    decide
theorem sum_ge : ∀ l : List Wd, -(l.length : Int) ≤ (l.map step).sum
  | [] => by simp
  | x :: l => by
    have h1 := sum_ge l
    have h2 := step_ge x
    simp only [List.map_cons, List.sum_cons, List.length_cons]
    omega
theorem okW_of {p : Ps} (ok : p.ok) (hl : p.words.length ≤ 1000) (hd : p.lev ≤ 12) : OkW p.words where
  ok := words_ok p ok
  most := hl
  cl := cl_tree p ok
  up := fun i _ => by
    have := (dep_tree p).1 i
    omega
  shut := (dep_tree p).2
  need := fun i x hx => by
    have il : i < p.words.length := (List.getElem?_eq_some_iff.mp hx).1
    have tot := (dep_tree p).2
    have cut : dep p.words (i + 1) + ((p.words.drop (i + 1)).map step).sum = 0 := by
      rw [← tot]
      unfold dep
      rw [← List.sum_append, ← List.map_append, List.take_append_drop, List.take_length]
    have ge := sum_ge (p.words.drop (i + 1))
    have ln : (p.words.drop (i + 1)).length = p.words.length - (i + 1) := List.length_drop ..
    by_cases ho : isOp x = true
    · have xo : x = .op := by
        cases x with
        | op => rfl
        | cl n => cases ho
        | lt c n => cases ho
      subst xo
      have pos : 0 < dep p.words (i + 1) := by
        have h1 := dep_succ hx
        have h2 := ((dep_tree p).1 i).1
        have h3 : b2 (isOp .op) = 1 := rfl
        have h4 : b2 (isCl .op) = 0 := rfl
        omega
      cases hr : p.words.drop (i + 1) with
      | nil =>
        rw [hr] at cut
        simp at cut
        omega
      | cons y t =>
        have hy : p.words[i + 1]? = some y := by
          have := List.getElem?_drop (xs := p.words) (i := i + 1) (j := 0)
          rw [hr] at this
          simpa using this.symm
        have hs : 0 ≤ step y := by
          cases y with
          | op => decide
          | cl n => exact absurd hx ((cl_tree p ok (i + 1) n hy).2 i rfl)
          | lt c n =>
            show (0 : Int) ≤ 0
            decide
        rw [hr] at cut ln
        simp only [List.map_cons, List.sum_cons, List.length_cons] at cut ln
        have ge2 := sum_ge t
        have : b2 (isOp Wd.op) = 1 := rfl
        omega
    · have : b2 (isOp x) = 0 := by unfold b2; rw [if_neg ho]
      omega
end WM

set_option Elab.async false
set_option linter.all false
set_option maxRecDepth 100000
set_option maxHeartbeats 4000000
namespace K05P
open PySem PySem.Spec PyProof.Rows L2 RT WM K05 TL
/-- a Program at a -/
def IsP (K : PySem.W.Frag) (H : Hp) (a : Addr) (p : Ps) : Prop := p.ok ∧ p.lev ≤ 12 ∧ p.words.length ≤ 1000 ∧ ∃ d w t us, H a = some (.ins (He.ga K "Program") d [("_text", .str (textOf p.words)), ("_words", .ref w), ("_parts", .ref t), ("_length", .int (p.size : Int)), ("_depth", .int (p.lev : Int))]) ∧
  H w = some (.tup (wstrs p.words)) ∧ H t = some (.tup us) ∧ PartsAt (He.ga K "Part") H us p
theorem IsP.same {K : PySem.W.Frag} {H H' : Hp} {a : Addr} {p : Ps} (h : IsP K H a p) (s : Same H H') : IsP K H' a p := by
  obtain ⟨h1, h2, h3, d, w, t, us, e1, e2, e3, e4⟩ := h
  exact ⟨h1, h2, h3, d, w, t, us, s _ _ e1, s _ _ e2, s _ _ e3, e4.same s⟩
theorem partsUpdA {C C' a d : Addr} {H : Hp} {us : List V} {p : Ps} {o : HO} {v : V} {fs : List (Str × V)} (h : PartsAt C H us p) (ea : H a = some (.ins C' d (("_text", v) :: fs))) : PartsAt C (upd H a o) us p := by
  have n1 : ∀ {b d' : Addr} {u : V} {gs : List (Str × V)}, H b = some (.ins C d' (("letter", u) :: gs)) → b ≠ a := fun h z => by
    rw [z, ea] at h
    injection h with h
    injection h with _ _ h
    injection h with h _
    injection h with h _
    exact absurd h (by decide)
  have n2 : ∀ {b : Addr} {us : List V}, H b = some (.tup us) → b ≠ a := fun h z => by
    rw [z, ea] at h
    cases h
  induction h with
  | nil => exact .nil
  | lf h1 h2 _ ih => exact .lf ((upd_ne (n1 h1)).trans h1) ((upd_ne (n2 h2)).trans h2) ih
  | rp h1 h2 _ _ ih1 ih2 => exact .rp ((upd_ne (n1 h1)).trans h1) ((upd_ne (n2 h2)).trans h2) ih1 ih2
section
variable {P : Program} {w : World} {K : PySem.W.Frag} {mg : Str → Option Value} {base : Heap}
def spParts (K : PySem.W.Frag) : Sp := fun vs H Q _ => ∃ (a : Addr) (p : Ps), vs = [.ref a] ∧ SqT K H a (wstrs p.words) ∧ p.ok ∧ p.lev ≤ 12 ∧ p.words.length ≤ 1000 ∧ ∀ t us H', Same H H' → H' t = some (.tup us) → PartsAt (He.ga K "Part") H' us p → Q (.ref t) H'
theorem ok_parts (D : Ds K) (T : Tx K mg) : FnOk P w K mg base CX0 18 (dparts_of_words.adr K) D.fd_parts_of_words ["words"] (spParts K) := by
  have G : FnOk P w K mg base CX0 (4 + 13) _ _ _ (spPF K 13) := ok_pf D T 13
  refine D.F_parts_of_words.ok scparts_of_words (fun vs H Q E h => ?_) (fun cdv A outer s H vs Q E hr h => ?_)
  · obtain ⟨a, p, rfl, _⟩ := h
    rfl
  · obtain ⟨a, p, rfl, ha, hp, hl, hw, q⟩ := h
    have nd := scparts_of_words.nd
    refine ⟨_, PSs.nox (pss_cons (ps_asg (pe_call G hr (by rfl) T.g__parts_from D.F__parts_from.kp (b__parts_from D) .nil pass0 (pa_cons (pv 0) (pa_cons pe_int pa_nil))) (pg_tup (by rfl) (pgs_cons (pg_name (i := 1) nd rfl (.inl rfl)) (pgs_cons (pg_name (i := 2) nd rfl (.inl rfl)) pgs_nil))))
      (pss_one (ps_ret (pv 1)))), ?_⟩
    refine ⟨_, rfl, a, [], [], p, rfl, by rw [List.nil_append, List.append_nil]; exact ha, hp, by omega, hl, by rw [List.nil_append, List.append_nil]; exact hw, nofun, fun r t us H1 s1 er et pt => ?_⟩
    exact ⟨r, _, rfl, tupT er, rfl, _, _, rfl, _, _, rfl, rfl, _, rfl, q t us H1 s1 et pt⟩
def spCheckT : Sp := fun vs H Q _ => ∃ p : Ps, vs = [.str (textOf p.words)] ∧ p.ok ∧ p.lev ≤ 12 ∧ p.words.length ≤ 1000 ∧ ∀ H', Same H H' → Q .non H'
theorem ok_checkT (D : Ds K) (T : Tx K mg) : FnOk P w K mg base CX0 5 (dcheck_text.adr K) D.fd_check_text ["text"] spCheckT := by
  have GW : FnOk P w K mg base CX0 4 _ _ _ (spWrong K) := ok_wrong D T
  have GT : FnOk P w K mg base CX0 1 _ _ _ spWords := ok_words D T
  refine D.F_check_text.ok sccheck_text (fun vs H Q E h => ?_) (fun cdv A outer s H vs Q E hr h => ?_)
  · obtain ⟨p, rfl, _⟩ := h
    rfl
  · obtain ⟨p, rfl, hp, hl, hw, q⟩ := h
    have nd := sccheck_text.nd
    refine ⟨_, PSs.nox (pss_cons (ps_if (pt_not (pt_val (pe_callB call_isiY (by rfl) T.z_isinstance (by decide +kernel) (pa_cons (pv 0) (pa_cons (pe_bltn (v := .ty "str") (by rfl) T.z_str (by decide +kernel) rfl) pa_nil))))) (pss_one ps_never) pss_nil)
      (pss_cons (ps_set (i := 1) nd rfl (.inl rfl) (pe_call GW hr (by rfl) T.g_wrong_word D.F_wrong_word.kp (b_wrong_word D) .nil pass0 (pa_cons (pe_call GT (hr.mono (by decide)) (by rfl) T.g_words_of D.F_words_of.kp (b_words_of D) .nil pass0 (pa_cons (pv 0) pa_nil)) (pa_cons (pe_tup pa_nil) pa_nil))))
      (pss_one (ps_if (pt_cmpR op_notN (pv 1) pe_non (nomark _)) (pss_one ps_never) pss_nil)))), ?_⟩
    have ow := okW_of hp hw hl
    refine ⟨_, rfl, _, .ty "str", _, _, true, rfl, .ty "str", .base (.base (.str _)), kit_ss, true, rfl, iteF ?_⟩
    refine ⟨_, rfl, p.words, rfl, ow, fun r H1 s1 n1 e1 => ⟨by show 0 ≤ sizeLine; decide, fun e he => ?_⟩⟩
    have se := same_new (o := .tup []) he
    refine ⟨r, e, p.words, rfl, lstL (se _ _ e1), tupT upd_same, ow, fun H2 s2 => ?_⟩
    exact ⟨_, rfl, rfl, false, rfl, iteF (q H2 (s1.trans (se.trans s2)))⟩
def spProg (K : PySem.W.Frag) : Sp := fun vs H Q _ => ∃ (a d : Addr) (p : Ps), vs = [.ref a, .str (textOf p.words)] ∧ H a = some (.ins (He.ga K "Program") d []) ∧ p.ok ∧ p.lev ≤ 12 ∧ p.words.length ≤ 1000 ∧
  ∀ H', (∀ b o, b ≠ a → H b = some o → H' b = some o) → IsP K H' a p → Q .non H'
theorem ok_prog (D : Ds K) (T : Tx K mg) : FnOk P w K mg base CX0 19 (dProgram_init.adr K) D.fd_Program_init ["self", "text"] (spProg K) := by
  have GC : FnOk P w K mg base CX0 5 _ _ _ spCheckT := ok_checkT D T
  have GT : FnOk P w K mg base CX0 1 _ _ _ spWords := ok_words D T
  have GP : FnOk P w K mg base CX0 18 _ _ _ (spParts K) := ok_parts D T
  have GS : FnOk P w K mg base CX0 1 _ _ _ (spSize K) := ok_size D T
  have GL : FnOk P w K mg base CX0 1 _ _ _ (spLevs K) := ok_levs D T
  refine D.F_Program_init.ok scProgram_init (fun vs H Q E h => ?_) (fun cdv A outer s H vs Q E hr h => ?_)
  · obtain ⟨a, d, p, rfl, _⟩ := h
    rfl
  · obtain ⟨a, d, p, rfl, ea, hp, hl, hw, q⟩ := h
    refine ⟨_, PSs.nox (pss_cons (ps_expr (pe_call GC (hr.mono (by decide)) (by rfl) T.g_check_text D.F_check_text.kp (b_check_text D) .nil pass0 (pa_cons (pv 1) pa_nil)))
      (pss_cons (ps_fld (pv 0) (pv 1) rfl)
      (pss_cons (ps_fld (pv 0) (pe_callTy call_tuple_of (by rfl) T.z_tuple (by decide +kernel) (pa_cons (pe_call GT (hr.mono (by decide)) (by rfl) T.g_words_of D.F_words_of.kp (b_words_of D) .nil pass0 (pa_cons (pv 1) pa_nil)) pa_nil)) rfl)
      (pss_cons (ps_fld (pv 0) (pe_call GP hr (by rfl) T.g_parts_of_words D.F_parts_of_words.kp (b_parts_of_words D) .nil pass0 (pa_cons (pe_fld (pv 0) rfl) pa_nil)) rfl)
      (pss_cons (ps_fld (pv 0) (pe_call GS (hr.mono (by decide)) (by rfl) T.g_size_of D.F_size_of.kp (b_size_of D) .nil pass0 (pa_cons (pe_fld (pv 0) rfl) pa_nil)) rfl)
      (pss_one (ps_fld (pv 0) (pe_call GL (hr.mono (by decide)) (by rfl) T.g_levels_of D.F_levels_of.kp (b_levels_of D) .nil pass0 (pa_cons (pe_fld (pv 0) rfl) pa_nil)) rfl))))))), ?_⟩
    have ow := okW_of hp hw hl
    have zl : p.sizes.length ≤ 1000 := Nat.le_trans (sizes_le p) hw
    refine ⟨_, rfl, p, rfl, hp, hl, hw, fun H1 s1 => ?_⟩
    refine ⟨_, rfl, _, rfl, a, _, d, _, rfl, s1 _ _ ea, T.c_Program, T.n_Program__text, by show 0 < 1000; decide, ?_⟩
    refine ⟨_, rfl, p.words, rfl, ow, fun r H2 s2 n2 e2 => ⟨r, _, rfl, .inl ⟨lstL e2, fun wd nw => ?_⟩⟩⟩
    have sw := same_new (o := .tup (wstrs p.words)) nw
    have a2 := sw _ _ (s2 _ _ upd_same)
    refine ⟨_, rfl, a, _, d, _, rfl, a2, T.c_Program, T.n_Program__words, by show 1 < 1000; decide, ?_⟩
    have wa : wd ≠ a := fun z => by
      have h := s2 _ _ (upd_same (H := H1) (a := a))
      rw [← z, nw] at h
      cases h
    refine ⟨_, rfl, a, _, d, _, _, rfl, upd_same, T.c_Program, T.n_Program__words, rfl, wd, p, rfl, tupT ((upd_ne wa).trans upd_same), hp, hl, hw, fun t us H4 s4 et pt => ?_⟩
    have a4 := s4 _ _ upd_same
    have w4 := s4 _ _ ((upd_ne wa).trans upd_same)
    refine ⟨_, rfl, a, _, d, _, rfl, a4, T.c_Program, T.n_Program__parts, by show 2 < 1000; decide, ?_⟩
    have ta : t ≠ a := fun z => by
      rw [z, a4] at et
      cases et
    have p5 := partsUpdA (o := .ins (He.ga K "Program") d [("_text", .str (textOf p.words)), ("_words", .ref wd), ("_parts", .ref t)]) pt a4
    refine ⟨_, rfl, a, _, d, _, _, rfl, upd_same, T.c_Program, T.n_Program__parts, rfl, t, us, p, rfl, tupT ((upd_ne ta).trans et), p5, zl, fun H6 s6 => ?_⟩
    have a6 := s6 _ _ upd_same
    have t6 := s6 _ _ ((upd_ne ta).trans et)
    have w6 := s6 _ _ ((upd_ne wa).trans w4)
    have p6 := p5.same s6
    refine ⟨_, rfl, a, _, d, _, rfl, a6, T.c_Program, T.n_Program__length, by show 3 < 1000; decide, ?_⟩
    have p7 := partsUpdA (o := .ins (He.ga K "Program") d [("_text", .str (textOf p.words)), ("_words", .ref wd), ("_parts", .ref t), ("_length", .int (p.size : Int))]) p6 a6
    refine ⟨_, rfl, a, _, d, _, _, rfl, upd_same, T.c_Program, T.n_Program__parts, rfl, t, us, p, rfl, tupT ((upd_ne ta).trans t6), p7, zl, fun H8 s8 => ?_⟩
    have a8 := s8 _ _ upd_same
    have t8 := s8 _ _ ((upd_ne ta).trans t6)
    have w8 := s8 _ _ ((upd_ne wa).trans w6)
    have p8 := p7.same s8
    refine ⟨_, rfl, a, _, d, _, rfl, a8, T.c_Program, T.n_Program__depth, by show 4 < 1000; decide, ?_⟩
    refine q _ (fun b o hb h => ?_) ⟨hp, hl, hw, d, wd, t, us, upd_same, (upd_ne wa).trans w8, (upd_ne ta).trans t8, partsUpdA p8 a8⟩
    have h1 := s2 _ _ ((upd_ne (o := .ins (He.ga K "Program") d [("_text", .str (textOf p.words))]) hb).trans (s1 _ _ h))
    have h2 := s4 _ _ ((upd_ne hb).trans (sw _ _ h1))
    have h3 := s6 _ _ ((upd_ne hb).trans h2)
    have h4 := s8 _ _ ((upd_ne hb).trans h3)
    exact (upd_ne hb).trans h4
end
end K05P

set_option Elab.async false
set_option linter.all false
set_option maxRecDepth 100000
set_option maxHeartbeats 4000000
namespace K05P
open PySem PySem.Spec PyProof.Rows L2 RT WM K05 TL
section
variable {P : Program} {w : World} {K : PySem.W.Frag} {mg : Str → Option Value} {base : Heap}
def spText (K : PySem.W.Frag) : Sp := fun vs H Q _ => ∃ a p, vs = [.ref a] ∧ IsP K H a p ∧ Q (.str (textOf p.words)) H
theorem ok_text (D : Ds K) (T : Tx K mg) : FnOk P w K mg base CX0 1 (dProgram_text.adr K) D.fd_Program_text ["self"] (spText K) := by
  refine D.F_Program_text.ok scProgram_text (fun vs H Q E h => ?_) (fun cdv A outer s H vs Q E hr h => ?_)
  · obtain ⟨a, p, rfl, _⟩ := h
    rfl
  · obtain ⟨a, p, rfl, ⟨_, _, _, d, wd, t, us, ea, ew, et, pt⟩, q⟩ := h
    exact ⟨_, PSs.nox (pss_one (ps_ret (pe_fld (pv 0) rfl))), _, rfl, a, _, d, _, _, rfl, ea, T.c_Program, T.n_Program__text, rfl, q⟩
def spLength (K : PySem.W.Frag) : Sp := fun vs H Q _ => ∃ a p, vs = [.ref a] ∧ IsP K H a p ∧ Q (.int (p.size : Int)) H
theorem ok_length (D : Ds K) (T : Tx K mg) : FnOk P w K mg base CX0 1 (dProgram_length.adr K) D.fd_Program_length ["self"] (spLength K) := by
  refine D.F_Program_length.ok scProgram_length (fun vs H Q E h => ?_) (fun cdv A outer s H vs Q E hr h => ?_)
  · obtain ⟨a, p, rfl, _⟩ := h
    rfl
  · obtain ⟨a, p, rfl, ⟨_, _, _, d, wd, t, us, ea, ew, et, pt⟩, q⟩ := h
    exact ⟨_, PSs.nox (pss_one (ps_ret (pe_fld (pv 0) rfl))), _, rfl, a, _, d, _, _, rfl, ea, T.c_Program, T.n_Program__length, rfl, q⟩
def spDepth (K : PySem.W.Frag) : Sp := fun vs H Q _ => ∃ a p, vs = [.ref a] ∧ IsP K H a p ∧ Q (.int (p.lev : Int)) H
theorem ok_depth (D : Ds K) (T : Tx K mg) : FnOk P w K mg base CX0 1 (dProgram_depth.adr K) D.fd_Program_depth ["self"] (spDepth K) := by
  refine D.F_Program_depth.ok scProgram_depth (fun vs H Q E h => ?_) (fun cdv A outer s H vs Q E hr h => ?_)
  · obtain ⟨a, p, rfl, _⟩ := h
    rfl
  · obtain ⟨a, p, rfl, ⟨_, _, _, d, wd, t, us, ea, ew, et, pt⟩, q⟩ := h
    exact ⟨_, PSs.nox (pss_one (ps_ret (pe_fld (pv 0) rfl))), _, rfl, a, _, d, _, _, rfl, ea, T.c_Program, T.n_Program__depth, rfl, q⟩
def spLenP (K : PySem.W.Frag) : Sp := fun vs H Q _ => ∃ a p, vs = [.ref a] ∧ IsP K H a p ∧ Q (.int (p.words.length : Int)) H
theorem ok_lenP (D : Ds K) (T : Tx K mg) : FnOk P w K mg base CX0 1 (dProgram_len.adr K) D.fd_Program_len ["self"] (spLenP K) := by
  refine D.F_Program_len.ok scProgram_len (fun vs H Q E h => ?_) (fun cdv A outer s H vs Q E hr h => ?_)
  · obtain ⟨a, p, rfl, _⟩ := h
    rfl
  · obtain ⟨a, p, rfl, ⟨_, _, _, d, wd, t, us, ea, ew, et, pt⟩, q⟩ := h
    refine ⟨_, PSs.nox (pss_one (ps_ret (pe_callB call_len_seq (by rfl) T.z_len PySem.boot_len (pa_cons (pe_fld (pv 0) rfl) pa_nil)))), ?_⟩
    refine ⟨_, rfl, a, _, d, _, _, rfl, ea, T.c_Program, T.n_Program__words, rfl, wd, _, rfl, .inr (tupT ew), ?_⟩
    have e : (wstrs p.words).length = p.words.length := List.length_map ..
    rw [e]
    exact q
def spCheckP (K : PySem.W.Frag) : Sp := fun vs H Q _ => ∃ a p, vs = [.ref a] ∧ IsP K H a p ∧ Q .non H
theorem ok_checkP (D : Ds K) (T : Tx K mg) : FnOk P w K mg base CX0 1 (dcheck_program.adr K) D.fd_check_program ["program"] (spCheckP K) := by
  refine D.F_check_program.ok sccheck_program (fun vs H Q E h => ?_) (fun cdv A outer s H vs Q E hr h => ?_)
  · obtain ⟨a, p, rfl, _⟩ := h
    rfl
  · obtain ⟨a, p, rfl, ⟨_, _, _, d, wd, t, us, ea, ew, et, pt⟩, q⟩ := h
    refine ⟨_, PSs.nox (pss_one (ps_if (pt_not (pt_val (pe_callB call_isiY (by rfl) T.z_isinstance (by decide +kernel) (pa_cons (pv 0) (pa_cons (pe_glob (v := .ref (He.ga K "Program")) rfl T.g_Program rfl) pa_nil))))) (pss_one ps_never) pss_nil)), ?_⟩
    exact ⟨_, rfl, _, .ref (He.ga K "Program"), _, _, true, rfl, .own _, .base (.base (.ins ea T.c_Program T.i_Program.ha T.i_Program.hn T.i_Program.ht T.i_Program.hm)), T.t_Program, true, rfl, iteF q⟩
/-- == with another program: by the texts -/
def spEqP (K : PySem.W.Frag) : Sp := fun vs H Q _ => ∃ a p v, vs = [.ref a, v] ∧ IsP K H a p ∧
  ((∃ b r, v = .ref b ∧ IsP K H b r ∧ Q (.bl (decide (textOf p.words = textOf r.words))) H) ∨ (∃ Ty, TyY K H v (.type Ty) ∧ Ty ∈ (["NoneType", "int", "str", "list", "tuple"] : List String) ∧ Q (.bl false) H))
theorem ok_eqP (D : Ds K) (T : Tx K mg) : FnOk P w K mg base CX0 1 (dProgram_eq.adr K) D.fd_Program_eq ["self", "other"] (spEqP K) := by
  refine D.F_Program_eq.ok scProgram_eq (fun vs H Q E h => ?_) (fun cdv A outer s H vs Q E hr h => ?_)
  · obtain ⟨a, p, v, rfl, _⟩ := h
    rfl
  · obtain ⟨a, p, v, rfl, ⟨_, _, _, d, wd, t, us, ea, ew, et, pt⟩, h⟩ := h
    refine ⟨_, PSs.nox (pss_one (ps_ret (pe_and (pe_callB call_isiY (by rfl) T.z_isinstance (by decide +kernel) (pa_cons (pv 1) (pa_cons (pe_glob (v := .ref (He.ga K "Program")) rfl T.g_Program rfl) pa_nil)))
      (pe_one (pe_cmpR op_eq (pe_fld (pv 0) rfl) (pe_fld (pv 1) rfl) (nomark _)))))), ?_⟩
    rcases h with ⟨b, r, rfl, ⟨_, _, _, d2, wd2, t2, us2, eb, _⟩, q⟩ | ⟨Ty, ty, tm, q⟩
    · refine ⟨_, rfl, _, .ref (He.ga K "Program"), _, _, true, rfl, .own _, .base (.base (.ins eb T.c_Program T.i_Program.ha T.i_Program.hn T.i_Program.ht T.i_Program.hm)), T.t_Program, true, rfl, iteT ?_⟩
      refine ⟨_, rfl, a, _, d, _, _, rfl, ea, T.c_Program, T.n_Program__text, rfl, _, rfl, b, _, d2, _, _, rfl, eb, T.c_Program, T.n_Program__text, rfl, rfl, ?_⟩
      rw [show decide (V.str (textOf p.words) = V.str (textOf r.words)) = decide (textOf p.words = textOf r.words) from decide_eq_decide.mpr ⟨fun z => by injection z, fun z => by rw [z]⟩]
      exact q
    · have kt : PySem.W.kitOne K (.type Ty) (.ref (He.ga K "Program")) = some false := by
        simp only [List.mem_cons, List.not_mem_nil, or_false] at tm
        rcases tm with rfl | rfl | rfl | rfl | rfl
        · exact T.kt_none
        · exact T.kt_int
        · exact T.kt_str
        · exact T.kt_list
        · exact T.kt_tuple
      exact ⟨_, rfl, _, .ref (He.ga K "Program"), _, _, false, rfl, .own _, ty, kt, false, rfl, iteF q⟩
end
end K05P

set_option Elab.async false
set_option linter.all false
set_option maxRecDepth 100000
set_option maxHeartbeats 4000000
namespace K05P
open PySem PySem.Spec PyProof.Rows L2 RT WM K05 TL
theorem wstrs_map (ws : List Wd) : wstrs ws = (ws.map Wd.str).map V.str := by
  unfold wstrs
  rw [List.map_map]
  rfl
theorem lens_le : ∀ {ws : List Wd}, (∀ x ∈ ws, x.ok) → ((ws.map Wd.str).map (·.length)).sum ≤ ws.length * 32
  | [], _ => Nat.le_refl _
  | x :: ws, h => by
    have h1 := lens_le fun z hz => h z (List.mem_cons_of_mem _ hz)
    have h2 := cps_len (h x (List.mem_cons_self ..))
    have h3 : x.str.length = x.cps.length := WM.len_tl x.str
    simp only [List.map_cons, List.sum_cons, List.length_cons] at h1 ⊢
    omega
section
variable {P : Program} {w : World} {K : PySem.W.Frag} {mg : Str → Option Value} {base : Heap}
theorem make_p {H : Hp} {p : Ps} {t : Str} {Q : VK} {E : XK} {x d : Addr} (hx : H x = none) (hd : H d = none) (et : t = textOf p.words) (hp : p.ok) (hl : p.lev ≤ 12) (hw : p.words.length ≤ 1000) (q : ∀ H', Same H H' → IsP K H' x p → Q .non H') :
    spProg K (.ref x :: ([.str t] ++ [])) (upd (upd H d (.own x)) x (.ins (He.ga K "Program") d [])) Q E := by
  subst et
  exact ⟨x, d, p, rfl, upd_same, hp, hl, hw, fun H' k m => q H' (fun b o e => k b o (ne_of_none e hx) (by rw [upd_ne (ne_of_none e hx), upd_ne (ne_of_none e hd)]; exact e)) m⟩
def spAddP (K : PySem.W.Frag) : Sp := fun vs H Q _ => ∃ a b p q, vs = [.ref a, .ref b] ∧ IsP K H a p ∧ IsP K H b q ∧ p.words.length + q.words.length ≤ 1000 ∧ ∀ r H', Same H H' → IsP K H' r (p.app q) → Q (.ref r) H'
theorem ok_addP (D : Ds K) (T : Tx K mg) : FnOk P w K mg base CX0 21 (dProgram_add.adr K) D.fd_Program_add ["self", "other"] (spAddP K) := by
  have GC : FnOk P w K mg base CX0 1 _ _ _ (spCheckP K) := ok_checkP D T
  have GI : FnOk P w K mg base CX0 19 _ _ _ (spProg K) := ok_prog D T
  refine D.F_Program_add.ok scProgram_add (fun vs H Q E h => ?_) (fun cdv A outer s H vs Q E hr h => ?_)
  · obtain ⟨a, b, p, q, rfl, _⟩ := h
    rfl
  · obtain ⟨a, b, p, q, rfl, ha, hb, hle, k⟩ := h
    obtain ⟨tW, vW⟩ := T.v_MOST_WORDS
    refine ⟨_, PSs.nox (pss_cons (ps_expr (pe_call GC (hr.mono (by decide)) (by rfl) T.g_check_program D.F_check_program.kp (b_check_program D) .nil pass0 (pa_cons (pv 1) pa_nil)))
      (pss_cons (ps_if (pt_cmpR op_gt (pe_op op_add (pe_callB call_len_seq (by rfl) T.z_len PySem.boot_len (pa_cons (pe_fld (pv 0) rfl) pa_nil)) (pe_callB call_len_seq (by rfl) T.z_len PySem.boot_len (pa_cons (pe_fld (pv 1) rfl) pa_nil))) (pe_glob (v := .int 1000) rfl vW ⟨_, rfl⟩) (nomark _)) (pss_one ps_never) pss_nil)
      (pss_one (ps_ret (pe_make T.k_Program GI hr (by rfl) T.g_Program (b_Program_init D) .nil pass0 (pa_cons (pe_join pe_str (pe_op op_catA (pe_fld (pv 0) rfl) (pe_fld (pv 1) rfl))) pa_nil)))))), ?_⟩
    obtain ⟨op, lp, wp, d1, wd1, t1, us1, ea, ew1, et1, pt1⟩ := id ha
    obtain ⟨oq, lq, wq, d2, wd2, t2, us2, eb, ew2, et2, pt2⟩ := id hb
    have e1 : (wstrs p.words).length = p.words.length := List.length_map ..
    have e2 : (wstrs q.words).length = q.words.length := List.length_map ..
    refine ⟨_, rfl, b, q, rfl, hb, ?_⟩
    refine ⟨_, rfl, a, _, d1, _, _, rfl, ea, T.c_Program, T.n_Program__words, rfl, wd1, _, rfl, .inr (tupT ew1), _, rfl, b, _, d2, _, _, rfl, eb, T.c_Program, T.n_Program__words, rfl, wd2, _, rfl, .inr (tupT ew2), _, _, rfl, rfl, _, _, rfl, rfl, false, ?_, iteF ?_⟩
    · rw [e1, e2]
      exact congrArg V.bl (decide_eq_false (by omega))
    have aw : (p.app q).words = p.words ++ q.words := app_words p q
    have aok := app_ok op oq
    have al : (p.app q).lev ≤ 12 := by
      rw [app_lev]
      omega
    have alen : (p.app q).words.length ≤ 1000 := by
      rw [aw, List.length_append]
      exact hle
    have sums : (((p.app q).words.map Wd.str).map (·.length)).sum + ((p.app q).words.map Wd.str).length * (" " : Str).length ≤ 16777216 := by
      have h1 := lens_le (words_ok _ aok)
      have h2 : (" " : Str).length = 1 := rfl
      rw [List.length_map, h2]
      omega
    have fin : ∀ (z : Addr) (H1 : Hp), Same H H1 → H1 z = some (.tup (wstrs (p.app q).words)) → ∀ {R : Addr → Hp → Prop}, (∀ r H', Same H1 H' → IsP K H' r (p.app q) → R r H') → ∀ {t : Str}, t = textOf (p.app q).words → ∀ x dx, H1 x = none → H1 dx = none → dx ≠ x → spProg K (.ref x :: ([.str t] ++ [])) (upd (upd H1 dx (.own x)) x (.ins (He.ga K "Program") dx [])) (fun v H2 => v = .non ∧ R x H2) E0 :=
      fun z H1 s1 ez R hR t et x dx nx nd _ => make_p nx nd et aok al alen fun H2 s2 hp2 => ⟨rfl, hR x H2 s2 hp2⟩
    refine ⟨⟨_, rfl⟩, ?_⟩
    refine ⟨_, rfl, a, _, d1, _, _, rfl, ea, T.c_Program, T.n_Program__words, rfl, _, rfl, b, _, d2, _, _, rfl, eb, T.c_Program, T.n_Program__words, rfl, wd1, wd2, _, _, rfl, rfl, tupT ew1, tupT ew2, ?_, fun z => ?_, fun z1 z2 => ?_, fun z1 z2 y ny => ?_⟩
    · rw [e1, e2]
      exact Nat.le_trans hle (by decide)
    · have z : p.words = [] := List.map_eq_nil_iff.mp z
      have ew : (p.app q).words = q.words := by rw [aw, z]; rfl
      refine ⟨_, wd2, (p.app q).words.map Wd.str, rfl, rfl, .inr (tupT (by rw [← wstrs_map, ew]; exact ew2)), sums, ?_⟩
      exact fin wd2 H (fun _ _ e => e) (by rw [ew]; exact ew2) (fun r H' s h => k r H' s h) (join_eq _ _)
    · have z2 : q.words = [] := List.map_eq_nil_iff.mp z2
      have ew : (p.app q).words = p.words := by rw [aw, z2, List.append_nil]
      refine ⟨_, wd1, (p.app q).words.map Wd.str, rfl, rfl, .inr (tupT (by rw [← wstrs_map, ew]; exact ew1)), sums, ?_⟩
      exact fin wd1 H (fun _ _ e => e) (by rw [ew]; exact ew1) (fun r H' s h => k r H' s h) (join_eq _ _)
    · have sy := same_new (o := .tup (wstrs p.words ++ wstrs q.words)) ny
      have ey : upd H y (.tup (wstrs p.words ++ wstrs q.words)) y = some (.tup (wstrs (p.app q).words)) := by
        rw [upd_same, aw]
        unfold wstrs
        rw [List.map_append]
      refine ⟨_, y, (p.app q).words.map Wd.str, rfl, rfl, .inr (tupT (by rw [← wstrs_map]; exact ey)), sums, ?_⟩
      exact fin y _ sy ey (fun r H' s h => k r H' (sy.trans s) h) (join_eq _ _)
end
end K05P

set_option Elab.async false
set_option linter.all false
set_option maxRecDepth 100000
/-! A model whose `yield from` over a generator is a plain one, marked: the machine's runs are its runs (GT1), the given model's calm runs are its runs too (GT2). -/
namespace GT
open PySem
open Sem (wp)

def mk : Value := .builtin "hush#mark"
/-- the live list without the mark -/
def fl (l : List Value) : List Value := l.filter fun v => v != mk
def dOf : Code → Option Value
  | .builtin "proto.yield_from" ⟨it :: _, _⟩ => some it
  | _ => none
def tau {α : Type} (d : Option Value) : Sem α → Sem α
  | .pure a => .pure a
  | .raise e => .raise e
  | .unsupported z => .unsupported z
  | .finish e => .finish e
  | .rule t k => .rule t fun x => tau d (k x)
  | .at p k => .at p fun x => tau d (k x)
  | .load a p k => .load a p fun x => tau d (k x)
  | .update a p g k => .update a p g fun x => tau d (k x)
  | .alloc o k => .alloc o fun x => tau d (k x)
  | .register a k => .register a fun x => tau d (k x)
  | .loadIfAlive a k => .loadIfAlive a fun x => tau d (k x)
  | .point l k => .point (fl l) fun x => tau d (k x)
  | .fresh k => .fresh fun x => tau d (k x)
  | .ask k => .ask fun x => tau d (k x)
  | .choose s n k => .choose s n fun x => tau d (k x)
  | .os q l k => .os q (fl l) fun x => tau d (k x)
  | .call c m g l k => .call c m g (fl l) fun x => tau d (k x)
  | .handled o k => .handled o fun x => tau d (k x)
  | .genState g k => .genState g fun x => tau d (k x)
  | .newGen c k => .newGen c fun x => tau d (k x)
  | .resume g r l k => .resume g r (fl l) fun x => tau d (k x)
  | .yield v g l k => match d, g with
    | some (.ref a), true => .load a none fun o => if o.genNumber?.isSome then .yield v false (mk :: fl l) (fun x => tau d (k x)) else .unsupported "hush"
    | _, g => .yield v g (fl l) fun x => tau d (k x)
  | .stack k => .stack fun x => tau d (k x)
  | .fork c k => .fork c fun x => tau d (k x)
  | .thread k => .thread fun x => tau d (k x)
  | .await a t b l k => .await a t b (fl l) fun x => tau d (k x)

def tF : Frame → Frame
  | .ret k h g l c p _ => .ret (fun r => tau (dOf c) (k r)) h g (fl l) c p []
  | .gen g k l c p => .gen g (fun r => tau (dOf c) (k r)) (fl l) c p
def tG : GenState → GenState
  | .suspended k l c p fs cl => .suspended (fun r => tau (dOf c) (k r)) (if cl = true then mk :: fl l else fl l) c p (fs.map tF) false
  | g => g
def tS (s : Shared) : Shared := { s with gens := s.gens.map tG }
def tT (t : Thread) : Thread := ⟨tau (dOf t.code) t.cur, t.code, t.pos, t.stack.map tF⟩
/-- the model -/
def hm (M : Model) : Model := ⟨fun c => tau (dOf c) (M.den c), M.prog, M.w⟩

theorem tF_where (f : Frame) : (tF f).where_ = f.where_ := by cases f <;> rfl
theorem tF_guarded (f : Frame) : (tF f).guarded = f.guarded := by cases f <;> rfl
theorem map_where (st : List Frame) : (st.map tF).map Frame.where_ = st.map Frame.where_ := by
  rw [List.map_map]
  exact List.map_congr_left fun f _ => tF_where f
theorem any_guarded (st : List Frame) : (st.map tF).any Frame.guarded = st.any Frame.guarded := by
  rw [List.any_map]
  congr 1
  funext f
  exact tF_guarded f
theorem split_tF : ∀ st : List Frame, splitAtGen (st.map tF) = (splitAtGen st).map fun q => (q.1.map tF, (q.2.1.1, (fun r => tau (dOf q.2.1.2.2.1) (q.2.1.2.1 r)), q.2.1.2.2.1, q.2.1.2.2.2), q.2.2.map tF)
  | [] => rfl
  | .gen g k l c p :: rest => rfl
  | .ret k h g l c p kp :: rest => by
    show (splitAtGen (rest.map tF)).map _ = Option.map _ ((splitAtGen rest).map _)
    rw [split_tF rest]
    cases splitAtGen rest <;> rfl
theorem handled_go : ∀ (st : List Frame) (b : Bool), topHandled.go b (st.map tF) = topHandled.go b st
  | [], _ => by cases ‹Bool› <;> rfl
  | .gen g k l c p :: rest, b => by
    have e := handled_go rest false
    cases b <;> exact e
  | .ret k h g l c p kp :: rest, b => by
    have e1 := handled_go rest true
    have e2 := handled_go rest false
    cases b with
    | true => exact e1
    | false =>
      cases h with
      | none => exact e2
      | some x =>
        show (if (x == byPass) = true then topHandled.go true (rest.map tF) else some x) = if (x == byPass) = true then topHandled.go true rest else some x
        rw [e1]
theorem handled_tF (st : List Frame) : topHandled (st.map tF) = topHandled st := handled_go st false
theorem own_tF (st : List Frame) : topHandled (ownFrames (st.map tF)) = topHandled (ownFrames st) := by
  unfold ownFrames
  rw [split_tF]
  cases splitAtGen st with
  | none => exact handled_tF st
  | some q => exact handled_tF q.1
theorem seen_tG (x : GenState) : (tG x).seen = x.seen := by
  cases x with
  | suspended k l c p fs cl =>
    show (GenStatus.suspended, some ((c, p) :: (fs.map tF).map Frame.where_)) = (GenStatus.suspended, some ((c, p) :: fs.map Frame.where_))
    rw [map_where]
  | _ => rfl
theorem tS_get (s : Shared) (g : Nat) : (tS s).gens[g]? = (s.gens[g]?).map tG := by
  show (s.gens.map tG)[g]? = _
  rw [Array.getElem?_map]
theorem tS_set (s : Shared) (g : Nat) (x : GenState) : (tS s).setGen g (tG x) = tS (s.setGen g x) := by
  show ({ s with gens := (s.gens.map tG).setIfInBounds g (tG x) } : Shared) = { s with gens := (s.gens.setIfInBounds g x).map tG }
  congr 1
  apply Array.ext_getElem?
  intro i
  simp only [Array.getElem?_map, Array.getElem?_setIfInBounds, Array.size_map]
  split
  · split <;> rfl
  · rfl
theorem tS_push (s : Shared) (x : GenState) : ({ tS s with gens := (tS s).gens.push (tG x) } : Shared) = tS { s with gens := s.gens.push x } := by
  show ({ s with gens := (s.gens.map tG).push (tG x) } : Shared) = { s with gens := (s.gens.push x).map tG }
  rw [Array.map_push]

/-! ### wp does not see it -/
theorem wp_tau {α : Type} (M : Model) (Γ : Ctx) (d : Option Value) (t : Sem α) : ∀ (Q : α → Pos → Shared → Prop) (E : Value → Pos → Shared → Prop) (p : Pos) (s : Shared), wp M Γ (tau d t) Q E p s = wp M Γ t Q E p s := by
  induction t with
  | pure | raise | unsupported | finish => intro Q E p s; rfl
  | «yield» v g l k ih =>
    intro Q E p s
    unfold tau
    split
    · rw [Sem.wp_yield, Sem.wp_load]
      apply propext
      refine ⟨fun ⟨o, _, h⟩ => ?_, False.elim⟩
      split at h
      · rw [Sem.wp_yield] at h; exact h
      · exact h
    · rfl
  | load a q k ih | update a q f k ih | choose a n k ih | genState g k ih | resume g r l k ih | call c h g l k ih => intro Q E p s; simp only [tau, wp, ih]
  | rule t k ih | «at» q k ih | alloc o k ih | loadIfAlive a k ih | point l k ih | fresh k ih | ask k ih | os q l k ih | handled o k ih | newGen c k ih | stack k ih | thread k ih => intro Q E p s; simp only [tau, wp, ih]
  | register a k ih | fork c k ih | await a f d l k ih => intro Q E p s; rfl
theorem any_tau {α : Type} {M : Model} {A : Around} {d : Option Value} {t : Sem α} {Q : α → Shared → Prop} {E : Value → Shared → Prop} {s : Shared} : wpAny M A (tau d t) Q E s ↔ wpAny M A t Q E s := by
  unfold wpAny
  simp only [wp_tau]
end GT

set_option Elab.async false
set_option linter.all false
set_option maxRecDepth 100000
namespace GT
open PySem
open Sem (wp)
section
variable (den : Code → Sem Fin) (prog : Program) (w : World)
theorem pick_run {s : Shared} {t : Thread} (hm : (Config.single s t).moves w.params.profile = [.run 0]) (hr : s.heap.life.registered = []) : (Config.single s t).pick w = .ok (.run 0, .single s t) := by
  have h1 : (Config.single s t).collect? w.params = none := by
    simp only [Config.collect?, Config.single, Shared.watching, hr]; rfl
  have h2 : (Config.single s t).collectable = [] := by
    simp only [Config.collectable, Config.single, Shared.watching, hr]; rfl
  unfold Config.pick
  cases w.params.lifetimes with
  | refcount =>
    show (if ((Config.single s t).collect? w.params).isSome = true then _ else _) = _
    rw [h1, if_neg (by simp)]
    unfold Config.pickThread
    rw [hm]
  | anyTime =>
    show (match (Config.single s t).collectable with | [] => _ | as => _) = _
    rw [h2]
    show (Config.single s t).pickThread w = _
    unfold Config.pickThread
    rw [hm]
theorem moves_yield (pr : Profile) (s : Shared) (v : Value) (g : Bool) (l : List Value) (k : Resume → Sem Fin) (code : Code) (pos : Pos) (stack : List Frame) :
    (Config.single s ⟨.yield v g l k, code, pos, stack⟩).moves pr = [.run 0] := by
  simp [Config.moves, Config.single, movesFrom, Thread.moves, Thread.atomic, Thread.rests, Thread.tells]
theorem life_yield {s : Shared} {v : Value} {g : Bool} {l : List Value} {k : Resume → Sem Fin} {code : Code} {pos : Pos} {stack frames rest : List Frame} {b : Nat × (GenResult → Sem Fin) × Code × Pos} (others : List Value)
    (hsp : splitAtGen stack = some (frames, b, rest)) (hsh : closingShows s frames code g = false) (hc : s.heap.life.counting = false) :
    lifeStep den prog w others s ⟨.yield v g l k, code, pos, stack⟩ = step den prog w s ⟨.yield v g l k, code, pos, stack⟩ := by
  unfold lifeStep
  split
  · simp only [collectorTurn?, hsp, hsh, Bool.false_and, Bool.false_eq_true, if_false, Thread.atItsEnd, stepCounting, hc]
  · simp only [stepCounting, hc, Bool.false_and, Bool.false_eq_true, if_false]
theorem sstep_yield {s : Shared} {v : Value} {g : Bool} {l : List Value} {k : Resume → Sem Fin} {code : Code} {pos : Pos} {stack frames rest : List Frame} {b : Nat × (GenResult → Sem Fin) × Code × Pos} (hz : s.asleep)
    (hsp : splitAtGen stack = some (frames, b, rest)) (hsh : closingShows s frames code g = false) :
    sstep den prog w (.single s ⟨.yield v g l k, code, pos, stack⟩) = (step den prog w s ⟨.yield v g l k, code, pos, stack⟩).lift := by
  unfold sstep
  rw [pick_run w (moves_yield _ s v g l k code pos stack) hz.1]
  show Config.run den prog w (Config.single s ⟨.yield v g l k, code, pos, stack⟩) 0 = _
  have hl := fun others => life_yield den prog w (v := v) (l := l) (k := k) (pos := pos) others hsp hsh hz.2
  have e0 : (#[ThreadState.live ⟨.yield v g l k, code, pos, stack⟩] : Array ThreadState)[0]? = some (.live ⟨.yield v g l k, code, pos, stack⟩) := rfl
  have nf : Thread.finalizes ⟨.yield v g l k, code, pos, stack⟩ = false := rfl
  have ho : ∀ b : Bool, (if b = true then Config.others ⟨s, #[ThreadState.live ⟨.yield v g l k, code, pos, stack⟩], 0⟩ 0 else some []) = some [] := fun b => by rw [others_single]; cases b <;> rfl
  simp only [Config.run, Config.single, entering_same, e0, ho, hl, nf, if_true, Bool.and_false, Bool.false_and, Bool.false_eq_true, if_false]
  generalize step den prog w s ⟨.yield v g l k, code, pos, stack⟩ = z
  cases z <;> rfl
theorem leaf_calm (r : Result) (code : Code) (pos : Pos) (stack : List Frame) : Thread.calm ⟨leafOf r, code, pos, stack⟩ = true := by cases r <;> rfl
theorem leaf_end (r : Result) (code : Code) (pos : Pos) : Thread.atItsEnd ⟨leafOf r, code, pos, []⟩ = true := by cases r <;> rfl
theorem sstep_end {s : Shared} {r : Result} {code : Code} {pos : Pos} (hz : s.asleep) (hg : leftWithCleanup (forgetSuspended (w.params.lifetimes == .anyTime) s).gens = false) :
    sstep den prog w (.single s ⟨leafOf r, code, pos, []⟩) = .halt (outcomeOf r) (forgetSuspended (w.params.lifetimes == .anyTime) s) := by
  have hc := leaf_calm r code pos []
  have hl : ∀ others, lifeStep den prog w others s ⟨leafOf r, code, pos, []⟩ = .halt (outcomeOf r) (forgetSuspended (w.params.lifetimes == .anyTime) s) := fun others => by
    rw [lifeStep_calm0 den prog w others s _ hc hz, leaf_end, if_pos rfl]
    revert hg
    generalize forgetSuspended (w.params.lifetimes == .anyTime) s = F
    intro hg
    obtain ⟨heap, gens, drawn, toks, os⟩ := F
    have hg : leftWithCleanup gens = false := hg
    cases r with
    | ok f => show (if leftWithCleanup gens = true then _ else _) = _; rw [hg]; rfl
    | error e => show (if leftWithCleanup gens = true then _ else _) = _; rw [hg]; rfl
  unfold sstep
  rw [pick_run w (moves_single _ s _ hc) hz.1]
  show Config.run den prog w (Config.single s ⟨leafOf r, code, pos, []⟩) 0 = _
  have e0 : (#[ThreadState.live ⟨leafOf r, code, pos, []⟩] : Array ThreadState)[0]? = some (.live ⟨leafOf r, code, pos, []⟩) := rfl
  have nf : Thread.finalizes ⟨leafOf r, code, pos, []⟩ = false := by cases r <;> rfl
  have ho : ∀ b : Bool, (if b = true then Config.others ⟨s, #[ThreadState.live ⟨leafOf r, code, pos, []⟩], 0⟩ 0 else some []) = some [] := fun b => by rw [others_single]; cases b <;> rfl
  cases r with
  | ok f =>
    simp only [leafOf] at e0 nf ho hl
    simp only [Config.run, Config.single, leafOf, entering_same, e0, ho, hl, nf, if_true, Bool.and_false, Bool.false_and, Bool.false_eq_true, if_false]
  | error e =>
    simp only [leafOf] at e0 nf ho hl
    simp only [Config.run, Config.single, leafOf, entering_same, e0, ho, hl, nf, if_true, Bool.and_false, Bool.false_and, Bool.false_eq_true, if_false]
end
end GT

set_option Elab.async false
set_option linter.all false
set_option maxRecDepth 100000
namespace GT
open PySem
open Sem (wp)
/-- a marked sleeper at the end: its delegate is a generator still -/
def Fine (h : Heap) (x : GenState) : Prop := ∀ k l c p fs cl, x = .suspended k l c p fs cl → mk ∈ l → ∃ a, dOf c = some (.ref a) ∧ fs.any Frame.guarded = false ∧ ∀ o, h.get? a = some o → o.genNumber?.isSome = true
theorem dOf_some {c : Code} {v : Value} (h : dOf c = some v) : ∃ rest kw, c = .builtin "proto.yield_from" ⟨v :: rest, kw⟩ := by
  unfold dOf at h
  split at h
  · cases h; exact ⟨_, _, rfl⟩
  · cases h
theorem shows_not {s : Shared} {fs : List Frame} {c : Code} {a : Addr} {g : Bool} (hr : s.heap.life.registered = []) (hd : dOf c = some (.ref a)) (hf : fs.any Frame.guarded = false) (ho : ∀ o, s.heap.get? a = some o → o.genNumber?.isSome = true) :
    closingShows s fs c g = false := by
  obtain ⟨rest, kw, rfl⟩ := dOf_some hd
  have e : delegateShows s (.ref a) = false := by
    unfold delegateShows
    cases h : s.heap.get? a with
    | none => simp only [h]
    | some o =>
      obtain ⟨n, hn⟩ := Option.isSome_iff_exists.mp (ho o h)
      simp only [h, hn, hr]
      rfl
  show (fs.any Frame.guarded || (g && delegateShows s (.ref a))) = false
  rw [hf, e, Bool.and_false]
  rfl
theorem forgets {s : Shared} (all : Bool) (hr : s.heap.life.registered = []) (h : ∀ x ∈ (tS s).gens, Fine (tS s).heap x) : leftWithCleanup (forgetSuspended all s).gens = false := by
  unfold leftWithCleanup
  rw [Array.any_eq_false']
  intro x hx
  have hx : x ∈ (forgetSuspended all s).gens := hx
  simp only [forgetSuspended, Array.mem_map] at hx
  obtain ⟨y, hy, rfl⟩ := hx
  have hF := h (tG y) (by show tG y ∈ s.gens.map tG; exact Array.mem_map_of_mem hy)
  cases y with
  | suspended k l c p fs cl =>
    cases cl with
    | false => simp
    | true =>
      obtain ⟨a, hd, hf, ho⟩ := hF _ _ _ _ _ _ rfl (by simp)
      have e := shows_not (g := true) hr hd (by rw [any_guarded] at hf; exact hf) ho
      simp [e]
  | _ => simp
def Ok (M : Model) (r : Result) (s : Shared) (t : Thread) (l' : Shared) : Prop :=
  ∃ m s'', schedN M.den M.prog M.w m (.single s t) = .halted (outcomeOf r) s'' ∧ s''.heap = l'.heap ∧ s''.os = l'.os
section
variable {M : Model} {r : Result}
theorem ok_go {s s1 l' : Shared} {t t1 : Thread} (e : sstep M.den M.prog M.w (.single s t) = .go (.single s1 t1)) (h : Ok M r s1 t1 l') : Ok M r s t l' := by
  obtain ⟨m, s'', h1, h2⟩ := h
  exact ⟨m + 1, s'', by simp only [schedN, e]; exact h1, h2⟩
theorem calm_go {s s1 : Shared} {t t1 : Thread} (hc : t.calm = true) (hz : s.asleep) (e : step M.den M.prog M.w s t = .go s1 t1) : sstep M.den M.prog M.w (.single s t) = .go (.single s1 t1) := by
  rcases sstep_single M.den M.prog M.w s t hc hz with q | q
  · rw [q, e]; rfl
  · rw [e] at q; cases q
def Sim (M : Model) (r : Result) (n : Nat) : Prop := ∀ s t l', (hm M).runN n (tS s) (tT t) = .halted (outcomeOf r) l' → s.asleep → (∀ x ∈ l'.gens, Fine l'.heap x) → Ok M r s t l'
theorem fwd {n : Nat} {s s1 l' : Shared} {t t1 : Thread} (ih : Sim M r n) (e1 : (hm M).step (tS s) (tT t) = .go (tS s1) (tT t1)) (e2 : step M.den M.prog M.w s t = .go s1 t1) (hc : t.calm = true)
    (h : (hm M).runN (n + 1) (tS s) (tT t) = .halted (outcomeOf r) l') (hz : s.asleep) (hF : ∀ x ∈ l'.gens, Fine l'.heap x) : Ok M r s t l' := by
  rw [runN_succ, e1] at h
  exact ok_go (calm_go hc hz e2) (ih s1 t1 l' h (Shared.asleep_of_life (step_life M.den M.prog M.w s s1 t t1 e2) hz) hF)
theorem no_halt {n : Nat} {s l' : Shared} {t : Thread} {o : Outcome} {z : Shared} (e1 : (hm M).step (tS s) (tT t) = .halt o z) (ho : o.ends = false) (h : (hm M).runN (n + 1) (tS s) (tT t) = .halted (outcomeOf r) l') : False := by
  rw [runN_succ, e1] at h
  injection h with h1 _
  rw [h1, outcomeOf_ends] at ho
  cases ho
end
end GT

set_option Elab.async false
set_option linter.all false
set_option maxRecDepth 100000
namespace GT
open PySem
open Sem (wp)
section
variable {M : Model} {r : Result}
theorem again_real (M : Model) (s : Shared) (c code : Code) (pos : Pos) (stack : List Frame) : ∃ st', step M.den M.prog M.w s ⟨.pure (.again c), code, pos, stack⟩ = .go s ⟨M.den c, c, pos, st'⟩ ∧ st'.map tF = stack.map tF := by
  obtain ⟨heap, gens, drawn, toks, os⟩ := s
  cases stack with
  | nil => cases code <;> cases c <;> exact ⟨_, rfl, rfl⟩
  | cons F rest => cases F <;> cases code <;> cases c <;> exact ⟨_, rfl, rfl⟩
theorem leaf_tau (d : Option Value) (r0 : Result) : tau d (leafOf r0) = leafOf r0 := by cases r0 <;> rfl
theorem not_left (s : Shared) : leftWithCleanup (tS s).gens = false := by
  unfold leftWithCleanup
  rw [Array.any_eq_false']
  intro x hx
  have hx : x ∈ s.gens.map tG := hx
  obtain ⟨y, _, rfl⟩ := Array.mem_map.mp hx
  cases y <;> simp [tG]
theorem outcome_inj {a b : Result} (h : outcomeOf a = outcomeOf b) : a = b := by
  cases a <;> cases b <;> first | (injection h with h; rw [h]) | cases h
theorem sim_leaf {n : Nat} (ih : Sim M r n) (r0 : Result) (code : Code) (pos : Pos) (stack : List Frame) (s l' : Shared) (h : (hm M).runN (n + 1) (tS s) (tT ⟨leafOf r0, code, pos, stack⟩) = .halted (outcomeOf r) l') (hz : s.asleep) (hF : ∀ x ∈ l'.gens, Fine l'.heap x) :
    Ok M r s ⟨leafOf r0, code, pos, stack⟩ l' := by
  have e : tT ⟨leafOf r0, code, pos, stack⟩ = ⟨leafOf r0, code, pos, stack.map tF⟩ := by show (⟨tau (dOf code) (leafOf r0), _, _, _⟩ : Thread) = _; rw [leaf_tau]
  cases stack with
  | nil =>
    rw [e, runN_succ] at h
    have q : (hm M).step (tS s) ⟨leafOf r0, code, pos, ([] : List Frame).map tF⟩ = .halt (outcomeOf r0) (tS s) := by
      show (hm M).step (tS s) ⟨leafOf r0, code, pos, []⟩ = _
      rw [step_leaf_nil]
      unfold finish
      rw [not_left, if_neg Bool.false_ne_true]
    rw [q] at h
    injection h with h1 h2
    obtain rfl := outcome_inj h1
    subst h2
    exact ⟨1, forgetSuspended (M.w.params.lifetimes == .anyTime) s, by simp only [schedN, sstep_end M.den M.prog M.w hz (forgets _ hz.1 hF)], rfl, rfl⟩
  | cons F rest =>
    cases F with
    | ret k hd g l c' p' kp =>
      refine fwd ih (t1 := ⟨k r0, c', p', rest⟩) (s1 := s) ?_ ?_ (leaf_calm r0 code pos _) h hz hF
      · rw [e]; exact step_leaf_ret (hm M) (tS s) code pos (rest.map tF) r0 _ _ _ _ _ _ _
      · cases r0 <;> rfl
    | gen g k l c' p' =>
      refine fwd ih (t1 := ⟨k (End.ret r0).result, c', p', rest⟩) (s1 := s.setGen g .finished) ?_ ?_ (leaf_calm r0 code pos _) h hz hF
      · rw [e, ← tS_set]; exact step_leaf_gen (hm M) (tS s) code pos (rest.map tF) r0 _ _ _ _ _
      · cases r0 <;> rfl
theorem sim_resume {n : Nat} (ih : Sim M r n) (g : Nat) (rs : Resume) (l : List Value) (k : GenResult → Sem Fin) (code : Code) (pos : Pos) (stack : List Frame) (s l' : Shared) (h : (hm M).runN (n + 1) (tS s) (tT ⟨.resume g rs l k, code, pos, stack⟩) = .halted (outcomeOf r) l') (hz : s.asleep) (hF : ∀ x ∈ l'.gens, Fine l'.heap x) :
    Ok M r s ⟨.resume g rs l k, code, pos, stack⟩ l' := by
  have hT := tS_get s g
  cases hg : s.gens[g]? with
  | none =>
    rw [hg] at hT
    obtain ⟨why, q⟩ := step_resume_none (hm M) (tS s) code pos (stack.map tF) rs (fl l) (fun x => tau (dOf code) (k x)) hT
    exact (no_halt (t := ⟨.resume g rs l k, code, pos, stack⟩) q rfl h).elim
  | some x =>
    rw [hg] at hT
    cases x with
    | fresh c =>
      cases rs with
      | throw e =>
        refine fwd ih (t1 := ⟨k (.raised e), code, pos, stack⟩) (s1 := s.setGen g .finished) ?_ (by simp only [step, hg]; rfl) rfl h hz hF
        rw [← tS_set]
        exact step_resume_throwFresh (hm M) (tS s) code pos (stack.map tF) e (fl l) (fun x => tau (dOf code) (k x)) hT
      | send v =>
        by_cases hv : v = .none
        · subst hv
          refine fwd ih (t1 := ⟨M.den c, c, pos, .gen g k l code pos :: stack⟩) (s1 := s.setGen g .running) ?_ (by simp only [step, hg]; rfl) rfl h hz hF
          rw [← tS_set]
          exact step_resume_fresh (hm M) (tS s) code pos (stack.map tF) (fl l) (fun x => tau (dOf code) (k x)) hT
        · refine fwd ih (t1 := ⟨k .justStarted, code, pos, stack⟩) (s1 := s) ?_ (by cases v <;> first | exact absurd rfl hv | (simp only [step, hg])) rfl h hz hF
          exact step_resume_justStarted (hm M) (tS s) code pos (stack.map tF) (fl l) (fun x => tau (dOf code) (k x)) hT hv
    | suspended kk lv c p fs cl =>
      refine fwd ih (t1 := ⟨kk rs, c, p, fs ++ .gen g k l code pos :: stack⟩) (s1 := s.setGen g .running) ?_ (by simp only [step, hg]; rfl) rfl h hz hF
      rw [← tS_set]
      have q := step_resume_suspended (hm M) (tS s) code pos (stack.map tF) rs (fl l) (fun x => tau (dOf code) (k x)) hT
      refine Eq.trans q ?_
      show Step.go _ ⟨tau (dOf c) (kk rs), c, p, fs.map tF ++ .gen g (fun x => tau (dOf code) (k x)) (fl l) code pos :: stack.map tF⟩ = Step.go _ ⟨tau (dOf c) (kk rs), c, p, (fs ++ .gen g k l code pos :: stack).map tF⟩
      rw [List.map_append]
      rfl
    | running =>
      refine fwd ih (t1 := ⟨k .running, code, pos, stack⟩) (s1 := s) ?_ (by simp only [step, hg]) rfl h hz hF
      exact step_resume_running (hm M) (tS s) code pos (stack.map tF) rs (fl l) (fun x => tau (dOf code) (k x)) hT
    | finished =>
      refine fwd ih (t1 := ⟨k .finished, code, pos, stack⟩) (s1 := s) ?_ (by simp only [step, hg]) rfl h hz hF
      exact step_resume_finished (hm M) (tS s) code pos (stack.map tF) rs (fl l) (fun x => tau (dOf code) (k x)) hT
/-- a yield that the real machine makes as it is -/
theorem real_yield {s : Shared} {v : Value} {g : Bool} {l : List Value} {k : Resume → Sem Fin} {code : Code} {pos : Pos} {stack fs rest : List Frame} {gn : Nat} {kg : GenResult → Sem Fin} {c' : Code} {p' : Pos} (hz : s.asleep)
    (hsp : splitAtGen stack = some (fs, (gn, kg, c', p'), rest)) (hsh : closingShows s fs code g = false) :
    sstep M.den M.prog M.w (.single s ⟨.yield v g l k, code, pos, stack⟩) = .go (.single (s.setGen gn (.suspended k l code pos fs (g || fs.any Frame.guarded))) ⟨kg (.yielded v), c', p', rest⟩) := by
  rw [sstep_yield M.den M.prog M.w hz hsp hsh]
  simp only [step, hsp]
  rfl
theorem sim_yield {n : Nat} (ihs : ∀ m, m ≤ n → Sim M r m) (v : Value) (g : Bool) (l : List Value) (k : Resume → Sem Fin) (code : Code) (pos : Pos) (stack : List Frame) (s l' : Shared) (h : (hm M).runN (n + 1) (tS s) (tT ⟨.yield v g l k, code, pos, stack⟩) = .halted (outcomeOf r) l') (hz : s.asleep) (hF : ∀ x ∈ l'.gens, Fine l'.heap x) :
    Ok M r s ⟨.yield v g l k, code, pos, stack⟩ l' := by
  -- the plain way
  have plain : (tau (dOf code) (.yield v g l k) : Sem Fin) = .yield v g (fl l) (fun x => tau (dOf code) (k x)) → Ok M r s ⟨.yield v g l k, code, pos, stack⟩ l' := fun e => by
    have eT : tT ⟨.yield v g l k, code, pos, stack⟩ = ⟨.yield v g (fl l) (fun x => tau (dOf code) (k x)), code, pos, stack.map tF⟩ := by
      show (⟨tau (dOf code) (.yield v g l k), code, pos, stack.map tF⟩ : Thread) = _
      rw [e]
    have hsp := split_tF stack
    cases hs : splitAtGen stack with
    | none =>
      rw [hs] at hsp
      obtain ⟨why, q⟩ := step_yield_none (hm M) (tS s) code pos (stack.map tF) v g (fl l) (fun x => tau (dOf code) (k x)) hsp
      exact (no_halt (t := ⟨.yield v g l k, code, pos, stack⟩) (by rw [eT]; exact q) rfl h).elim
    | some q =>
      obtain ⟨fs, ⟨gn, kg, c', p'⟩, rest⟩ := q
      rw [hs] at hsp
      cases hq : (End.susp v g (fl l) (fun x => tau (dOf code) (k x)) code pos (fs.map tF)).quiet with
      | false => exact (no_halt (t := ⟨.yield v g l k, code, pos, stack⟩) (by rw [eT]; exact step_yield_loud (hm M) (tS s) code pos (stack.map tF) v g _ _ hsp hq) rfl h).elim
      | true =>
        have hq' : (!(g || (fs.map tF).any Frame.guarded)) = true := hq
        rw [any_guarded] at hq'
        have hb : (g || fs.any Frame.guarded) = false := by cases hx : (g || fs.any Frame.guarded) <;> simp_all
        obtain ⟨hg, hfg⟩ := Bool.or_eq_false_iff.mp hb
        subst hg
        rw [runN_succ, eT, step_yield (hm M) (tS s) code pos (stack.map tF) v false _ _ hsp hq] at h
        refine ok_go (real_yield hz hs (by unfold closingShows; rw [hfg]; rfl)) (ihs n (Nat.le_refl n) (s.setGen gn (.suspended k l code pos fs (false || fs.any Frame.guarded))) ⟨kg (.yielded v), c', p', rest⟩ l' ?_ hz hF)
        rw [← tS_set]
        have e2 : (End.susp v false (fl l) (fun x => tau (dOf code) (k x)) code pos (fs.map tF)).genState = tG (.suspended k l code pos fs (false || fs.any Frame.guarded)) := by
          show GenState.suspended _ _ _ _ _ (false || (fs.map tF).any Frame.guarded) = GenState.suspended _ _ _ _ _ false
          rw [any_guarded, hfg]
          rfl
        rw [e2] at h
        exact h
  cases hd : dOf code with
  | none => exact plain (by rw [hd]; rfl)
  | some it =>
    cases g with
    | false => exact plain (by rw [hd]; cases it <;> rfl)
    | true =>
      cases it with
      | ref a =>
        have eT : tT ⟨.yield v true l k, code, pos, stack⟩ = ⟨.load a none (fun o => if o.genNumber?.isSome then .yield v false (mk :: fl l) (fun x => tau (dOf code) (k x)) else .unsupported "hush"), code, pos, stack.map tF⟩ := by
          show (⟨tau (dOf code) (.yield v true l k), code, pos, stack.map tF⟩ : Thread) = _
          rw [hd]
          rfl
        cases ho : s.heap.get? a with
        | none =>
          obtain ⟨why, q⟩ := step_load_none (hm M) (tS s) code pos (stack.map tF) (a := a) none (fun o => if o.genNumber?.isSome then .yield v false (mk :: fl l) (fun x => tau (dOf code) (k x)) else .unsupported "hush") ho
          exact (no_halt (t := ⟨.yield v true l k, code, pos, stack⟩) (by rw [eT]; exact q) rfl h).elim
        | some o =>
          rw [runN_succ, eT, step_load (hm M) (tS s) code pos (stack.map tF) (a := a) (o := o) none _ ho] at h
          dsimp only at h
          cases n with
          | zero => cases h
          | succ n =>
          rw [runN_succ] at h
          cases hgn : o.genNumber?.isSome with
          | false =>
            rw [hgn, if_neg Bool.false_ne_true, step_unsupported] at h
            injection h with h1 _
            cases r <;> cases h1
          | true =>
            rw [hgn, if_pos rfl] at h
            have hsp := split_tF stack
            cases hs : splitAtGen stack with
            | none =>
              rw [hs] at hsp
              obtain ⟨why, q⟩ := step_yield_none (hm M) (tS s) code pos (stack.map tF) v false (mk :: fl l) (fun x => tau (dOf code) (k x)) hsp
              rw [q] at h
              injection h with h1 _
              cases r <;> cases h1
            | some q =>
              obtain ⟨fs, ⟨gn, kg, c', p'⟩, rest⟩ := q
              rw [hs] at hsp
              cases hq : (End.susp v false (mk :: fl l) (fun x => tau (dOf code) (k x)) code pos (fs.map tF)).quiet with
              | false =>
                rw [step_yield_loud (hm M) (tS s) code pos (stack.map tF) v false _ _ hsp hq] at h
                injection h with h1 _
                cases r <;> cases h1
              | true =>
                have hq' : (!(false || (fs.map tF).any Frame.guarded)) = true := hq
                rw [any_guarded] at hq'
                have hfg : fs.any Frame.guarded = false := by cases hx : fs.any Frame.guarded <;> simp_all
                rw [step_yield (hm M) (tS s) code pos (stack.map tF) v false _ _ hsp hq] at h
                refine ok_go (real_yield hz hs (shows_not hz.1 hd hfg fun o2 h2 => by rw [ho] at h2; cases h2; exact hgn)) (ihs n (Nat.le_succ n) (s.setGen gn (.suspended k l code pos fs (true || fs.any Frame.guarded))) ⟨kg (.yielded v), c', p', rest⟩ l' ?_ hz hF)
                rw [← tS_set]
                have e2 : (End.susp v false (mk :: fl l) (fun x => tau (dOf code) (k x)) code pos (fs.map tF)).genState = tG (.suspended k l code pos fs (true || fs.any Frame.guarded)) := by
                  show GenState.suspended _ _ _ _ _ (false || (fs.map tF).any Frame.guarded) = GenState.suspended _ _ _ _ _ false
                  rw [any_guarded, hfg]
                  rfl
                rw [e2] at h
                exact h
      | _ => exact plain (by rw [hd]; rfl)
end
end GT

set_option Elab.async false
set_option linter.all false
set_option maxRecDepth 100000
namespace GT
open PySem
open Sem (wp)
section
variable {M : Model} {r : Result}
theorem sim_step {n : Nat} (ihs : ∀ m, m ≤ n → Sim M r m) : Sim M r (n + 1) := by
  intro s t l' h hz hF
  have ih := ihs n (Nat.le_refl n)
  obtain ⟨cur, code, pos, stack⟩ := t
  cases cur with
  | pure f =>
    cases f with
    | done f => exact sim_leaf ih (.ok f) code pos stack s l' h hz hF
    | again c =>
      cases hq : c.quiet with
      | false => exact (no_halt (t := ⟨.pure (.again c), code, pos, stack⟩) (step_again_loud (hm M) (tS s) code pos (stack.map tF) c hq) rfl h).elim
      | true =>
        obtain ⟨st', e2, e3⟩ := again_real M s c code pos stack
        refine fwd ih (t1 := ⟨M.den c, c, pos, st'⟩) (s1 := s) ?_ e2 ?_ h hz hF
        · refine Eq.trans (step_again (hm M) (tS s) code pos (stack.map tF) c hq) ?_
          show Step.go _ ⟨_, _, _, _⟩ = Step.go _ ⟨_, _, _, st'.map tF⟩
          rw [e3]
          rfl
        · rw [Thread.calm_eq, Thread.loud_again, hq]
          rfl
  | raise e => exact sim_leaf ih (.error e) code pos stack s l' h hz hF
  | unsupported z => exact (no_halt (t := ⟨.unsupported z, code, pos, stack⟩) (step_unsupported (hm M) (tS s) code pos (stack.map tF) z) rfl h).elim
  | finish e =>
    exfalso
    rw [runN_succ] at h
    have q : (hm M).step (tS s) (tT ⟨.finish e, code, pos, stack⟩) = finish (.ended e) (tS s) := step_finish (hm M) (tS s) code pos (stack.map tF) e
    rw [q] at h
    unfold finish at h
    rw [not_left, if_neg Bool.false_ne_true] at h
    injection h with h1 _
    cases r <;> cases h1
  | rule t k => exact fwd ih (t1 := ⟨k (), code, pos, stack⟩) (s1 := s) (step_rule (hm M) (tS s) code pos (stack.map tF) t _) rfl rfl h hz hF
  | «at» p' k => exact fwd ih (t1 := ⟨k (), code, p', stack⟩) (s1 := s) (step_at (hm M) (tS s) code pos (stack.map tF) p' _) rfl rfl h hz hF
  | load a part k =>
    cases ho : s.heap.get? a with
    | none =>
      obtain ⟨why, q⟩ := step_load_none (hm M) (tS s) code pos (stack.map tF) (a := a) part (fun x => tau (dOf code) (k x)) ho
      exact (no_halt (t := ⟨.load a part k, code, pos, stack⟩) q rfl h).elim
    | some o => exact fwd ih (t1 := ⟨k o, code, pos, stack⟩) (s1 := s) (step_load (hm M) (tS s) code pos (stack.map tF) (a := a) (o := o) part (fun x => tau (dOf code) (k x)) ho) (by simp only [step, ho]) rfl h hz hF
  | update a part f k =>
    by_cases ho : (s.heap.get? a).isSome = true
    · exact fwd ih (t1 := ⟨k (), code, pos, stack⟩) (s1 := { s with heap := s.heap.update a f }) (step_update (hm M) (tS s) code pos (stack.map tF) (a := a) part f (fun x => tau (dOf code) (k x)) ho) (by simp only [step, ho, if_true]) rfl h hz hF
    · obtain ⟨why, q⟩ := step_update_none (hm M) (tS s) code pos (stack.map tF) (a := a) part f (fun x => tau (dOf code) (k x)) ho
      exact (no_halt (t := ⟨.update a part f k, code, pos, stack⟩) q rfl h).elim
  | alloc o k => exact fwd ih (t1 := ⟨k s.heap.objs.size, code, pos, stack⟩) (s1 := { s with heap := s.heap.push o }) (step_alloc (hm M) (tS s) code pos (stack.map tF) o _) rfl rfl h hz hF
  | register a k => exact (no_halt (t := ⟨.register a k, code, pos, stack⟩) (step_register (hm M) (tS s) code pos (stack.map tF) a _) rfl h).elim
  | loadIfAlive a k => exact fwd ih (t1 := ⟨k (s.heap.get? a), code, pos, stack⟩) (s1 := s) (step_loadIfAlive (hm M) (tS s) code pos (stack.map tF) a _) rfl rfl h hz hF
  | point l k => exact fwd ih (t1 := ⟨k (), code, pos, stack⟩) (s1 := s) (step_point (hm M) (tS s) code pos (stack.map tF) (fl l) _) rfl rfl h hz hF
  | fresh k => exact fwd ih (t1 := ⟨k s.toks, code, pos, stack⟩) (s1 := { s with toks := s.toks + 1 }) (step_fresh (hm M) (tS s) code pos (stack.map tF) _) rfl rfl h hz hF
  | ask k => exact fwd ih (t1 := ⟨k ⟨M.prog, M.w.params⟩, code, pos, stack⟩) (s1 := s) (step_ask (hm M) (tS s) code pos (stack.map tF) _) rfl rfl h hz hF
  | choose src m k =>
    by_cases hm0 : m = 0
    · subst hm0
      obtain ⟨why, q⟩ := step_choose_zero (hm M) (tS s) code pos (stack.map tF) src (fun x => tau (dOf code) (k x))
      exact (no_halt (t := ⟨.choose src 0 k, code, pos, stack⟩) q rfl h).elim
    · exact fwd ih (t1 := ⟨k (M.w.draws src (s.drawn.get src) % m), code, pos, stack⟩) (s1 := { s with drawn := s.drawn.bump src }) (step_choose (hm M) (tS s) code pos (stack.map tF) src (fun x => tau (dOf code) (k x)) hm0) (by simp only [step, hm0, if_false]) rfl h hz hF
  | os q l k => exact fwd ih (t1 := ⟨k (Os.step s.os q).2, code, pos, stack⟩) (s1 := { s with os := (Os.step s.os q).1 }) (step_os (hm M) (tS s) code pos (stack.map tF) q (fl l) _) rfl rfl h hz hF
  | call c hd g l k =>
    obtain ⟨kp, e2⟩ : ∃ kp, step M.den M.prog M.w s ⟨.call c hd g l k, code, pos, stack⟩ = .go s ⟨M.den c, c, pos, .ret k hd g l code pos kp :: stack⟩ := ⟨_, rfl⟩
    exact fwd ih (t1 := ⟨M.den c, c, pos, .ret k hd g l code pos kp :: stack⟩) (s1 := s) (step_call (hm M) (tS s) code pos (stack.map tF) c hd g (fl l) (fun x => tau (dOf code) (k x))) e2 rfl h hz hF
  | handled own k =>
    refine fwd ih (t1 := ⟨k (topHandled (if own then ownFrames stack else stack)), code, pos, stack⟩) (s1 := s) ?_ (by cases own <;> rfl) rfl h hz hF
    refine Eq.trans (step_handled (hm M) (tS s) code pos (stack.map tF) own _) ?_
    show Step.go _ ⟨tau (dOf code) (k _), _, _, _⟩ = Step.go _ ⟨tau (dOf code) (k _), _, _, _⟩
    cases own with
    | true => rw [if_pos rfl, if_pos rfl, own_tF]
    | false => rw [if_neg Bool.false_ne_true, if_neg Bool.false_ne_true, handled_tF]
  | genState g k =>
    have hT := tS_get s g
    cases hg : s.gens[g]? with
    | none =>
      rw [hg] at hT
      obtain ⟨why, q⟩ := step_genState_none (hm M) (tS s) code pos (stack.map tF) (fun x => tau (dOf code) (k x)) hT
      exact (no_halt (t := ⟨.genState g k, code, pos, stack⟩) q rfl h).elim
    | some x =>
      rw [hg] at hT
      refine fwd ih (t1 := ⟨k x.seen, code, pos, stack⟩) (s1 := s) ?_ (by simp only [step, hg]; cases x <;> rfl) rfl h hz hF
      refine Eq.trans (step_genState (hm M) (tS s) code pos (stack.map tF) (fun x => tau (dOf code) (k x)) hT) ?_
      rw [seen_tG]
      rfl
  | newGen c k =>
    refine fwd ih (t1 := ⟨k s.gens.size, code, pos, stack⟩) (s1 := { s with gens := s.gens.push (.fresh c) }) ?_ rfl rfl h hz hF
    refine Eq.trans (step_newGen (hm M) (tS s) code pos (stack.map tF) c (fun x => tau (dOf code) (k x))) ?_
    rw [← tS_push s (.fresh c)]
    show Step.go _ ⟨tau (dOf code) (k (s.gens.map tG).size), _, _, _⟩ = Step.go _ ⟨tau (dOf code) (k s.gens.size), _, _, _⟩
    rw [Array.size_map]
    rfl
  | resume g rs l k => exact sim_resume ih g rs l k code pos stack s l' h hz hF
  | «yield» v g l k => exact sim_yield ihs v g l k code pos stack s l' h hz hF
  | stack k =>
    refine fwd ih (t1 := ⟨k ((code, pos) :: stack.map Frame.where_), code, pos, stack⟩) (s1 := s) ?_ rfl rfl h hz hF
    refine Eq.trans (step_stack (hm M) (tS s) code pos (stack.map tF) (fun x => tau (dOf code) (k x))) ?_
    rw [map_where]
    rfl
  | fork c k => exact (no_halt (t := ⟨.fork c k, code, pos, stack⟩) (step_fork (hm M) (tS s) code pos (stack.map tF) c _) rfl h).elim
  | thread k => exact fwd ih (t1 := ⟨k 0, code, pos, stack⟩) (s1 := s) (step_thread (hm M) (tS s) code pos (stack.map tF) _) rfl rfl h hz hF
  | await a f d l k => exact (no_halt (t := ⟨.await a f d l k, code, pos, stack⟩) (step_await (hm M) (tS s) code pos (stack.map tF) a f d (fl l) _) rfl h).elim
theorem sim_all : ∀ n, Sim M r n := by
  intro n
  induction n using Nat.strongRecOn with
  | ind n ih =>
    cases n with
    | zero => intro s t l' h; cases h
    | succ n => exact sim_step fun m hm => ih m (Nat.lt_succ_of_le hm)
end
end GT

set_option Elab.async false
set_option linter.all false
set_option maxRecDepth 100000
namespace GT
open PySem
open Sem (wp)
/-- asleep, and never woken: only its place is seen -/
def Pois (x : GenState) : Prop := ∃ l c p fs, x = .suspended (fun _ => .unsupported "asleep") l c p fs false
structure GRel (K : Nat → GenState → Prop) (γ G : Array GenState) : Prop where
  size : γ.size = G.size
  there : ∀ (i : Nat) x, γ[i]? = some x → ∃ y, G[i]? = some y ∧ (y = tG x ∨ (Pois x ∧ x.seen = y.seen ∧ K i y))
def WF (γ : Array GenState) : Prop := ∀ (i : Nat) k l c p fs cl, γ[i]? = some (.suspended k l c p fs cl) → splitAtGen fs = none
structure Stay (γ γ' G G' : Array GenState) : Prop where
  size : γ.size ≤ γ'.size
  keep : ∀ (i : Nat) x, γ[i]? = some x → Pois x → γ'[i]? = some x ∧ G'[i]? = G[i]?
abbrev gw (s : Shared) (G : Array GenState) : Shared := { s with gens := G }
def tE : End → End
  | .ret r => .ret r
  | .susp v g l k c p fs => .susp v g (fl l) (fun x => tau (dOf c) (k x)) c p (fs.map tF)
def NoG : End → Prop
  | .ret _ => True
  | .susp _ _ _ _ _ _ fs => splitAtGen fs = none

theorem get_set_ne {γ : Array GenState} {g i : Nat} {x : GenState} (h : g ≠ i) : (γ.setIfInBounds g x)[i]? = γ[i]? := by
  rw [Array.getElem?_setIfInBounds, if_neg h]
theorem get_set_eq {γ : Array GenState} {g : Nat} {x y : GenState} (h : (γ.setIfInBounds g x)[g]? = some y) : y = x := by
  rw [Array.getElem?_setIfInBounds, if_pos rfl] at h
  split at h
  · exact (Option.some.inj h).symm
  · cases h
theorem GRel.set {K : Nat → GenState → Prop} {γ G : Array GenState} (h : GRel K γ G) (g : Nat) (x : GenState) : GRel K (γ.setIfInBounds g x) (G.setIfInBounds g (tG x)) where
  size := by rw [Array.size_setIfInBounds, Array.size_setIfInBounds]; exact h.size
  there := fun i z hz => by
    by_cases e : g = i
    · subst e
      obtain rfl := get_set_eq hz
      have hl : g < γ.size := by
        rw [Array.getElem?_setIfInBounds, if_pos rfl] at hz
        split at hz
        · assumption
        · cases hz
      refine ⟨tG z, ?_, .inl rfl⟩
      rw [Array.getElem?_setIfInBounds, if_pos rfl, if_pos (by rw [← h.size]; exact hl)]
    · rw [get_set_ne e] at hz ⊢
      exact h.there i z hz
theorem GRel.push {K : Nat → GenState → Prop} {γ G : Array GenState} (h : GRel K γ G) (x : GenState) : GRel K (γ.push x) (G.push (tG x)) where
  size := by rw [Array.size_push, Array.size_push, h.size]
  there := fun i z hz => by
    rw [Array.getElem?_push] at hz ⊢
    rw [← h.size]
    by_cases e : i = γ.size
    · rw [if_pos e] at hz ⊢
      cases hz
      exact ⟨_, rfl, .inl rfl⟩
    · rw [if_neg e] at hz ⊢
      exact h.there i z hz
theorem WF.set {γ : Array GenState} (h : WF γ) (g : Nat) (x : GenState) (hx : ∀ k l c p fs cl, x = .suspended k l c p fs cl → splitAtGen fs = none) : WF (γ.setIfInBounds g x) := fun i k l c p fs cl e => by
  by_cases q : g = i
  · subst q
    exact hx k l c p fs cl (get_set_eq e).symm
  · rw [get_set_ne q] at e
    exact h i k l c p fs cl e
theorem WF.push {γ : Array GenState} (h : WF γ) (c : Code) : WF (γ.push (.fresh c)) := fun i k l c p fs cl e => by
  rw [Array.getElem?_push] at e
  split at e
  · cases e
  · exact h i k l c p fs cl e
theorem Stay.refl (γ G : Array GenState) : Stay γ γ G G := ⟨Nat.le_refl _, fun _ _ h _ => ⟨h, rfl⟩⟩
theorem Stay.trans {a b c A B C : Array GenState} (h : Stay a b A B) (k : Stay b c B C) : Stay a c A C :=
  ⟨Nat.le_trans h.size k.size, fun i x e p => by
    obtain ⟨e1, e2⟩ := h.keep i x e p
    obtain ⟨e3, e4⟩ := k.keep i x e1 p
    exact ⟨e3, e4.trans e2⟩⟩
theorem Stay.set {γ G : Array GenState} (g : Nat) (x y : GenState) (h : ∀ z, γ[g]? = some z → ¬ Pois z) : Stay γ (γ.setIfInBounds g x) G (G.setIfInBounds g y) :=
  ⟨by rw [Array.size_setIfInBounds]; exact Nat.le_refl _, fun i z e p => by
    have hn : g ≠ i := fun q => h z (q ▸ e) p
    rw [get_set_ne hn, get_set_ne hn]
    exact ⟨e, rfl⟩⟩
theorem Stay.push {γ G : Array GenState} (hs : γ.size = G.size) (x y : GenState) : Stay γ (γ.push x) G (G.push y) :=
  ⟨by rw [Array.size_push]; exact Nat.le_succ _, fun i z e p => by
    have hl : i < γ.size := by
      have := Array.getElem?_eq_some_iff.mp e
      exact this.1
    rw [Array.getElem?_push, Array.getElem?_push, if_neg (Nat.ne_of_lt hl), if_neg (by rw [← hs]; exact Nat.ne_of_lt hl)]
    exact ⟨e, rfl⟩⟩
theorem marks_tF : ∀ (fs : List Frame) (x : Option Value × Option Value), marksOver (fs.map tF) x = marksOver fs x
  | [], _ => rfl
  | f :: fs, x => by
    show (tF f).marks (marksOver (fs.map tF) x) = f.marks (marksOver fs x)
    rw [marks_tF fs x]
    cases f <;> rfl
theorem over_tF (Γ : Ctx) (fs : List Frame) : Γ.over (fs.map tF) = Γ.over fs := by
  unfold Ctx.over
  rw [marks_tF, marks_tF, map_where, split_tF]
  cases splitAtGen fs with
  | none => rfl
  | some q => simp only [Option.map_some, handled_tF]
theorem no_unsupported {M : Model} {Γ : Ctx} {p : Pos} {z : String} {fs : List Frame} {s s' : Shared} {e : End} (h : Runs M Γ p (.unsupported z) fs s e s') : False := by
  generalize ht : (Sem.unsupported z : Sem Fin) = t at h
  induction h with
  | segRet _ _ ih _ => exact ih ht
  | segGen _ _ ih _ => exact ih ht
  | segSuspOut _ _ ih => exact ih ht
  | segSuspGen _ _ _ _ ih _ => exact ih ht
  | _ => cases ht
theorem genState_tE {e : End} (h : e.quiet = true) : (tE e).genState = tG e.genState := by
  cases e with
  | ret r => rfl
  | susp v g l k c p fs =>
    have hb : (g || fs.any Frame.guarded) = false := by
      have h' : (!(g || fs.any Frame.guarded)) = true := h
      cases hx : (g || fs.any Frame.guarded) <;> simp_all
    show GenState.suspended _ _ _ _ _ (g || (fs.map tF).any Frame.guarded) = GenState.suspended _ _ _ _ _ false
    rw [any_guarded, hb]
    rfl
theorem quiet_tE {e : End} (h : e.quiet = true) : (tE e).quiet = true := by
  cases e with
  | ret r => rfl
  | susp v g l k c p fs =>
    show (!(g || (fs.map tF).any Frame.guarded)) = true
    rw [any_guarded]
    exact h
theorem result_tE (e : End) : (tE e).result = e.result := by cases e <;> rfl
theorem split_ret {k : Result → Sem Fin} {h : Option Value} {g : Bool} {l : List Value} {c : Code} {p : Pos} {kp : List Value} {fs : List Frame} (e : splitAtGen (.ret k h g l c p kp :: fs) = none) : splitAtGen fs = none := by
  have e : (splitAtGen fs).map _ = none := e
  cases hs : splitAtGen fs with
  | none => rfl
  | some q => rw [hs] at e; cases e
theorem split_app : ∀ {a b : List Frame}, splitAtGen a = none → splitAtGen b = none → splitAtGen (a ++ b) = none
  | [], _, _, h => h
  | .gen .. :: _, _, h, _ => by cases h
  | .ret k hd g l c p kp :: r, b, h, hb => by
    show (splitAtGen (r ++ b)).map _ = none
    rw [split_app (split_ret h) hb]
    rfl
end GT

set_option Elab.async false
set_option linter.all false
set_option maxRecDepth 100000
namespace GT
open PySem
open Sem (wp)
def Trp (K : Nat → GenState → Prop) (M : Model) (Γ : Ctx) (p : Pos) (t : Sem Fin) (fs : List Frame) (s : Shared) (e : End) (s' : Shared) : Prop :=
  splitAtGen fs = none → WF s.gens → e.quiet = true → ∀ G, GRel K s.gens G →
    ∃ G', Runs (hm M) Γ p (tau (dOf Γ.code) t) (fs.map tF) (gw s G) (tE e) (gw s' G') ∧ GRel K s'.gens G' ∧ WF s'.gens ∧ Stay s.gens s'.gens G G' ∧ NoG e
theorem Stay.around {γ γ1 γ2 G G1 G2 : Array GenState} {g : Nat} {x y z w : GenState} (np : ∀ z, γ[g]? = some z → ¬ Pois z) (c1 : Stay (γ.setIfInBounds g x) γ1 (G.setIfInBounds g y) G1) (c2 : Stay (γ1.setIfInBounds g z) γ2 (G1.setIfInBounds g w) G2) : Stay γ γ2 G G2 where
  size := by
    have a := c1.size
    have b := c2.size
    rw [Array.size_setIfInBounds] at a b
    exact Nat.le_trans a b
  keep := fun i x e p => by
    have hn : g ≠ i := fun q => np x (q ▸ e) p
    obtain ⟨e1, e2⟩ := c1.keep i x (by rw [get_set_ne hn]; exact e) p
    obtain ⟨e3, e4⟩ := c2.keep i x (by rw [get_set_ne hn]; exact e1) p
    rw [get_set_ne hn] at e2 e4
    exact ⟨e3, e4.trans e2⟩
theorem trp {K : Nat → GenState → Prop} {M : Model} {Γ : Ctx} {p : Pos} {t : Sem Fin} {fs : List Frame} {s s' : Shared} {e : End} (h : Runs M Γ p t fs s e s') : Trp K M Γ p t fs s e s' := by
  induction h with
  | done => exact fun _ hw _ G hg => ⟨G, .done, hg, hw, .refl _ _, trivial⟩
  | raise => exact fun _ hw _ G hg => ⟨G, .raise, hg, hw, .refl _ _, trivial⟩
  | again hq _ ih =>
    intro h0 hw he G hg
    obtain ⟨G', r, z⟩ := ih h0 hw he G hg
    exact ⟨G', .again hq r, z⟩
  | rule _ ih =>
    intro h0 hw he G hg
    obtain ⟨G', r, z⟩ := ih h0 hw he G hg
    exact ⟨G', .rule r, z⟩
  | «at» _ ih =>
    intro h0 hw he G hg
    obtain ⟨G', r, z⟩ := ih h0 hw he G hg
    exact ⟨G', .at r, z⟩
  | load ho _ ih =>
    intro h0 hw he G hg
    obtain ⟨G', r, z⟩ := ih h0 hw he G hg
    exact ⟨G', .load ho r, z⟩
  | update ho _ ih =>
    intro h0 hw he G hg
    obtain ⟨G', r, z⟩ := ih h0 hw he G hg
    exact ⟨G', .update ho r, z⟩
  | loadIfAlive _ ih =>
    intro h0 hw he G hg
    obtain ⟨G', r, z⟩ := ih h0 hw he G hg
    exact ⟨G', .loadIfAlive r, z⟩
  | point _ ih =>
    intro h0 hw he G hg
    obtain ⟨G', r, z⟩ := ih h0 hw he G hg
    exact ⟨G', .point r, z⟩
  | alloc _ ih =>
    intro h0 hw he G hg
    obtain ⟨G', r, z⟩ := ih h0 hw he G hg
    exact ⟨G', .alloc r, z⟩
  | fresh _ ih =>
    intro h0 hw he G hg
    obtain ⟨G', r, z⟩ := ih h0 hw he G hg
    exact ⟨G', .fresh r, z⟩
  | ask _ ih =>
    intro h0 hw he G hg
    obtain ⟨G', r, z⟩ := ih h0 hw he G hg
    exact ⟨G', .ask r, z⟩
  | choose hn _ ih =>
    intro h0 hw he G hg
    obtain ⟨G', r, z⟩ := ih h0 hw he G hg
    exact ⟨G', .choose hn r, z⟩
  | os _ ih =>
    intro h0 hw he G hg
    obtain ⟨G', r, z⟩ := ih h0 hw he G hg
    exact ⟨G', .os r, z⟩
  | handled _ ih =>
    intro h0 hw he G hg
    obtain ⟨G', r, z⟩ := ih h0 hw he G hg
    exact ⟨G', .handled r, z⟩
  | genState hx _ ih =>
    intro h0 hw he G hg
    obtain ⟨y, hy, q⟩ := hg.there _ _ hx
    obtain ⟨G', r, z⟩ := ih h0 hw he G hg
    refine ⟨G', .genState (st := y) hy ?_, z⟩
    have e := show y.seen = _ from by
      rcases q with rfl | ⟨_, q, _⟩
      · exact seen_tG _
      · exact q.symm
    rw [e]
    exact r
  | stack _ ih =>
    intro h0 hw he G hg
    obtain ⟨G', r, z⟩ := ih h0 hw he G hg
    exact ⟨G', .stack r, z⟩
  | thread _ ih =>
    intro h0 hw he G hg
    obtain ⟨G', r, z⟩ := ih h0 hw he G hg
    exact ⟨G', .thread r, z⟩
  | @newGen Γ p k s e s' c _ ih =>
    intro h0 hw he G hg
    obtain ⟨G', r, z1, z2, z3, z4⟩ := ih h0 (hw.push c) he (G.push (.fresh c)) (hg.push (.fresh c))
    refine ⟨G', .newGen ?_, z1, z2, (Stay.push hg.size (.fresh c) (.fresh c)).trans z3, z4⟩
    rw [show (gw s G).gens.size = s.gens.size from hg.size.symm]
    exact r
  | call _ _ ih1 ih2 =>
    intro h0 hw he G hg
    obtain ⟨G1, r1, a1, b1, c1, _⟩ := ih1 rfl hw rfl G hg
    obtain ⟨G2, r2, a2, b2, c2, d2⟩ := ih2 h0 b1 he G1 a1
    exact ⟨G2, .call r1 r2, a2, b2, c1.trans c2, d2⟩
  | @callSusp Γ p c h g l k s v g₀ l₀ k₀ c₀ p₀ fs s' _ ih =>
    intro h0 hw he G hg
    have hq : (End.susp v g₀ l₀ k₀ c₀ p₀ fs).quiet = true := by
      have he' : (!(g₀ || (fs ++ [Frame.ret k h g l Γ.code p []]).any Frame.guarded)) = true := he
      show (!(g₀ || fs.any Frame.guarded)) = true
      rw [List.any_append] at he'
      cases g₀ <;> cases hx : fs.any Frame.guarded <;> simp_all
    obtain ⟨G1, r1, a1, b1, c1, d1⟩ := ih rfl hw hq G hg
    refine ⟨G1, ?_, a1, b1, c1, split_app d1 rfl⟩
    have q := Runs.callSusp (M := hm M) (Γ := Γ) (h := h) (g := g) (l := fl l) (k := fun x => tau (dOf Γ.code) (k x)) r1
    show Runs (hm M) Γ p _ [] _ (.susp v g₀ (fl l₀) _ c₀ p₀ ((fs ++ [Frame.ret k h g l Γ.code p []]).map tF)) _
    rw [List.map_append]
    exact q
  | @«yield» Γ p v g l k s =>
    intro h0 hw he G hg
    have hb : g = false := by
      have h' : (!(g || false)) = true := he
      cases g <;> simp_all
    subst hb
    refine ⟨G, ?_, hg, hw, .refl _ _, rfl⟩
    have e : (tau (dOf Γ.code) (.yield v false l k) : Sem Fin) = .yield v false (fl l) (fun x => tau (dOf Γ.code) (k x)) := by
      cases dOf Γ.code with
      | none => rfl
      | some a => cases a <;> rfl
    rw [e]
    exact .yield
  | @resumeFresh Γ p g l k s c e₁ s₁ e s' hx h1 hq h2 ih1 ih2 =>
    intro h0 hw he G hg
    obtain ⟨y, hy, q⟩ := hg.there _ _ hx
    have ey : y = .fresh c := by
      rcases q with rfl | ⟨⟨_, _, _, _, q⟩, _⟩
      · rfl
      · cases q
    subst ey
    obtain ⟨G1, r1, a1, b1, c1, d1⟩ := ih1 rfl (hw.set g .running fun _ _ _ _ _ _ z => by cases z) hq (G.setIfInBounds g .running) (hg.set g .running)
    have wf2 : WF (s₁.setGen g e₁.genState).gens := b1.set g _ fun k l c p fs cl z => by
      cases e₁ with
      | ret r => cases z
      | susp v g₀ l₀ k₀ c₀ p₀ fs₀ => cases z; exact d1
    obtain ⟨G2, r2, a2, b2, c2, d2⟩ := ih2 h0 wf2 he (G1.setIfInBounds g (tG e₁.genState)) (a1.set g e₁.genState)
    have np : ∀ z, s.gens[g]? = some z → ¬ Pois z := fun z hz ⟨_, _, _, _, p⟩ => by rw [hx] at hz; cases hz; cases p
    have np1 : ∀ z, (s.gens.setIfInBounds g .running)[g]? = some z → ¬ Pois z := fun z hz ⟨_, _, _, _, p⟩ => by rw [get_set_eq hz] at p; cases p
    refine ⟨G2, ?_, a2, b2, ?_, d2⟩
    · have t := Runs.resumeFresh (M := hm M) (Γ := Γ) (p := p) (l := fl l) (k := fun x => tau (dOf Γ.code) (k x)) (s := gw s G) (g := g) (c := c) (e₁ := tE e₁) (s₁ := gw s₁ G1) (e := tE e) (s' := gw s' G2) hy r1 (quiet_tE hq)
      rw [result_tE, genState_tE hq] at t
      exact t r2
    · exact Stay.around np c1 c2
  | @resumeSuspended Γ p g r l k s k₀ l₀ c₀ p₀ fs cl e₁ s₁ e s' hx h1 hq h2 ih1 ih2 =>
    intro h0 hw he G hg
    obtain ⟨y, hy, q⟩ := hg.there _ _ hx
    have np : ∀ z, s.gens[g]? = some z → ¬ Pois z := fun z hz ⟨_, _, _, _, pz⟩ => by
      rw [hx] at hz
      cases hz
      cases pz
      exact no_unsupported h1
    have ey : y = tG (.suspended k₀ l₀ c₀ p₀ fs cl) := by
      rcases q with q | ⟨q, _⟩
      · exact q
      · exact absurd q (np _ hx)
    subst ey
    obtain ⟨G1, r1, a1, b1, c1, d1⟩ := ih1 (hw _ _ _ _ _ _ _ hx) (hw.set g .running fun _ _ _ _ _ _ z => by cases z) hq (G.setIfInBounds g .running) (hg.set g .running)
    have wf2 : WF (s₁.setGen g e₁.genState).gens := b1.set g _ fun k l c p fs cl z => by
      cases e₁ with
      | ret r => cases z
      | susp v g₀ l₀ k₀ c₀ p₀ fs₀ => cases z; exact d1
    obtain ⟨G2, r2, a2, b2, c2, d2⟩ := ih2 h0 wf2 he (G1.setIfInBounds g (tG e₁.genState)) (a1.set g e₁.genState)
    refine ⟨G2, ?_, a2, b2, Stay.around np c1 c2, d2⟩
    have t := Runs.resumeSuspended (M := hm M) (Γ := Γ) (p := p) (r := r) (l := fl l) (k := fun x => tau (dOf Γ.code) (k x)) (s := gw s G) (g := g) (e₁ := tE e₁) (s₁ := gw s₁ G1) (e := tE e) (s' := gw s' G2) hy r1 (quiet_tE hq)
    rw [result_tE, genState_tE hq] at t
    exact t r2
  | @resumeJustStarted g v Γ p k s e s' l c hx hv _ ih =>
    intro h0 hw he G hg
    obtain ⟨y, hy, q⟩ := hg.there _ _ hx
    have ey : y = .fresh c := by
      rcases q with rfl | ⟨⟨_, _, _, _, q⟩, _⟩
      · rfl
      · cases q
    subst ey
    obtain ⟨G', r, z⟩ := ih h0 hw he G hg
    exact ⟨G', .resumeJustStarted hy hv r, z⟩
  | @resumeThrowFresh g Γ p k e s' x l s c hx _ ih =>
    intro h0 hw he G hg
    obtain ⟨y, hy, q⟩ := hg.there _ _ hx
    have ey : y = .fresh c := by
      rcases q with rfl | ⟨⟨_, _, _, _, q⟩, _⟩
      · rfl
      · cases q
    subst ey
    have np : ∀ z, s.gens[g]? = some z → ¬ Pois z := fun z hz ⟨_, _, _, _, p⟩ => by rw [hx] at hz; cases hz; cases p
    obtain ⟨G', r, z1, z2, z3, z4⟩ := ih h0 (hw.set g .finished fun _ _ _ _ _ _ z => by cases z) he (G.setIfInBounds g .finished) (hg.set g .finished)
    exact ⟨G', .resumeThrowFresh hy r, z1, z2, (Stay.set g .finished .finished np).trans z3, z4⟩
  | @resumeRunning g Γ p k s e s' r l hx _ ih =>
    intro h0 hw he G hg
    obtain ⟨y, hy, q⟩ := hg.there _ _ hx
    have ey : y = .running := by
      rcases q with rfl | ⟨⟨_, _, _, _, q⟩, _⟩
      · rfl
      · cases q
    subst ey
    obtain ⟨G', r, z⟩ := ih h0 hw he G hg
    exact ⟨G', .resumeRunning hy r, z⟩
  | @resumeFinished g Γ p k s e s' r l hx _ ih =>
    intro h0 hw he G hg
    obtain ⟨y, hy, q⟩ := hg.there _ _ hx
    have ey : y = .finished := by
      rcases q with rfl | ⟨⟨_, _, _, _, q⟩, _⟩
      · rfl
      · cases q
    subst ey
    obtain ⟨G', r, z⟩ := ih h0 hw he G hg
    exact ⟨G', .resumeFinished hy r, z⟩
  | @segRet Γ p t k h g l c₁ p₁ kp fs s r s₁ e s' _ _ ih1 ih2 =>
    intro h0 hw he G hg
    obtain ⟨G1, r1, a1, b1, c1, _⟩ := ih1 rfl hw rfl G hg
    obtain ⟨G2, r2, a2, b2, c2, d2⟩ := ih2 (split_ret h0) b1 he G1 a1
    refine ⟨G2, ?_, a2, b2, c1.trans c2, d2⟩
    have q := over_tF Γ (.ret k h g l c₁ p₁ kp :: fs)
    exact Runs.segRet (by rw [show Γ.over (.ret (fun r => tau (dOf c₁) (k r)) h g (fl l) c₁ p₁ [] :: fs.map tF) = Γ.over (.ret k h g l c₁ p₁ kp :: fs) from q]; exact r1) r2
  | segGen _ _ _ _ => intro h0; cases h0
  | @segSuspOut Γ p t F fs s v g₀ l₀ k₀ c₀ p₀ fs₀ s' hs _ ih =>
    intro h0 hw he G hg
    have hq : (End.susp v g₀ l₀ k₀ c₀ p₀ fs₀).quiet = true := by
      have he' : (!(g₀ || (fs₀ ++ F :: fs).any Frame.guarded)) = true := he
      show (!(g₀ || fs₀.any Frame.guarded)) = true
      rw [List.any_append] at he'
      cases g₀ <;> cases hx : fs₀.any Frame.guarded <;> simp_all
    obtain ⟨G1, r1, a1, b1, c1, d1⟩ := ih rfl hw hq G hg
    refine ⟨G1, ?_, a1, b1, c1, split_app d1 hs⟩
    have q := over_tF Γ (F :: fs)
    have s2 : splitAtGen (tF F :: fs.map tF) = none := by
      show splitAtGen ((F :: fs).map tF) = none
      rw [split_tF, hs]
      rfl
    show Runs (hm M) Γ p _ (tF F :: fs.map tF) _ (.susp v g₀ (fl l₀) _ c₀ p₀ ((fs₀ ++ F :: fs).map tF)) _
    rw [List.map_append]
    exact Runs.segSuspOut s2 (by rw [show Γ.over (tF F :: fs.map tF) = Γ.over (F :: fs) from q]; exact r1)
  | @segSuspGen Γ p t F fs pre g k c₁ p₁ rest s v g₀ l₀ k₀ c₀ p₀ fs₀ s₁ e s' hs _ _ _ _ _ =>
    intro h0
    rw [hs] at h0
    cases h0

theorem wakes_trp {K : Nat → GenState → Prop} {M : Model} {Γ : Ctx} {p : Pos} {g : Nat} {r : Resume} {s s' : Shared} {res : GenResult} (h : Wakes M Γ p g r s res s') (hw : WF s.gens) {G : Array GenState} (hg : GRel K s.gens G) :
    ∃ G', Wakes (hm M) Γ p g r (gw s G) res (gw s' G') ∧ GRel K s'.gens G' ∧ WF s'.gens ∧ Stay s.gens s'.gens G G' := by
  unfold Wakes at h
  cases hx : s.gens[g]? with
  | none => simp only [hx] at h
  | some x =>
    simp only [hx] at h
    obtain ⟨y, hy, q⟩ := hg.there _ _ hx
    cases x with
    | fresh c =>
      have ey : y = .fresh c := by
        rcases q with rfl | ⟨⟨_, _, _, _, q⟩, _⟩
        · rfl
        · cases q
      subst ey
      have hy' : (gw s G).gens[g]? = some (.fresh c) := hy
      have np : ∀ z, s.gens[g]? = some z → ¬ Pois z := fun z hz ⟨_, _, _, _, p⟩ => by rw [hx] at hz; cases hz; cases p
      cases r with
      | throw x =>
        obtain ⟨rfl, rfl⟩ := h
        refine ⟨G.setIfInBounds g .finished, ?_, hg.set g .finished, hw.set g .finished fun _ _ _ _ _ _ z => (by cases z), Stay.set g .finished .finished np⟩
        unfold Wakes
        rw [hy']
        exact ⟨rfl, rfl⟩
      | send v =>
        by_cases hv : v = .none
        · subst hv
          obtain ⟨e₁, s₁, h1, hq, rfl, rfl⟩ := h
          obtain ⟨G1, r1, a1, b1, c1, d1⟩ := trp (K := K) h1 rfl (hw.set g .running fun _ _ _ _ _ _ z => by cases z) hq (G.setIfInBounds g .running) (hg.set g .running)
          refine ⟨G1.setIfInBounds g (tG e₁.genState), ?_, a1.set g _, b1.set g _ fun k l c p fs cl z => ?_, Stay.around np c1 (Stay.refl _ _)⟩
          · unfold Wakes
            rw [hy']
            exact ⟨tE e₁, gw s₁ G1, r1, quiet_tE hq, (result_tE e₁).symm, by rw [genState_tE hq]; rfl⟩
          · cases e₁ with
            | ret r => cases z
            | susp v g₀ l₀ k₀ c₀ p₀ fs₀ => cases z; exact d1
        · have : res = .justStarted ∧ s' = s := by cases v <;> first | exact absurd rfl hv | exact h
          obtain ⟨rfl, rfl⟩ := this
          refine ⟨G, ?_, hg, hw, .refl _ _⟩
          unfold Wakes
          rw [hy']
          cases v <;> first | exact absurd rfl hv | exact ⟨rfl, rfl⟩
    | suspended k₀ l₀ c₀ p₀ fs cl =>
      obtain ⟨e₁, s₁, h1, hq, rfl, rfl⟩ := h
      have np : ∀ z, s.gens[g]? = some z → ¬ Pois z := fun z hz ⟨_, _, _, _, pz⟩ => by
        rw [hx] at hz
        cases hz
        cases pz
        exact no_unsupported h1
      have ey : y = tG (.suspended k₀ l₀ c₀ p₀ fs cl) := by
        rcases q with q | ⟨q, _⟩
        · exact q
        · exact absurd q (np _ hx)
      subst ey
      obtain ⟨G1, r1, a1, b1, c1, d1⟩ := trp (K := K) h1 (hw _ _ _ _ _ _ _ hx) (hw.set g .running fun _ _ _ _ _ _ z => by cases z) hq (G.setIfInBounds g .running) (hg.set g .running)
      refine ⟨G1.setIfInBounds g (tG e₁.genState), ?_, a1.set g _, b1.set g _ fun k l c p fs cl z => ?_, Stay.around np c1 (Stay.refl _ _)⟩
      · unfold Wakes
        rw [show (gw s G).gens[g]? = some (tG (.suspended k₀ l₀ c₀ p₀ fs cl)) from hy]
        exact ⟨tE e₁, gw s₁ G1, r1, quiet_tE hq, (result_tE e₁).symm, by rw [genState_tE hq]; rfl⟩
      · cases e₁ with
        | ret r => cases z
        | susp v g₀ l₀ k₀ c₀ p₀ fs₀ => cases z; exact d1
    | running =>
      obtain ⟨rfl, rfl⟩ := h
      have ey : y = .running := by
        rcases q with rfl | ⟨⟨_, _, _, _, q⟩, _⟩
        · rfl
        · cases q
      subst ey
      refine ⟨G, ?_, hg, hw, .refl _ _⟩
      unfold Wakes
      rw [show (gw s' G).gens[g]? = some .running from hy]
      exact ⟨rfl, rfl⟩
    | finished =>
      obtain ⟨rfl, rfl⟩ := h
      have ey : y = .finished := by
        rcases q with rfl | ⟨⟨_, _, _, _, q⟩, _⟩
        · rfl
        · cases q
      subst ey
      refine ⟨G, ?_, hg, hw, .refl _ _⟩
      unfold Wakes
      rw [show (gw s' G).gens[g]? = some .finished from hy]
      exact ⟨rfl, rfl⟩
/-- behind a calm run -/
def Aft (K : Nat → GenState → Prop) (γ G : Array GenState) (P : Shared → Prop) (s' : Shared) : Prop := ∃ γ', GRel K γ' s'.gens ∧ WF γ' ∧ Stay γ γ' G s'.gens ∧ P (gw s' γ')
theorem Aft.trans {K : Nat → GenState → Prop} {γ γ1 G G1 : Array GenState} {P : Shared → Prop} {s' : Shared} (h : Stay γ γ1 G G1) (a : Aft K γ1 G1 P s') : Aft K γ G P s' := by
  obtain ⟨γ', a1, a2, a3, a4⟩ := a
  exact ⟨γ', a1, a2, h.trans a3, a4⟩
theorem wp_trp {α : Type} {K : Nat → GenState → Prop} {M : Model} {Γ : Ctx} (t : Sem α) : ∀ {Q : α → Pos → Shared → Prop} {E : Value → Pos → Shared → Prop} {p : Pos} {s : Shared} (G : Array GenState), wp M Γ t Q E p s → WF s.gens → GRel K s.gens G →
    wp (hm M) Γ t (fun a p' s' => Aft K s.gens G (Q a p') s') (fun e p' s' => Aft K s.gens G (E e p') s') p (gw s G) := by
  induction t with
  | pure a => exact fun G h hw hg => ⟨_, hg, hw, .refl _ _, h⟩
  | raise e => exact fun G h hw hg => ⟨_, hg, hw, .refl _ _, h⟩
  | unsupported | finish | «yield» | fork | await | register => exact fun G h _ _ => h.elim
  | rule _ k ih | «at» _ k ih | alloc _ k ih | loadIfAlive _ k ih | point _ k ih | fresh k ih | ask k ih | os _ _ k ih | handled _ k ih | stack k ih | thread k ih => exact fun G h hw hg => ih _ G h hw hg
  | load a q k ih => exact fun G ⟨o, ho, h⟩ hw hg => ⟨o, ho, ih _ G h hw hg⟩
  | update a q f k ih | choose a n k ih => exact fun G ⟨o, h⟩ hw hg => ⟨o, ih _ G h hw hg⟩
  | newGen c k ih =>
    intro Q E p s G h hw hg
    have h' := ih _ (Q := Q) (E := E) (G.push (.fresh c)) h (hw.push c) (hg.push (.fresh c))
    show wp (hm M) Γ (k (gw s G).gens.size) _ _ p _
    rw [show (gw s G).gens.size = s.gens.size from hg.size.symm]
    exact Sem.wp_mono (hm M) Γ _ (fun a p' s' z => Aft.trans (Stay.push hg.size (.fresh c) (.fresh c)) z) (fun a p' s' z => Aft.trans (Stay.push hg.size (.fresh c) (.fresh c)) z) p _ h'
  | genState g k ih =>
    intro Q E p s G ⟨x, hx, h⟩ hw hg
    obtain ⟨y, hy, q⟩ := hg.there _ _ hx
    have e := show y.seen = x.seen from by
      rcases q with rfl | ⟨_, q, _⟩
      · exact seen_tG _
      · exact q.symm
    refine ⟨y, hy, ?_⟩
    rw [e]
    exact ih _ G h hw hg
  | call c hd g l k ih =>
    intro Q E p s G ⟨r, s1, hr, h⟩ hw hg
    obtain ⟨G1, r1, a1, b1, c1, _⟩ := trp (K := K) hr rfl hw rfl G hg
    refine ⟨r, gw s1 G1, r1, ?_⟩
    exact Sem.wp_mono (hm M) Γ _ (fun a p' s' z => Aft.trans c1 z) (fun a p' s' z => Aft.trans c1 z) p _ (ih r (Q := Q) (E := E) G1 h b1 a1)
  | resume g r l k ih =>
    intro Q E p s G ⟨res, s1, hr, h⟩ hw hg
    obtain ⟨G1, r1, a1, b1, c1⟩ := wakes_trp (K := K) hr hw hg
    refine ⟨res, gw s1 G1, r1, ?_⟩
    exact Sem.wp_mono (hm M) Γ _ (fun a p' s' z => Aft.trans c1 z) (fun a p' s' z => Aft.trans c1 z) p _ (ih res (Q := Q) (E := E) G1 h b1 a1)
end GT

set_option Elab.async false
set_option linter.all false
set_option maxRecDepth 100000
namespace GT
open PySem
open Sem (wp)
def pois : GenState → GenState
  | .suspended _ l c p fs _ => .suspended (fun _ => .unsupported "asleep") l c p fs false
  | x => x
def Sus (x : GenState) : Prop := ∃ k l c p fs cl, x = .suspended k l c p fs cl
def Wy (x : GenState) : Prop := ∀ k l c p fs cl, x = .suspended k l c p fs cl → splitAtGen fs = none
/-- a sleeper that a calm run made -/
def Plain (x : GenState) : Prop := ∀ k l c p fs cl, x = .suspended k l c p fs cl → splitAtGen fs = none ∧ cl = false ∧ mk ∉ l
structure Cal (G0 G : Array GenState) : Prop where
  size : G0.size ≤ G.size
  keep : ∀ (i : Nat) y, G0[i]? = some y → Sus y → G[i]? = some y
  new : ∀ (i : Nat) y, G[i]? = some y → G0[i]? = some y ∨ Plain y
theorem Cal.refl (G : Array GenState) : Cal G G := ⟨Nat.le_refl _, fun _ _ h _ => h, fun _ _ h => .inl h⟩
theorem Cal.trans {a b c : Array GenState} (h : Cal a b) (k : Cal b c) : Cal a c :=
  ⟨Nat.le_trans h.size k.size, fun i y e q => k.keep i y (h.keep i y e q) q, fun i y e => (k.new i y e).elim (h.new i y) .inr⟩
structure Veil (G0 : Array GenState) (K : Nat → GenState → Prop) (γ : Array GenState) (s : Shared) : Prop where
  rel : GRel K γ s.gens
  wf : WF γ
  hK : ∀ i y, K i y → Wy y ∧ (G0[i]? = some y ∨ Plain y)
  size : G0.size ≤ s.gens.size
  hid : ∀ (i : Nat) y, G0[i]? = some y → Sus y → s.gens[i]? = some y ∧ ∃ x, γ[i]? = some x ∧ Pois x
/-- behind a veil over the sleepers P holds -/
def PB (G0 : Array GenState) (P : Shared → Prop) (s : Shared) : Prop := ∃ K γ, Veil G0 K γ s ∧ P (gw s γ)
theorem fl_mk (l : List Value) : mk ∉ fl l := fun h => by
  unfold fl at h
  have := (List.mem_filter.mp h).2
  simp at this
theorem split_map {fs : List Frame} (h : splitAtGen fs = none) : splitAtGen (fs.map tF) = none := by rw [split_tF, h]; rfl
theorem map_get {G : Array GenState} {f : GenState → GenState} {i : Nat} {x : GenState} (h : (G.map f)[i]? = some x) : ∃ y, G[i]? = some y ∧ x = f y := by
  rw [Array.getElem?_map] at h
  cases hy : G[i]? with
  | none => rw [hy] at h; cases h
  | some y => rw [hy] at h; cases h; exact ⟨y, rfl, rfl⟩
theorem pb_start {s : Shared} {P : Shared → Prop} (hw : WF s.gens) (h : P (gw s (s.gens.map pois))) : PB s.gens P s := by
  refine ⟨fun i y => s.gens[i]? = some y, s.gens.map pois, ⟨⟨Array.size_map, fun i x hx => ?_⟩, fun i k l c p fs cl hx => ?_, fun i y h => ⟨fun k l c p fs cl e => hw i k l c p fs cl (e ▸ h), .inl h⟩, Nat.le_refl _, fun i y hy ⟨k, l, c, p, fs, cl, e⟩ => ⟨hy, ?_⟩⟩, h⟩
  · obtain ⟨y, hy, rfl⟩ := map_get hx
    refine ⟨y, hy, ?_⟩
    cases y with
    | suspended k l c p fs cl => exact .inr ⟨⟨_, _, _, _, rfl⟩, rfl, hy⟩
    | _ => exact .inl rfl
  · obtain ⟨y, hy, e⟩ := map_get hx
    cases y with
    | suspended k2 l2 c2 p2 fs2 cl2 => cases e; exact hw i _ _ _ _ _ _ hy
    | _ => cases e
  · subst e
    exact ⟨_, by rw [Array.getElem?_map, hy]; rfl, _, _, _, _, rfl⟩
theorem Veil.wfG {G0 : Array GenState} {K : Nat → GenState → Prop} {γ : Array GenState} {s : Shared} (v : Veil G0 K γ s) : WF s.gens := fun i k l c p fs cl h => by
  obtain ⟨x, hx⟩ : ∃ x, γ[i]? = some x := by
    have hl := (Array.getElem?_eq_some_iff.mp h).1
    rw [← v.rel.size] at hl
    exact ⟨γ[i], Array.getElem?_eq_getElem hl⟩
  obtain ⟨y, hy, q⟩ := v.rel.there i x hx
  rw [h] at hy
  cases hy
  rcases q with q | ⟨_, _, q⟩
  · cases x with
    | suspended k2 l2 c2 p2 fs2 cl2 => cases q; exact split_map (v.wf i _ _ _ _ _ _ hx)
    | _ => cases q
  · exact (v.hK i _ q).1 _ _ _ _ _ _ rfl
theorem Veil.cal {G0 : Array GenState} {K : Nat → GenState → Prop} {γ : Array GenState} {s : Shared} (v : Veil G0 K γ s) (hb : PyProof.Rows.AllBare γ) : Cal G0 s.gens := by
  refine ⟨v.size, fun i y h q => (v.hid i y h q).1, fun i y h => ?_⟩
  obtain ⟨x, hx⟩ : ∃ x, γ[i]? = some x := by
    have hl := (Array.getElem?_eq_some_iff.mp h).1
    rw [← v.rel.size] at hl
    exact ⟨γ[i], Array.getElem?_eq_getElem hl⟩
  obtain ⟨y', hy, q⟩ := v.rel.there i x hx
  rw [h] at hy
  cases hy
  rcases q with q | ⟨_, _, q⟩
  · refine .inr fun k l c p fs cl e => ?_
    cases x with
    | suspended k2 l2 c2 p2 fs2 cl2 =>
      have hcl : (!cl2) = true := hb _ (Array.mem_of_getElem? hx)
      have hcl : cl2 = false := by cases cl2 <;> simp_all
      subst hcl
      rw [q] at e
      cases e
      exact ⟨split_map (v.wf i _ _ _ _ _ _ hx), rfl, by rw [if_neg Bool.false_ne_true]; exact fl_mk _⟩
    | _ => rw [q] at e; cases e
  · exact (v.hK i _ q).2
theorem pb_older {G0 G1 : Array GenState} {P : Shared → Prop} {s : Shared} (h : Cal G0 G1) (p : PB G1 P s) : PB G0 P s := by
  obtain ⟨K, γ, v, q⟩ := p
  refine ⟨K, γ, ⟨v.rel, v.wf, fun i y hk => ⟨(v.hK i y hk).1, (v.hK i y hk).2.elim (h.new i y) .inr⟩, Nat.le_trans h.size v.size, fun i y e u => v.hid i y (h.keep i y e u) u⟩, q⟩
theorem any_veil {α : Type} {M : Model} {A : Around} {t : Sem α} {Q : α → Shared → Prop} {E : Value → Shared → Prop} {G0 : Array GenState} {s : Shared} (h : PB G0 (fun s1 => wpAny M A t Q E s1) s) :
    wpAny (hm M) A t (fun a s' => PB G0 (Q a) s') (fun e s' => PB G0 (E e) s') s := by
  obtain ⟨K, γ, v, h⟩ := h
  intro Γ p hΓ
  have hh := wp_trp (K := K) (M := M) (Γ := Γ) t (p := p) (s := gw s γ) s.gens (h Γ p hΓ) v.wf v.rel
  have key : ∀ (P : Shared → Prop) s', Aft K γ s.gens P s' → PB G0 P s' := fun P s' ⟨γ', a1, a2, a3, a4⟩ => by
    refine ⟨K, γ', ⟨a1, a2, v.hK, Nat.le_trans v.size ?_, fun i y e u => ?_⟩, a4⟩
    · rw [← a1.size, ← v.rel.size]; exact a3.size
    · obtain ⟨e1, x, e2, e3⟩ := v.hid i y e u
      obtain ⟨e4, e5⟩ := a3.keep i x e2 e3
      exact ⟨e5.trans e1, x, e4, e3⟩
  exact Sem.wp_mono (hm M) Γ t (fun a p' s' z => key _ s' z) (fun e p' s' z => key _ s' z) p s hh
theorem pb_mono {G0 : Array GenState} {P P' : Shared → Prop} {s : Shared} (h : ∀ γ, P (gw s γ) → P' (gw s γ)) : PB G0 P s → PB G0 P' s := fun ⟨K, γ, v, p⟩ => ⟨K, γ, v, h γ p⟩
end GT

set_option Elab.async false
set_option linter.all false
set_option maxRecDepth 100000
/-! Promises over the marked model: expressions and statements that reach a generator. -/
namespace GT
open PySem PySem.Spec PyProof.Rows L2
open Sem (wp)
abbrev MM (X : Cx) : Model := hm (model X.prog X.w)
theorem reg {X : Cx} {pins : List (Addr × Obj)} {σ : L2.St} {H : Hp} {s : Shared} (I : Inv X pins σ H s) {G : Array GenState} (hb : AllBare G) : Inv X pins σ H (gw s G) :=
  ⟨I.ok, I.os, hb, I.base, I.loc, I.cell, I.free, I.freeC, I.pin, I.hok, I.len⟩
theorem bare_pois (G : Array GenState) : AllBare (G.map pois) := fun y hy => by
  obtain ⟨x, _, rfl⟩ := Array.mem_map.mp hy
  cases x <;> rfl
theorem bare_nil : AllBare #[] := fun y hy => by simp at hy
structure IM (X : Cx) (pins : List (Addr × Obj)) (σ : L2.St) (H : Hp) (s : Shared) : Prop where
  inv : Inv X pins σ H (gw s #[])
  wf : WF s.gens
theorem IM.calm {X : Cx} {pins : List (Addr × Obj)} {σ : L2.St} {H : Hp} {s : Shared} (I : IM X pins σ H s) : Inv X pins σ H (gw s (s.gens.map pois)) := reg I.inv (bare_pois _)
/-- an exception behind the veil -/
abbrev XM (X : Cx) (G0 : Array GenState) (e : Value) (s' : Shared) : Prop := PB G0 (X.xe e) s'
def EM (X : Cx) (pins : List (Addr × Obj)) (σ : L2.St) (Q : VK) (G0 : Array GenState) (u : Value) (s' : Shared) : Prop := ∃ v H', IM X pins σ H' s' ∧ RelV v u ∧ Q v H' ∧ Cal G0 s'.gens
def TM (X : Cx) (pins : List (Addr × Obj)) (σ : L2.St) (Q : Bool → Hp → Prop) (G0 : Array GenState) (b : Bool) (s' : Shared) : Prop := ∃ H', IM X pins σ H' s' ∧ Q b H' ∧ Cal G0 s'.gens
def AM (X : Cx) (pins : List (Addr × Obj)) (σ : L2.St) (Q : List V → Hp → Prop) (G0 : Array GenState) (us : List Value) (s' : Shared) : Prop := ∃ vs H', IM X pins σ H' s' ∧ Vals vs us ∧ Q vs H' ∧ Cal G0 s'.gens
def FM (X : Cx) (pins : List (Addr × Obj)) (D : Ends) (G0 : Array GenState) (f : Flow) (s' : Shared) : Prop := Cal G0 s'.gens ∧ match f with
  | .next => ∃ σ' H', IM X pins σ' H' s' ∧ D.nx σ' H'
  | .brk => ∃ σ' H', IM X pins σ' H' s' ∧ D.bk σ' H'
  | .cont => ∃ σ' H', IM X pins σ' H' s' ∧ D.ct σ' H'
  | .ret u => ∃ v σ' H', IM X pins σ' H' s' ∧ RelV v u ∧ D.rt v H'
structure PEm (X : Cx) (e : Expr) (t : TE) : Prop where
  run : ∀ (pins : List (Addr × Obj)) (s : Shared) (σ : L2.St) (H : Hp) (Q : VK), IM X pins σ H s → t σ H Q → wpAny (MM X) X.A (eval e X.env) (EM X pins σ Q s.gens) (XM X s.gens) s
structure PTm (X : Cx) (e : Expr) (t : TT) : Prop where
  run : ∀ (pins : List (Addr × Obj)) (s : Shared) (σ : L2.St) (H : Hp) (Q : Bool → Hp → Prop), IM X pins σ H s → t σ H Q → wpAny (MM X) X.A (isTrue e X.env (eval e X.env)) (TM X pins σ Q s.gens) (XM X s.gens) s
structure PAm (X : Cx) (es : List Expr) (t : TA) : Prop where
  run : ∀ (pos : Pos) (pins : List (Addr × Obj)) (s : Shared) (σ : L2.St) (H : Hp) (Q : List V → Hp → Prop), IM X pins σ H s → t σ H Q → wpAny (MM X) X.A (spliced (backTo pos (starEach es X.env))) (AM X pins σ Q s.gens) (XM X s.gens) s
structure PSm (X : Cx) (st : Stmt) (t : TS) : Prop where
  run : ∀ (pins : List (Addr × Obj)) (s : Shared) (σ : L2.St) (H : Hp) (D : Ends), IM X pins σ H s → t D σ H → wpAny (MM X) X.A (exec st X.env) (FM X pins D s.gens) (XM X s.gens) s
structure PBm (X : Cx) (st : List Stmt) (t : TS) : Prop where
  run : ∀ (pins : List (Addr × Obj)) (s : Shared) (σ : L2.St) (H : Hp) (D : Ends), IM X pins σ H s → t D σ H → wpAny (MM X) X.A (execs st X.env) (FM X pins D s.gens) (XM X s.gens) s
section
variable {X : Cx}
/-- what is calm is so over the marked model -/
theorem lift {α : Type} {t : Sem α} {pins : List (Addr × Obj)} {σ : L2.St} {H : Hp} {s : Shared} {P R : α → Shared → Prop} (I : IM X pins σ H s) (h : wpAny (model X.prog X.w) X.A t P X.xe (gw s (s.gens.map pois)))
    (hP : ∀ a γ s', P a (gw s' γ) → AllBare γ ∧ (WF s'.gens → Cal s.gens s'.gens → R a s')) : wpAny (MM X) X.A t R (XM X s.gens) s :=
  wpAny_mono (any_veil (pb_start I.wf h)) (fun a s' ⟨K, γ, v, p⟩ => by
    obtain ⟨hb, z⟩ := hP a γ s' p
    exact z v.wfG (v.cal hb)) fun e s' z => z
theorem IM.of {pins : List (Addr × Obj)} {σ : L2.St} {H : Hp} {s : Shared} {γ : Array GenState} (I : Inv X pins σ H (gw s γ)) (w : WF s.gens) : IM X pins σ H s := ⟨reg (s := gw s γ) I bare_nil, w⟩
theorem e_m {e : Expr} {t : TE} (h : PE X e t) : PEm X e t := ⟨fun pins s σ H Q I ht => lift I (h.run pins _ σ H Q I.calm ht) fun u γ s' ⟨v, H', J, r, q⟩ => ⟨J.bare, fun w c => ⟨v, H', .of J w, r, q, c⟩⟩⟩
theorem t_m {e : Expr} {t : TT} (h : PT X e t) : PTm X e t := ⟨fun pins s σ H Q I ht => lift I (h.run pins _ σ H Q I.calm ht) fun u γ s' ⟨H', J, q⟩ => ⟨J.bare, fun w c => ⟨H', .of J w, q, c⟩⟩⟩
theorem a_m {es : List Expr} {t : TA} (h : PA X es t) : PAm X es t := ⟨fun pos pins s σ H Q I ht => lift I (h.run pos pins _ σ H Q I.calm ht) fun u γ s' ⟨v, H', J, r, q⟩ => ⟨J.bare, fun w c => ⟨v, H', .of J w, r, q, c⟩⟩⟩
theorem sp_fm {pins : List (Addr × Obj)} {D : Ends} {G0 γ : Array GenState} {f : Flow} {s' : Shared} (h : SP X pins D f (gw s' γ)) : AllBare γ ∧ (WF s'.gens → Cal G0 s'.gens → FM X pins D G0 f s') := by
  cases f with
  | next => obtain ⟨σ', H', J, q⟩ := h; exact ⟨J.bare, fun w c => ⟨c, σ', H', .of J w, q⟩⟩
  | brk => obtain ⟨σ', H', J, q⟩ := h; exact ⟨J.bare, fun w c => ⟨c, σ', H', .of J w, q⟩⟩
  | cont => obtain ⟨σ', H', J, q⟩ := h; exact ⟨J.bare, fun w c => ⟨c, σ', H', .of J w, q⟩⟩
  | ret u => obtain ⟨v, σ', H', J, r, q⟩ := h; exact ⟨J.bare, fun w c => ⟨c, v, σ', H', .of J w, r, q⟩⟩
theorem s_m {st : Stmt} {t : TS} (h : PS X st t) : PSm X st t := ⟨fun pins s σ H D I ht => lift I (h.run pins _ σ H D I.calm ht) fun f γ s' z => sp_fm z⟩
theorem b_m {st : List Stmt} {t : TS} (h : PSs X st t) : PBm X st t := ⟨fun pins s σ H D I ht => lift I (h.run pins _ σ H D I.calm ht) fun f γ s' z => sp_fm z⟩
/-- older sleepers -/
theorem EM.older {pins : List (Addr × Obj)} {σ : L2.St} {Q : VK} {G0 G1 : Array GenState} {u : Value} {s : Shared} (c : Cal G0 G1) (h : EM X pins σ Q G1 u s) : EM X pins σ Q G0 u s := let ⟨v, H', J, r, q, c'⟩ := h; ⟨v, H', J, r, q, c.trans c'⟩
theorem FM.older {pins : List (Addr × Obj)} {D : Ends} {G0 G1 : Array GenState} {f : Flow} {s : Shared} (c : Cal G0 G1) (h : FM X pins D G1 f s) : FM X pins D G0 f s := ⟨c.trans h.1, h.2⟩
/-- and go on -/
theorem next {α β : Type} {G1 : Array GenState} {t : Sem α} {Q Q' : α → Shared → Prop} {G0 : Array GenState} {s : Shared} (c : Cal G0 G1) (h : wpAny (MM X) X.A t Q (XM X G1) s) (hq : ∀ a s', Q a s' → Q' a s') : wpAny (MM X) X.A t Q' (XM X G0) s :=
  wpAny_mono h hq fun e s' z => pb_older c z
theorem b_cons {st : Stmt} {rest : List Stmt} {t u : TS} (a : PSm X st t) (b : PBm X rest u) : PBm X (st :: rest) (tSeq t u) := by
  refine ⟨fun pins s σ H D I ht => wpAny_execs_cons (wpAny_mono (a.run pins s σ H { D with nx := u D } I ht) (fun f s1 z => ?_) fun e s' z => z)⟩
  obtain ⟨c, z⟩ := z
  match f, z with
  | .next, ⟨σ', H', J, q⟩ => exact next (β := Unit) c (b.run pins s1 σ' H' D J q) fun f s2 y => FM.older c y
  | .ret v, z => exact ⟨c, z⟩
  | .brk, z => exact ⟨c, z⟩
  | .cont, z => exact ⟨c, z⟩
theorem s_ret {e : Expr} {te : TE} {pos : Pos} (he : PEm X e te) : PSm X (.Return (some e) pos) (tRet te) :=
  ⟨fun pins s σ H D I ht => wpAny_Return_some (wpAny_mono (he.run pins s σ H _ I ht) (fun u s1 ⟨v, H', J, r, q, c⟩ => ⟨c, v, σ, H', J, r, q⟩) fun e s' z => z)⟩
end
end GT

set_option Elab.async false
set_option linter.all false
set_option maxRecDepth 100000
namespace GT
open PySem PySem.Spec PyProof.Rows L2
open Sem (wp)
theorem code_hm {M : Model} {A : Around} {c : Code} {R : Result → Shared → Prop} {s : Shared}
    (h : wpAny (hm M) (A.under c) (M.den c) (fun fin s' => match fin with | .done f => R (.ok f) s' | .again c' => c'.quiet = true ∧ codeAny (hm M) A c' R s') (fun e s' => R (.error e) s') s) : codeAny (hm M) A c R s :=
  codeAny_of_tree (any_tau.mpr h)
section
variable {P : Program} {w : World} {A : Around} {s : Shared} {R : Result → Shared → Prop}
/-- a def's frame runs -/
theorem body_hm {bd : List Stmt} {ev : Env} (h : wpAny (hm (model P w)) (A.deeper ev) (execs bd ev) (fun f s' => R (.ok (.ret (match f with | .ret v => v | _ => .none))) s')
    (fun e s' => wpAny (hm (model P w)) (A.deeper ev) (leaving ev e) (fun _ z => R (.error e) z) (fun x z => R (.error x) z) s') s) : codeAny (hm (model P w)) A (.func bd ev) R s := by
  refine code_hm ?_
  show wpAny _ (A.deeper ev) (point >>= fun _ => (execs bd ev).onRaise (leaving ev) >>= fun f => match f with | .ret v => ret v | _ => ret .none) _ _ s
  exact wpAny_bind (wpAny_point (wpAny_bind (wpAny_onRaise (wpAny_mono h (fun f z y => by cases f <;> exact wpAny_pure y) fun _ _ y => y))))
/-- a function object is called: the arguments are bound, a frame is made, T follows -/
theorem fun_hm {fa : Addr} {args : Args} {o : Obj} {fd : FuncData} {bd : List Stmt} (room : A.depth < recursionLimit) (at_ : s.heap.get? fa = some o) (isf : o.data = .func fd) (nc : fd.scope.isCoroutine = false) (ng : fd.scope.isGenerator = false)
    (hbd : fd.body = .stmts bd) (rec_ : s.heap.CodeRec fd.code fd.qualname)
    (h : wpAny (hm (model P w)) A.in1 (bindArgs fd args) (fun bs s1 => wpAny (hm (model P w)) A.in1 (newFunctionEnv fd.scope fd.globals fd.closure bs (fd.qualname ++ ".<locals>.") (some fa) fd.code none fd.builtins)
        (fun ev s2 => s2.heap.NoLimit ∧ codeAny (hm (model P w)) A (.func bd ev) R s2) (fun x z => R (.error x) z) s1) (fun x z => R (.error x) z) s) : codeAny (hm (model P w)) A (.call (.ref fa) args) R s := by
  obtain ⟨c, oc, vs, t, hc, g1, g2, g3⟩ := rec_
  rw [hc] at h
  refine code_hm ?_
  show wpAny _ A.in1 (callAny (.ref fa) args) _ _ s
  unfold callAny
  refine wpAny_bind (wpAny_load at_ ?_)
  rw [isf]
  show wpAny _ _ (callFunction fa fd args) _ _ _
  unfold callFunction
  rw [hc, hbd, nc, ng]
  refine wpAny_bind (m := field (.ref c) 1) (wpAny_field g1 g2 g3 (wpAny_bind (wpAny_pure ?_)))
  refine wpAny_bind (wpAny_mono h (fun bs s1 h1 => ?_) fun _ _ y => y)
  refine wpAny_bind (wpAny_mono h1 (fun ev s2 h2 => ?_) fun _ _ y => y)
  exact wpAny_bind (wpAny_enterFrame h2.1 room (wpAny_pure ⟨rfl, h2.2⟩))
end
/-- a call's end, over the marked model -/
def CM (CX : CXT) (outer : List Env) (P : Program) (w : World) (H : Hp) (s : Shared) (Q : VK) (E : XK) (r : Result) (s' : Shared) : Prop :=
  match r with
  | .ok (.ret u) => Cal s.gens s'.gens ∧ WF s'.gens ∧ CE outer P w H (gw s #[]) Q u (gw s' #[])
  | .ok _ => False
  | .error e => PB s.gens (CX outer H (gw s #[]) E e) s'
/-- as FnOk, over the marked model -/
structure FnM (P : Program) (w : World) (K : PySem.W.Frag) (mg : Str → Option Value) (base : Heap) (CX : CXT) (k : Nat) (f : Addr) (fd : FuncData) (ps : List Str) (sp : Sp) : Prop where
  len : ∀ vs H Q E, sp vs H Q E → vs.length = ps.length
  go : ∀ (A : Around) (outer : List Env) (s : Shared) (H : Hp) (args : Args) (us : List Value) (vs : List V) (Q : VK) (E : XK), A.guards = some [] → Room k A → Env0 P w K mg base A outer (gw s #[]) H → WF s.gens → BindsTo s fd args (ps.zip us) → Vals vs us → sp vs H Q E →
    codeAny (hm (model P w)) A (.call (.ref f) args) (CM CX outer P w H s Q E) s
theorem FnM.mono {P : Program} {w : World} {K : PySem.W.Frag} {mg : Str → Option Value} {base : Heap} {CX : CXT} {j k : Nat} {f : Addr} {fd : FuncData} {ps : List Str} {sp : Sp} (F : FnM P w K mg base CX j f fd ps sp) (h : j ≤ k) : FnM P w K mg base CX k f fd ps sp :=
  ⟨F.len, fun A outer s H args us vs Q E hG hr => F.go A outer s H args us vs Q E hG (hr.mono h)⟩
theorem call_z {s s1 : Shared} {L : Addr} {m cm : Str → Option Value} {cs : List (Str × Addr)} (x : InCallC s L m cs cm s1) : InCallC (gw s #[]) L m cs cm (gw s1 #[]) :=
  ⟨⟨by obtain ⟨h, tk, e⟩ := x.toInCall.same; exact ⟨h, tk, by rw [e]⟩, x.toInCall.ns, x.toInCall.keep, x.toInCall.fresh⟩, x.cell, x.apart, x.above⟩
section
variable {P : Program} {w : World} {K : PySem.W.Frag} {mg : Str → Option Value} {base : Heap} {CX : CXT}
theorem fm_of {k : Nat} {f : Addr} {name qual : Str} {params : Arguments} {body : List Stmt} {scope : Scope} {dV kV doc pm cdv ct oc : Value} {an od : Option Addr} {osl : Array (Option Value)} {N ps : List Str} {sp : Sp}
    (at_ : K.lookup f = some ⟨oc, od, .func (PySem.W.fnOf name qual params body scope dV kV doc pm an cdv ct), osl⟩) (code : PySem.W.codeIn K cdv qual = true) (S : FnScope N ps scope) (len : ∀ vs H Q E, sp vs H Q E → vs.length = ps.length)
    (walk : ∀ (A : Around) (outer : List Env) (s : Shared) (H : Hp) (vs : List V) (Q : VK) (E : XK), A.guards = some [] → Room k (A.deeper (envOfC qual scope s.heap.objs.size f cdv)) → sp vs H Q E →
      ∃ t, PBm (cxOf CX P w K mg base N qual scope f cdv A outer s H E) body t ∧ t { nx := fun _ H' => Q .non H', rt := Q } (start N vs) H) :
    FnM P w K mg base CX (k + 1) f (PySem.W.fnOf name qual params body scope dV kV doc pm an cdv ct) ps sp where
  len := len
  go := fun A outer s H args us vs Q E hg room env wf binds vals said => by
    have size := len _ _ _ _ said
    have here : K.In s.heap := env.mod.kin.keeps fun b o e => (env.bs b o e).1
    have free : s.heap.NoLimit := env.mod.nolimit.keeps fun b o e => (env.bs b o e).1
    have kinds : ∀ y ∈ ps.zip us, scope.names.lookup y.1 = some .local ∨ (scope.names.lookup y.1 = some .cell ∧ ((cellsFrom (s.heap.objs.size + 1) scope.names []).lookup y.1).isSome = true) := by
      rintro ⟨n, v⟩ hy
      exact (S.par n (List.of_mem_zip hy).1).imp id fun q => ⟨q, PySem.W.cellsFrom_some _ _ _ (.inl q)⟩
    refine fun_hm room.depth (here _ _ at_) rfl S.co S.gen rfl (PySem.W.codeRec_of here code) (binds _ _ _ _ ?_)
    refine wpAny_newFunctionEnv_cells S.kind kinds fun e1 he s1 x => ?_
    subst he
    obtain ⟨t, ht, hq⟩ := walk A outer (gw s #[]) H vs Q E hg (room.deeper _) said
    obtain ⟨h1, tk, rfl, hk⟩ := x.done
    refine ⟨free.keeps hk, body_hm ?_⟩
    have J := inv_start (CX := CX) (E := E) S room.hd env size vals (call_z x)
    refine wpAny_mono (ht.run [] { s with heap := h1, toks := tk } (start N vs) H _ ⟨J, wf⟩ hq) (fun fl s' done => ?_) fun e s' y => any_veil y
    obtain ⟨cal, done⟩ := done
    match fl, done with
    | .ret u, ⟨v, _, H', J, rv, q⟩ => exact ⟨cal, J.wf, v, H', J.inv.os, J.inv.bare, J.inv.base, J.inv.hok, rv, q⟩
    | .next, ⟨_, H', J, q⟩ => exact ⟨cal, J.wf, V.non, H', J.inv.os, J.inv.bare, J.inv.base, J.inv.hok, rfl, q⟩
    | .brk, ⟨_, _, _, q⟩ => exact q.elim
    | .cont, ⟨_, _, _, q⟩ => exact q.elim
end
section
variable {X : Cx} {CX : CXT} {k : Nat} {f : Addr} {fd : FuncData} {ps : List Str} {sp : Sp} {dvs : List V} {ds : List Value} {E : XK} {e : Expr} {es : List Expr} {t : TA} {x : Str} {p pos : Pos}
theorem ld_m {E : Value → Shared → Prop} {pins : List (Addr × Obj)} {s : Shared} {σ : L2.St} {H : Hp} {u : Value} {Q : Value → Shared → Prop} (I : IM X pins σ H s) (hg : Gl X x) (hm : X.mg x = some u) (h : Q u s)
    (hd : (x == ("__debug__" : Str)) = false := by decide) : wpAny (MM X) X.A (eval (.Name x pos) X.env) Q E s :=
  Calls.Name_function_global I.inv.ok.kind hg (Calls.loadGlobal_global (by rw [I.inv.ok.glob]; exact I.inv.mod.glob.keeps I.inv.bk) hm h) hd
theorem after_m {pins : List (Addr × Obj)} {σ : L2.St} {H : Hp} {s s' : Shared} {Q : VK} {u : Value} (I : IM X pins σ H s) (c : Cal s.gens s'.gens) (wf : WF s'.gens) (h : CE X.stack X.prog X.w H (gw s #[]) Q u (gw s' #[])) : EM X pins σ Q s.gens u s' := by
  obtain ⟨v, H', J, r, q⟩ := I.inv.after h
  exact ⟨v, H', ⟨J, wf⟩, r, q, c⟩
theorem e_call (F : FnM X.prog X.w X.K X.mg X.base CX k f fd ps sp) (hG : X.A.guards = some []) (hr : Room k X.A) (hg : Gl X x) (hm : X.mg x = some (.ref f)) (hk : PySem.W.keepIn X.K (.ref f) = true) (hb : Binds X.K fd ps ds) (hd : Vals dvs ds) (hx : Passes CX X E)
    (ha : PAm X (e :: es) t) (hdb : (x == ("__debug__" : Str)) = false := by decide) (he : starEach (e :: es) X.env = (false, eval e X.env) :: starEach es X.env := by rfl) (hpl : (backTo pos (starEach es X.env)).any (·.1) = false := by rfl) :
    PEm X (.Call (.Name x p) (e :: es) [] pos) (tCall sp dvs E t) := by
  refine ⟨fun pins s σ H Q I h => wpAny_Call_Name_kw (ld_m I hg hm ?_ hdb)⟩
  refine PySem.W.callWith_K (h₀ := X.base) I.inv.ok.mod.kin hk (wpAny_mono (ha.run pos pins s σ H _ I h) (fun us s1 ⟨vs, H1, I1, r, q, c⟩ => ⟨I1.inv.kIn, ?_⟩) fun _ _ z => z) he hpl
  have r2 := r.append hd
  have hl : (us ++ ds).length = ps.length := r2.length.symm.trans (F.len _ _ _ _ q)
  refine wpAny_call (codeAny_mono (F.go X.A X.stack s1 H1 ⟨us, []⟩ (us ++ ds) (vs ++ dvs) Q E hG hr I1.inv.env0 I1.wf (hb s1 us I1.inv.kIn hl) r2 q) fun r s' hq => ?_)
  match r, hq with
  | .error e, hq => exact pb_older c (pb_mono (fun γ y => hx pins σ H1 (gw s1 #[]) e (gw s' γ) I1.inv y) hq)
  | .ok (.ret u), ⟨c2, wf, hq⟩ => exact EM.older c (after_m I1 c2 wf hq)
theorem a_nil : PAm X [] tNil := a_m pa_nil
theorem a_cons {te : TE} (ha : PEm X e te) (hr : PAm X es t) (hs : starEach (e :: es) X.env = (false, eval e X.env) :: starEach es X.env := by rfl) : PAm X (e :: es) (tCons te t) := by
  refine ⟨fun pos pins s σ H Q I h => ?_⟩
  rw [hs]
  refine Calls.spliced_cons (rest := backTo pos (starEach es X.env)) (wpAny_mono (ha.run pins s σ H _ I h) (fun u s1 ⟨y, H1, I1, r1, q1, c1⟩ => ?_) fun _ _ z => z)
  exact next (β := Unit) c1 (hr.run pos pins s1 σ H1 _ I1 q1) fun us s2 ⟨ys, H2, I2, r2, q2, c2⟩ => ⟨y :: ys, H2, I2, .cons r1 r2, q2, c1.trans c2⟩
end
end GT

set_option Elab.async false
set_option linter.all false
set_option maxRecDepth 100000
namespace GT
open PySem PySem.Spec PyProof.Rows L2
open Sem (wp)
section
variable {P : Program} {w : World} {K : PySem.W.Frag} {mg : Str → Option Value} {base : Heap} {CX : CXT}
/-- a def of the text keeps its promise over the marked model -/
theorem okM {x qual : Str} {pa : Arguments} {bd : List Stmt} {sc : Scope} {dvs : List V} {kws : List (Str × V)} {f : Addr} {fd : FuncData} {N ps : List Str} {k : Nat} {sp : Sp} (F : FunD K x qual pa bd sc dvs kws f fd) (S : FnScope N ps sc) (len : ∀ vs H Q E, sp vs H Q E → vs.length = ps.length)
    (walk : ∀ (cdv : Value) (A : Around) (outer : List Env) (s : Shared) (H : Hp) (vs : List V) (Q : VK) (E : XK), A.guards = some [] → Room k (A.deeper (envOfC qual sc s.heap.objs.size f cdv)) → sp vs H Q E →
      ∃ t, PBm (cxOf CX P w K mg base N qual sc f cdv A outer s H E) bd t ∧ t { nx := fun _ H' => Q .non H', rt := Q } (start N vs) H) : FnM P w K mg base CX (k + 1) f fd ps sp := by
  obtain ⟨oc, od, dV, kV, doc, pm, an, cdv, ct, osl, rfl, lk, hcd, _, _⟩ := F.ex
  exact fm_of lk hcd S len fun A outer s H vs Q E hg hr h => walk cdv A outer s H vs Q E hg hr h
end
section
variable {X : Cx} {a b e : Expr} {ta tb te : TE} {pos : Pos}
/-- an operation on two values that is calm -/
theorem op_m {f : Value → Value → Sem Value} {r : R2} (ho : OpR X f r) {pins : List (Addr × Obj)} {s : Shared} {σ : L2.St} {H : Hp} {x y : V} {v u : Value} {Q : VK} (I : IM X pins σ H s) (rx : RelV x v) (ry : RelV y u) (q : r x y H Q) :
    wpAny (MM X) X.A (f v u) (EM X pins σ Q s.gens) (XM X s.gens) s :=
  lift I (ho pins _ σ H x y v u Q I.calm rx ry q) fun u γ s' ⟨v, H', J, r, q⟩ => ⟨J.bare, fun w c => ⟨v, H', .of J w, r, q, c⟩⟩
theorem call_m {f : Value} {r : List V → Hp → VK → Prop} (ho : CallR X f r) {pins : List (Addr × Obj)} {s : Shared} {σ : L2.St} {H : Hp} {xs : List V} {us : List Value} {Q : VK} (I : IM X pins σ H s) (rx : Vals xs us) (q : r xs H Q) :
    wpAny (MM X) X.A (call f us) (EM X pins σ Q s.gens) (XM X s.gens) s :=
  lift I (ho pins _ σ H xs us Q I.calm rx q) fun u γ s' ⟨v, H', J, r, q⟩ => ⟨J.bare, fun w c => ⟨v, H', .of J w, r, q, c⟩⟩
theorem two_m (ha : PEm X a ta) (hb : PEm X b tb) {pins : List (Addr × Obj)} {s : Shared} {σ : L2.St} {H : Hp} {R : V → V → Hp → Prop} (I : IM X pins σ H s) (h : ta σ H fun x H1 => tb σ H1 fun y H2 => R x y H2) {Q : Value → Shared → Prop} {f : Value → Value → Sem Value}
    (hf : ∀ v u s2 x y H2, IM X pins σ H2 s2 → Cal s.gens s2.gens → RelV x v → RelV y u → R x y H2 → wpAny (MM X) X.A (f v u) Q (XM X s.gens) s2) :
    wpAny (MM X) X.A (eval a X.env) (fun v s1 => wpAny (MM X) X.A (eval b X.env) (fun u s2 => wpAny (MM X) X.A (f v u) Q (XM X s.gens) s2) (XM X s.gens) s1) (XM X s.gens) s := by
  refine wpAny_mono (ha.run pins s σ H _ I h) (fun v s1 ⟨x, H1, I1, r1, q1, c1⟩ => ?_) fun _ _ z => z
  exact next (β := Unit) c1 (hb.run pins s1 σ H1 _ I1 q1) fun u s2 ⟨y, H2, I2, r2, q2, c2⟩ => hf v u s2 x y H2 I2 (c1.trans c2) r1 r2 q2
theorem e_op {op : Operator} {r : R2} (ho : OpR X (binaryOp op) r) (ha : PEm X a ta) (hb : PEm X b tb) : PEm X (.BinOp a op b pos) (tOp r ta tb) :=
  ⟨fun pins s σ H Q I h => wpAny_BinOp (two_m ha hb I h fun v u s2 x y H2 I2 c rx ry q => next (β := Unit) c (op_m ho I2 rx ry q) fun u s3 z => z.older c)⟩
theorem e_cmp {op : CmpOp} {r : R2} (ho : OpR X (compareOp op) r) (ha : PEm X a ta) (hb : PEm X b tb) (hk : behindInMarks op b = false) : PEm X (.Compare a [op] [b] pos) (tOp r ta tb) :=
  ⟨fun pins s σ H Q I h => wpAny_Compare1 (two_m ha hb I h fun v u s2 x y H2 I2 c rx ry q => next (β := Unit) c (op_m ho I2 rx ry q) fun u s3 z => z.older c) hk⟩
theorem t_cmp {op : CmpOp} {r : R2} (ho : OpR X (compareOp op) r) (ha : PEm X a ta) (hb : PEm X b tb) (hk : behindInMarks op b = false) : PTm X (.Compare a [op] [b] pos) (tTest (tOp r ta tb)) :=
  ⟨fun pins s σ H Q I h => wpAny_isTrue_Compare1 (two_m ha hb I h fun v u s2 x y H2 I2 c rx ry q => next (β := Unit) c (op_m ho I2 rx ry q) fun u s3 ⟨z, H3, I3, r3, q3, c3⟩ => by
    obtain ⟨k, rfl, q3⟩ := q3
    cases r3
    exact wpAny_truthy_bool ⟨H3, I3, q3, c.trans c3⟩) hk⟩
theorem t_val (h : PEm X e te) (he : ∀ whole, isTrue e X.env whole = (do let v ← whole; standAt e.pos; holding [v] (truthy v)) := by intro _; rfl) : PTm X e (tB te) :=
  ⟨fun pins s σ H Q I hw => isTrue_plain (wpAny_mono (h.run pins s σ H _ I hw) (fun v s1 ⟨z, H1, I1, r1, q1, c1⟩ => by
    obtain ⟨d, rfl, q⟩ := q1
    cases r1
    exact wpAny_truthy_bool ⟨H1, I1, q, c1⟩) fun _ _ z => z) (he _)⟩
theorem t_not {tA : TT} (ha : PTm X a tA) : PTm X (.UnaryOp .Not a pos) (tNot tA) :=
  ⟨fun pins s σ H Q I h => isTrue_not (wpAny_mono (ha.run pins s σ H _ I h) (fun c s1 z => z) fun _ _ z => z)⟩
theorem s_if {c : Expr} {p q : List Stmt} {tc : TT} {t u : TS} (hc : PTm X c tc) (hp : PBm X p t) (hq : PBm X q u) : PSm X (.If c p q pos) (tIfS tc t u) := by
  refine ⟨fun pins s σ H D I h => wpAny_If (wpAny_mono (hc.run pins s σ H _ I h) (fun d s1 ⟨H1, I1, q1, c1⟩ => ?_) fun _ _ z => z)⟩
  cases d with
  | true => exact next (β := Unit) c1 (hp.run pins s1 σ H1 D I1 q1) fun f s2 z => z.older c1
  | false => exact next (β := Unit) c1 (hq.run pins s1 σ H1 D I1 q1) fun f s2 z => z.older c1
theorem s_drop (he : PEm X e te) (hs : swapsWith e none pos.line X.env = pure false := by rfl) : PSm X (.Expr e pos) (tDrop te) := by
  refine ⟨fun pins s σ H D I h => ?_⟩
  rw [exec_Expr X.env e pos I.inv.quiet hs]
  refine wpAny_bind (wpAny_standAt (wpAny_bind (wpAny_mono (he.run pins s σ H _ I h) (fun v s1 ⟨x, H1, I1, r1, q1, c1⟩ => ?_) fun _ _ z => z)))
  exact next (β := Unit) c1 (lift I1 (P := fun f s2 => f = .next ∧ Inv X pins σ H1 s2) (R := fun f s2 => FM X pins D s1.gens f s2) (wpAny_dropValue ⟨rfl, I1.calm⟩) fun f γ s' ⟨e, J⟩ => ⟨J.bare, fun w c => by subst e; exact ⟨c, σ, H1, .of J w, q1⟩⟩) fun f s2 z => z.older c1
/-- a calm store -/
theorem asg_m {tg : Expr} {g : TG} (hg : PG X tg g) {pins : List (Addr × Obj)} {s : Shared} {σ : L2.St} {H : Hp} {x : V} {u : Value} {Q : L2.St → Hp → Prop} (I : IM X pins σ H s) (r : RelV x u) (q : g x σ H Q) :
    wpAny (MM X) X.A (assign tg X.env u) (fun _ s' => ∃ σ' H', IM X pins σ' H' s' ∧ Q σ' H' ∧ Cal s.gens s'.gens) (XM X s.gens) s :=
  lift I (hg.run pins _ σ H x u Q I.calm r q) fun _ γ s' ⟨σ', H', J, q⟩ => ⟨J.bare, fun w c => ⟨σ', H', .of J w, q, c⟩⟩
theorem s_asg {tg : Expr} {g : TG} (he : PEm X e te) (hg : PG X tg g) (hs : swapsWithSole [tg] e pos.line X.env = pure false := by rfl) (hw : swappedStores [tg] e X.env = pure none := by rfl)
    (h1 : (assignEach [tg] X.env).map (·.2) = [assign tg X.env] := by rfl) : PSm X (.Assign [tg] e pos) (tAsg te g) := by
  refine ⟨fun pins s σ H D I h => wpAny_Assign_stores (wpAny_mono (he.run pins s σ H _ I h) (fun v s1 ⟨x, H1, I1, r1, q1, c1⟩ => ?_) fun _ _ z => z) hs hw⟩
  rw [h1]
  exact next (β := Unit) c1 (asg_m hg I1 r1 q1) fun _ s2 ⟨σ', H', J, q, c2⟩ => ⟨c1.trans c2, σ', H', J, q⟩
theorem s_set {i : Nat} {x : Str} {p' : Pos} (hN : X.N.Nodup) (hi : X.N[i]? = some x) (hx : Loc X.env.scope x) (he : PEm X e te) (hs : swapsWith e (some (.Name x p')) pos.line X.env = pure false := by rfl) (hf : X.fn x = true ∨ X.env.scope.names.lookup x = some .local := by first | exact .inl rfl | exact .inr rfl | assumption) :
    PSm X (.Assign [.Name x p'] e pos) (tAsg te (gName i)) := by
  refine ⟨fun pins s σ H D I h => wpAny_Assign_Name (wpAny_mono (he.run pins s σ H _ I h) (fun v s1 ⟨y, H1, I1, r1, q1, c1⟩ => ?_) fun _ _ z => z) hs⟩
  refine next (β := Unit) (Q := fun _ s2 => FM X pins D s.gens .next s2) c1 (lift I1 (P := fun _ s2 => Inv X pins (σ.set i (some y)) H1 s2) (store_ok I1.calm hN hi hx r1 (fun s2 I2 => I2) hf) fun _ γ s' J => ⟨J.bare, fun w c => ⟨c1.trans c, _, H1, .of J w, q1⟩⟩) fun _ s2 z => z
end
end GT

set_option Elab.async false
set_option linter.all false
set_option maxRecDepth 100000
/-! A generator object is asked for its next, over the marked model. -/
namespace GT
open PySem PySem.Spec PyProof.Rows L2
open Sem (wp)
/-- a generator object whose delegators are awake -/
def IsG (h : Heap) (a : Addr) (g : Nat) : Prop := ∃ o nm qn, h.get? a = some o ∧ o.cls = .type "generator" ∧ o.data = .fields #[.int g 0, nm, qn] ∧ (o.slots = #[] ∨ ∃ t, o.slots = #[some (.int 0 t)])
theorem IsG.ty {s : Shared} {a : Addr} {g : Nat} (x : IsG s.heap a g) : s.TypeIs (.ref a) "generator" := let ⟨o, _, _, ho, hc, _⟩ := x; ⟨o, ho, hc⟩
section
variable {M : Model} {A : Around} {E : Value → Shared → Prop} {s : Shared} {a : Addr} {g : Nat}
theorem number_g {Q : Nat → Shared → Prop} (hg : IsG s.heap a g) (h : Q g s) : wpAny M A (Builtin.Generator.genNumber (.ref a)) Q E s := by
  obtain ⟨o, nm, qn, ho, _, hd, hs⟩ := hg
  unfold Builtin.Generator.genNumber
  refine wpAny_bind (wpAny_load ho ?_)
  rcases hs with hs | ⟨t, hs⟩
  · rw [hs, hd]
    show wpAny M A (pure ((g : Int).toNat)) Q E s
    rw [Int.toNat_natCast]
    exact wpAny_pure h
  · rw [hs, hd]
    show wpAny M A (if (0 : Int) > 0 then _ else _) Q E s
    rw [if_neg (by decide)]
    show wpAny M A (pure ((g : Int).toNat)) Q E s
    rw [Int.toNat_natCast]
    exact wpAny_pure h
end
section
variable {P : Program} {w : World} {A : Around} {E : Value → Shared → Prop} {s : Shared} {a : Addr} {g : Nat}
theorem entry_hm {T : String} {name : Str} {id : String} {b : Builtin} {self : Value} {Q : Value → Shared → Prop} (h : Slot T name id) (hT : s.TypeIs self T) (hb : entryFor table id = some b)
    (hc : wpAny (hm (model P w)) A.in1 (b ⟨[self], []⟩) (fun fin s' => ∃ v, fin = .done (.ret v) ∧ Q v s') E s) (ha : argsOk id ⟨[self], []⟩) : wpAny (hm (model P w)) A (call (.builtin id) [self]) Q E s := by
  refine wpAny_call (code_hm ?_)
  show wpAny _ A.in1 (checkBuiltinCall id ⟨[self], []⟩ >>= fun _ => again (.builtin id ⟨[self], []⟩)) _ _ s
  refine wpAny_bind (h.check _ _ _ _ _ _ _ _ hT ha ?_)
  refine wpAny_pure ⟨plainId_quiet h.plain _, code_hm ?_⟩
  rw [Around.under_plainId h.plain _]
  show wpAny _ _ (match entryFor table id with | some b => b ⟨[self], []⟩ | none => unsupported ((withoutEnding? id "#data").getD id)) _ _ s
  rw [hb]
  refine wpAny_mono hc (fun fin z y => ?_) fun _ _ y => y
  obtain ⟨v, rfl, y⟩ := y
  exact y
/-- what comes of a waking -/
def Came (Q : Value → Shared → Prop) (N : Shared → Prop) (res : GenResult) (s' : Shared) : Prop := (∃ v, res = .yielded v ∧ Q v s') ∨ (res = .returned .none ∧ N s')
theorem special_g {Q : Option Value → Shared → Prop} {Qv : Value → Shared → Prop} {N : Shared → Prop} {gs : GenState} (hh : A.handled = none) (hl : s.heap.NoLimit) (room : A.depth < recursionLimit) (hg : IsG s.heap a g) (hgs : s.gens[g]? = some gs)
    (hst : gs.status = .fresh ∨ gs.status = .suspended) (hr : wpAny (hm (model P w)) A.in1 (resume g (.send .none)) (Came Qv N) (fun _ _ => False) s) (hv : ∀ v s', Qv v s' → Q (some v) s')
    (hn : ∀ s' e h' tk, N s' → StopX e h' → (∀ b o, s'.heap.get? b = some o → h'.get? b = some o) → s'.heap.objs.size ≤ h'.objs.size → E e { s' with heap := h', toks := tk }) : wpAny (hm (model P w)) A (callSpecial? (.ref a) "__next__") Q E s := by
  refine wpAny_callSpecial?_slot (name := Str.ofString "__next__") hg.ty slot_gen_next (entry_hm slot_gen_next hg.ty entry_gen_next ?_ (args_gen_next _))
  show wpAny _ A.in1 (Builtin.Generator.genWake (.ref a) (.send .none)) _ _ s
  unfold Builtin.Generator.genWake
  refine wpAny_bind (wpAny_holding (number_g hg (wpAny_bind (wpAny_genState hgs ?_))))
  have go : ∀ k : GenResult → Sem PySem.Fin, (∀ v, k (.yielded v) = ret v) → (k (.returned .none) = (newExc (.type "StopIteration") [] >>= fun e => (raiseNew e : Sem Unit) >>= fun _ => rule "generator.return-value" >>= fun _ => newExc (.type "StopIteration") [Value.none] >>= fun e => throw e)) →
      wpAny (hm (model P w)) A.in1 (resume g (.send .none) >>= k) (fun fin s' => ∃ v, fin = .done (.ret v) ∧ Q (some v) s') E s := fun k k1 k2 => by
    refine wpAny_bind (wpAny_mono hr (fun res s' y => ?_) fun _ _ y => y.elim)
    rcases y with ⟨v, rfl, y⟩ | ⟨rfl, y⟩
    · rw [k1]
      exact wpAny_pure ⟨v, rfl, hv v s' y⟩
    · rw [k2]
      refine wpAny_bind ?_
      simp only [newExc, newTuple]
      refine wpAny_bind (wpAny_newObj_type ?_ (by size_fits))
      refine wpAny_bind (m := firstArgMember _ _) (wpAny_of_eq (a := Value.none) (by first | rfl | (simp only [firstArgMember]; rfl)) ?_)
      refine wpAny_newObj_type ?_ (by size_fits)
      simp only [raiseNew]
      refine wpAny_bind (wpAny_bind (wpAny_handled ?_))
      rw [show A.in1.handled = none from hh]
      refine wpAny_throw ?_
      refine hn s' _ _ _ y ⟨_, _, _, rfl, Heap.get?_push_size _ rfl, rfl, rfl, ?_⟩ (fun b o hb => Heap.get?_push_of_some _ (Heap.get?_push_of_some _ hb)) (Nat.le_trans (Nat.le_of_lt (Nat.lt_succ_self _)) (Nat.le_trans (Nat.le_of_eq (Heap.size_push _ _).symm) (Nat.le_trans (Nat.le_of_lt (Nat.lt_succ_self _)) (Nat.le_of_eq (Heap.size_push _ _).symm))))
      first
        | rfl
        | (rw [Array.getElem?_append_left (by decide)]; rfl)
        | kernel_rfl
  cases gs with
  | fresh c => exact wpAny_bind (wpAny_roomToWake hl room (go _ (fun v => rfl) rfl))
  | suspended k l c p fs cl => exact wpAny_bind (wpAny_roomToWake hl room (go _ (fun v => rfl) rfl))
  | running => rcases hst with h | h <;> cases h
  | finished => rcases hst with h | h <;> cases h
/-- the iterator's turn of a loop -/
theorem next_g {Q : Option Value → Shared → Prop} {Qv : Value → Shared → Prop} {N : Shared → Prop} {gs : GenState} (hh : A.handled = none) (hl : s.heap.NoLimit) (room : A.depth < recursionLimit) (hg : IsG s.heap a g) (hgs : s.gens[g]? = some gs)
    (hst : gs.status = .fresh ∨ gs.status = .suspended) (hr : wpAny (hm (model P w)) A.in1 (resume g (.send .none)) (Came Qv N) (fun _ _ => False) s) (hv : ∀ v s', Qv v s' → Q (some v) s')
    (hn : ∀ s' h' tk, N s' → (∀ b o, s'.heap.get? b = some o → h'.get? b = some o) → s'.heap.objs.size ≤ h'.objs.size → Q none { s' with heap := h', toks := tk }) : wpAny (hm (model P w)) A (pyNext (.ref a)) Q E s := by
  unfold pyNext
  refine wpAny_bind (wpAny_attempt (special_g (Q := fun o s' => wpAny (hm (model P w)) A _ Q E s') hh hl room hg hgs hst hr (fun v s' y => ?_) fun s' e h' tk y hS hk hz => ?_))
  · exact wpAny_pure (hv v s' y)
  · obtain ⟨b, o, vs, rfl, hb, hc, _, _⟩ := hS
    refine wpAny_bind (wpAny_isInstance (T := "StopIteration") (b := true) ⟨o, hb, hc⟩ isSubtype_stop ?_)
    exact wpAny_pure (hn s' h' tk y hk hz)
theorem iter_g {Q : Value → Shared → Prop} (hg : IsG s.heap a g) (h : Q (.ref a) s) : wpAny (hm (model P w)) A (pyIter (.ref a)) Q E s := by
  refine wpAny_pyIter_slot hg.ty slot_gen_iter (entry_hm slot_gen_iter hg.ty entry_gen_iter ?_ (args_gen_iter _))
  show wpAny _ _ (ret (.ref a)) _ _ s
  exact wpAny_pure ⟨_, rfl, "generator", _, hg.ty, slot_gen_next.lookup, h⟩
end
end GT

set_option Elab.async false
set_option linter.all false
set_option maxRecDepth 100000
/-! `yield from` over a generator, in the marked model. -/
namespace GT
open PySem PySem.Spec PyProof.Rows L2
open Sem (wp)
def hush {α : Type} (d : Option Value) (v : Value) (g : Bool) (l : List Value) (k : Resume → Sem α) : Sem α :=
  match d, g with
  | some (.ref a), true => .load a none fun o => if o.genNumber?.isSome then .yield v false (mk :: fl l) k else .unsupported "hush"
  | _, g => .yield v g (fl l) k
section
variable {α β : Type} (d : Option Value)
theorem tau_yield (v : Value) (g : Bool) (l : List Value) (k : Resume → Sem α) : tau d (.yield v g l k) = hush d v g l fun x => tau d (k x) := by
  cases d with
  | none => rfl
  | some a => cases a <;> cases g <;> rfl
theorem hush_wrap (v : Value) (g : Bool) (l : List Value) (k : Resume → Sem α) (K : α → Sem β) (J : Value → Sem β) : (hush d v g l k).wrap K J id id = hush d v g l fun x => (k x).wrap K J id id := by
  unfold hush
  split
  · simp only [Sem.wrap]
    congr 1
    funext o
    split <;> rfl
  · rfl
theorem tau_wrap (m : Sem α) (K : α → Sem β) (J : Value → Sem β) : tau d (m.wrap K J id id) = (tau d m).wrap (fun x => tau d (K x)) (fun e => tau d (J e)) id id := by
  induction m with
  | «yield» v g l k ih =>
    simp only [Sem.wrap, id, tau_yield, hush_wrap, ih]
  | _ => simp only [Sem.wrap, tau, id, *]
theorem tau_bind (m : Sem α) (K : α → Sem β) : tau d (m >>= K) = (tau d m) >>= fun x => tau d (K x) := by
  rw [Sem.bind_eq_wrap', tau_wrap, Sem.bind_eq_wrap']
  rfl
end
section
variable {M : Model} {A : Around} {R : GenEnd} {Y : Protocol} {n : Nat} {s₀ s : Shared} {c : Code} {fs : List Frame} {d : Option Value}
theorem any_tau2 {M : Model} {α : Type} {A : Around} {t : Sem α} {Q : α → Shared → Prop} {E : Value → Shared → Prop} {s : Shared} (h : wpAny M A t Q E s) : wpAny M A (tau d t) Q E s := any_tau.mpr h
theorem seg_t {α : Type} {m : Sem α} {K : α → Sem PySem.Fin} (h : wpAny M (A.over c fs) m (fun x s' => Seg M A R Y n s₀ c (tau d (K x)) fs s') (fun x s' => Seg M A R Y n s₀ c (.raise x) fs s') s) :
    Seg M A R Y n s₀ c (tau d (m >>= K)) fs s := by
  rw [tau_bind]
  exact seg_bind (any_tau2 h)
theorem close_gen : typeLookup (.type "generator") "close" = pure (some (.builtin "generator.close")) := by
  rw [typeLookup_type, builtinLookup_eq_fast]
  kernel_rfl
end
/-- a generator object over which z delegators sleep -/
def IsGn (h : Heap) (a : Addr) (g : Nat) (z : Int) : Prop := ∃ o nm qn, h.get? a = some o ∧ o.cls = .type "generator" ∧ o.data = .fields #[.int g 0, nm, qn] ∧ ((z = 0 ∧ o.slots = #[]) ∨ ∃ t, o.slots = #[some (.int z t)])
theorem IsGn.isG {h : Heap} {a : Addr} {g : Nat} (x : IsGn h a g 0) : IsG h a g := by
  obtain ⟨o, nm, qn, ho, hc, hd, hs⟩ := x
  exact ⟨o, nm, qn, ho, hc, hd, hs.imp (·.2) id⟩
theorem IsG.isGn {h : Heap} {a : Addr} {g : Nat} (x : IsG h a g) : IsGn h a g 0 := by
  obtain ⟨o, nm, qn, ho, hc, hd, hs⟩ := x
  exact ⟨o, nm, qn, ho, hc, hd, hs.imp (fun q => ⟨rfl, q⟩) id⟩
/-- all but the object at a -/
structure Bt (a : Addr) (h h' : Heap) : Prop where
  size : h'.objs.size = h.objs.size
  but : ∀ c, c ≠ a → h'.get? c = h.get? c
theorem slept_g {M : Model} {A : Around} {E : Value → Shared → Prop} {s : Shared} {a : Addr} {g : Nat} {z : Int} {b : Bool} {Q : Unit → Shared → Prop} (hg : IsGn s.heap a g z)
    (h : ∀ h', IsGn h' a g (if b = true then z + 1 else z - 1) → Bt a s.heap h' → Q () { s with heap := h' }) : wpAny M A (Builtin.Generator.sleptOver (.ref a) b) Q E s := by
  obtain ⟨o, nm, qn, ho, hc, hd, hs⟩ := hg
  have key : wpAny M A (setSlotAt a 0 (some (rawInt (if b = true then z + 1 else z - 1)))) Q E s := by
    unfold setSlotAt
    rw [if_neg (by decide)]
    refine wpAny_bind (wpAny_pure (wpAny_updatePart ho (h _ ⟨_, nm, qn, Heap.get?_update_self _ ho ?_, hc, hd, .inr ?_⟩ ⟨by obtain ⟨os, lf⟩ := s.heap; simp [Heap.update], fun c hn => Heap.get?_update_other _ _ (Ne.symm hn)⟩)))
    · unfold Obj.isFreed
      split
      · rename_i e
        have q := congrArg Obj.data e
        dsimp only at q
        rw [hd] at q
        cases q
      · rfl
    · rcases hs with ⟨_, hs⟩ | ⟨t, hs⟩ <;> (refine ⟨0, ?_⟩; rw [hs]; cases b <;> rfl)
  unfold Builtin.Generator.sleptOver
  refine wpAny_bind (wpAny_load ho ?_)
  rw [hc, if_neg (by decide)]
  refine wpAny_bind (wpAny_pure ?_)
  rcases hs with ⟨rfl, hs⟩ | ⟨t, hs⟩ <;> (rw [hs]; exact key)
end GT

set_option Elab.async false
set_option linter.all false
set_option maxRecDepth 100000
set_option maxHeartbeats 1000000
namespace GT
open PySem PySem.Spec PyProof.Rows L2
open Sem (wp)
/-- the code of a `yield from` over the generator at a -/
abbrev yfC (a : Addr) : Code := .builtin "proto.yield_from" ⟨[.ref a, .bool false, .none], []⟩
theorem den0 {X : Cx} {a : Addr} : (model X.prog X.w).den (yfC a) = Builtin.«proto.yield_from» ⟨[.ref a, .bool false, .none], []⟩ := den_yf
theorem hm_den {M : Model} {c : Code} : (hm M).den c = tau (dOf c) (M.den c) := rfl
theorem dOf_yf {a : Addr} : dOf (yfC a) = some (.ref a) := rfl
theorem den_yfC {X : Cx} {a : Addr} : (hm (model X.prog X.w)).den (yfC a) = tau (some (.ref a)) (Builtin.«proto.yield_from» ⟨[.ref a, .bool false, .none], []⟩) := by
  rw [hm_den, dOf_yf, den0]
theorem tau_susp {a : Addr} (v : Value) (K : Resume → Sem PySem.Fin) : tau (some (.ref a)) (suspend v true >>= K) = (load a >>= fun o => if o.genNumber?.isSome then .yield v false [mk] (fun r => tau (some (.ref a)) (K r)) else .unsupported "hush") := rfl
theorem leaf_t (d : Option Value) (v : Value) : tau d (ret v : Sem PySem.Fin) = .pure (.done (.ret v)) := rfl
end GT

set_option Elab.async false
set_option linter.all false
set_option maxRecDepth 100000
/-! A generator's frame at its waking. -/
namespace GT
open PySem PySem.Spec PyProof.Rows L2
open Sem (wp)
/-- the heap below an address -/
def cut (h : Heap) (n : Nat) : Heap := { h with objs := h.objs.extract 0 n }
theorem cut_size {h : Heap} {n : Nat} (hn : n ≤ h.objs.size) : (cut h n).objs.size = n := by
  show (h.objs.extract 0 n).size = n
  simp only [Array.size_extract]
  omega
theorem cut_get {h : Heap} {n b : Nat} : (cut h n).get? b = if b < n then h.get? b else none := by
  unfold Heap.get? cut
  simp only [Array.getElem?_extract, Nat.zero_add, Nat.sub_zero]
  by_cases hb : b < n
  · rw [if_pos hb]
    by_cases hc : b < min n h.objs.size
    · rw [if_pos hc]
    · rw [if_neg hc]
      have : h.objs.size ≤ b := by omega
      rw [Array.getElem?_eq_none this]
  · rw [if_neg hb, if_neg (by omega)]
theorem of_cut {h : Heap} {n b : Nat} {o : Obj} (e : (cut h n).get? b = some o) : b < n ∧ h.get? b = some o := by
  rw [cut_get] at e
  split at e
  · exact ⟨‹_›, e⟩
  · cases e
theorem to_cut {h : Heap} {n b : Nat} {o : Obj} (hb : b < n) (e : h.get? b = some o) : (cut h n).get? b = some o := by
  rw [cut_get, if_pos hb]
  exact e
theorem frames_cut {h base : Heap} {n : Nat} : ∀ {l : List Env}, h.FunFrames base l → (∀ b ∈ frs l, b < n) → (cut h n).FunFrames base l
  | [], _, _ => trivial
  | e :: l, ⟨k, ⟨L, o, hf, hn, ho, hd⟩, hr⟩, hb => by
    have hm : frs (e :: l) = L :: frs l := by unfold frs; rw [List.filterMap_cons, hf]
    exact ⟨k, ⟨L, o, hf, hn, to_cut (hb L (by rw [hm]; exact List.mem_cons_self)) ho, hd⟩, frames_cut hr fun b q => hb b (by rw [hm]; exact List.mem_cons_of_mem _ q)⟩
/-- what is fixed of a generator's frame (no cells; Hg: the tree that it walks) -/
structure GX (X : Cx) (Hg : Hp) : Prop where
  mod : Mod X.K X.mg X.base
  kind : X.env.scope.kind = .function
  glob : X.env.globals = mainGlobals
  blt : X.env.builtins = builtinsNs
  noCell : ∀ x, X.env.cells.lookup x = none
  noKind : ∀ x, X.env.kindOf x ≠ some .cell ∧ X.env.kindOf x ≠ some .free
  hd : X.A.handled = none
  frames : X.A.frames = some X.stack
  stk : X.stack = X.env :: X.outer ∧ X.env.frame = some X.env.locals
  ex : X.ex = []
  pn : X.pn = []
  bsz : X.base.objs.size ≤ X.env.locals
  old : ∀ b ∈ frs X.outer, b < X.env.locals
  frf : ∀ b ∈ frs X.outer, Hg b = none
  bs : ∀ b o, X.base.get? b = some o → Hg b = none
  own : Hg X.env.locals = none
/-- the frame, told from a state on -/
def reb (X : Cx) (Hg : Hp) (s : Shared) : Cx := { X with s_0 := { gw s #[] with heap := cut s.heap X.env.locals }, H_0 := Hg }
/-- woken: what has stood still -/
structure Awake (X : Cx) (Hg : Hp) (σ : L2.St) (pins : List (Addr × Obj)) (s : Shared) : Prop where
  bs : ∀ b o, X.base.get? b = some o → s.heap.get? b = some o
  funs : s.heap.FunFrames X.base X.outer
  hok : HOk X.prog X.w Hg s.heap
  loc : ∃ m, s.heap.Ns X.env.locals m ∧ ∀ (i : Nat) (x : Str) (v : V), X.N[i]? = some x → σ[i]? = some (some v) → Vis X.env.scope x → ∃ u, RelV v u ∧ Look X.env s.heap m x u
  pin : ∀ p ∈ pins, s.heap.get? p.1 = some p.2 ∧ Hg p.1 = none ∧ p.1 ≠ X.env.locals ∧ p.1 ∉ X.fs ∧ ∀ v, p.2.data ≠ .cell v
  len : σ.length = X.N.length
  wf : WF s.gens
theorem woken_im {X : Cx} {Hg : Hp} {σ : L2.St} {pins : List (Addr × Obj)} {s : Shared} (G : GX X Hg) (a : Awake X Hg σ pins s) : IM (reb X Hg s) pins σ Hg s := by
  have hL : X.env.locals < s.heap.objs.size := let ⟨m, hn, _⟩ := a.loc; hn.lt
  have noC : ∀ x c, X.env.cells.lookup x ≠ some c := fun x c e => by rw [G.noCell x] at e; cases e
  have noA : ∀ b : Addr, b ∉ X.ex := fun b hb => by rw [G.ex] at hb; cases hb
  have bl : ∀ b o, X.base.get? b = some o → b < X.env.locals := fun b o e => Nat.lt_of_lt_of_le (Heap.lt_size e) G.bsz
  refine ⟨⟨⟨G.mod, G.kind, G.glob, G.blt, Nat.le_of_eq (cut_size (Nat.le_of_lt hL)), fun x y c h => (noC x c h).elim, fun x h => ?_, fun x c _ h => (noC x c h).elim, fun _ => G.hd, G.frames, .inr G.stk, fun b hb => (noA b hb).elim,
    fun b o e => ⟨to_cut (bl b o e) (a.bs b o e), G.bs b o e⟩, ?_, fun b o e => noA b, fun b hb => (noA b hb).elim, frames_cut a.funs G.old, G.frf⟩, rfl, bare_nil, ?_, a.loc, fun x c h => (noC x c h).elim, G.own, fun x c h => (noC x c h).elim, fun p hp => ?_, a.hok, a.len⟩, a.wf⟩
  · rcases h with h | h
    · exact ((G.noKind x).1 h).elim
    · exact ((G.noKind x).2 h).elim
  · show X.base.objs.size ≤ (cut s.heap X.env.locals).objs.size
    rw [cut_size (Nat.le_of_lt hL)]
    exact G.bsz
  · exact Un.kept fun b o e => (of_cut e).2
  · have hp : p ∈ X.pn ++ pins := hp
    rw [G.pn] at hp
    exact a.pin p hp
end GT

set_option Elab.async false
set_option linter.all false
set_option maxRecDepth 100000
/-! One run of a generator's code, to its end or its next yield. -/
namespace GT
open PySem PySem.Spec PyProof.Rows L2
open Sem (wp)
def Sg (M : Model) (A : Around) (Z : End → Shared → Prop) (c : Code) (t : Sem PySem.Fin) (fs : List Frame) (s : Shared) : Prop := ∀ Γ p, Γ.code = c → Γ.Woken A → ∃ e s', Runs M Γ p t fs s e s' ∧ Z e s'
section
variable {M : Model} {A : Around} {Z : End → Shared → Prop} {c : Code} {fs : List Frame} {s : Shared} {d : Option Value}
theorem sg_mono {t : Sem PySem.Fin} {Z' : End → Shared → Prop} (h : Sg M A Z c t fs s) (hz : ∀ e s', Z e s' → Z' e s') : Sg M A Z' c t fs s := fun Γ p e w => by
  obtain ⟨e, s', r, z⟩ := h Γ p e w
  exact ⟨e, s', r, hz e s' z⟩
theorem sg_wrap {α : Type} {m : Sem α} {K : α → Sem PySem.Fin} {J : Value → Sem PySem.Fin} {gd lv} (h : wpAny M (A.over c fs) m (fun x s' => Sg M A Z c (K x) fs s') (fun x s' => Sg M A Z c (J x) fs s') s) : Sg M A Z c (m.wrap K J gd lv) fs s := by
  rintro Γ p rfl hw
  exact runs_wrap_of_wp K J gd lv m (h (Γ.over fs) p (hw.over fs)) (fun x p' s' y => y Γ p' rfl hw) fun x p' s' y => y Γ p' rfl hw
theorem sg_bind {α : Type} {m : Sem α} {K : α → Sem PySem.Fin} (h : wpAny M (A.over c fs) m (fun x s' => Sg M A Z c (K x) fs s') (fun x s' => Sg M A Z c (.raise x) fs s') s) : Sg M A Z c (m >>= K) fs s := by
  rw [Sem.bind_eq_wrap']
  exact sg_wrap h
theorem sg_t {α : Type} {m : Sem α} {K : α → Sem PySem.Fin} (h : wpAny M (A.over c fs) m (fun x s' => Sg M A Z c (tau d (K x)) fs s') (fun x s' => Sg M A Z c (.raise x) fs s') s) : Sg M A Z c (tau d (m >>= K)) fs s := by
  rw [tau_bind]
  exact sg_bind (any_tau2 h)
theorem sg_tw {α : Type} {m : Sem α} {K : α → Sem PySem.Fin} {J : Value → Sem PySem.Fin} (h : wpAny M (A.over c fs) m (fun x s' => Sg M A Z c (tau d (K x)) fs s') (fun x s' => Sg M A Z c (tau d (J x)) fs s') s) : Sg M A Z c (tau d (m.wrap K J id id)) fs s := by
  rw [tau_wrap]
  exact sg_wrap (any_tau2 h)
theorem sg_call {c' : Code} {hd g l} {k : Result → Sem PySem.Fin} (hc : ∀ p, Sg M A Z c' (M.den c') (.ret k hd g l c p [] :: fs) s) : Sg M A Z c (.call c' hd g l k) fs s := by
  rintro Γ p rfl hw
  obtain ⟨e, s', r, z⟩ := hc p (Γ.goto c') p rfl (hw.goto c')
  exact ⟨e, s', runs_call_seg r, z⟩
theorem sg_leaf {k hd g l c₁ p₁ kp} (r : Result) (hk : Sg M A Z c₁ (k r) fs s) : Sg M A Z c (leafOf r) (.ret k hd g l c₁ p₁ kp :: fs) s := by
  rintro Γ p rfl hw
  obtain ⟨e, s', q, z⟩ := hk (Γ.goto c₁) p₁ rfl (hw.goto c₁)
  exact ⟨e, s', Runs.pop r q, z⟩
theorem sg_again {c' : Code} (hq : c'.quiet = true) (hc : Sg M A Z c' (M.den c') fs s) : Sg M A Z c (.pure (.again c')) fs s := by
  rintro Γ p rfl hw
  obtain ⟨e, s', r, z⟩ := hc (Γ.goto c') p rfl (hw.goto c')
  exact ⟨e, s', Runs.head (c₁ := c') (fun _ _ x => .again hq x) r, z⟩
theorem sg_end (r : Result) (h : Z (.ret r) s) : Sg M A Z c (leafOf r) [] s := by
  rintro Γ p rfl _
  exact ⟨.ret r, s, Runs.leaf r, h⟩
theorem sg_yield {v l} {k : Resume → Sem PySem.Fin} (hfs : splitAtGen fs = none) (h : ∀ p, Z (.susp v false l k c p fs) s) : Sg M A Z c (.yield v false l k) fs s := by
  rintro Γ p rfl _
  exact ⟨_, s, Runs.yield' fs hfs, h p⟩
end
/-- what is a generator's own: objects, and the sleepers that it delegates to -/
structure Foot where
  objs : List Addr
  gens : List Nat
/-- a sleeper whose delegate is one of these objects -/
def Kby (objs : List Addr) (h : Heap) (y : GenState) : Prop := ∀ k l c p fs cl, y = .suspended k l c p fs cl → splitAtGen fs = none ∧ cl = false ∧ (mk ∈ l → fs.any Frame.guarded = false ∧ ∃ a o, dOf c = some (.ref a) ∧ a ∈ objs ∧ h.get? a = some o ∧ o.genNumber?.isSome = true)
theorem Kby.mono {A B : List Addr} {h h' : Heap} {y : GenState} (k : Kby A h y) (m : ∀ a ∈ A, a ∈ B ∧ ∀ o, h.get? a = some o → o.genNumber?.isSome = true → ∃ o', h'.get? a = some o' ∧ o'.genNumber?.isSome = true) : Kby B h' y := fun k' l c p fs cl e => by
  obtain ⟨h1, h2, h3⟩ := k k' l c p fs cl e
  refine ⟨h1, h2, fun q => ?_⟩
  obtain ⟨g, a, o, e1, e2, e3, e4⟩ := h3 q
  obtain ⟨m1, m2⟩ := m a e2
  obtain ⟨o', e5, e6⟩ := m2 o e3 e4
  exact ⟨g, a, o', e1, m1, e5, e6⟩
theorem gen_none {o : Obj} (h : o.genNumber?.isSome = true) (v : Option Value) : o.data ≠ .cell v := fun e => by
  unfold Obj.genNumber? at h
  rw [e] at h
  revert h
  cases o.cls <;> simp
theorem isg_num {h : Heap} {a : Addr} {g : Nat} (x : IsG h a g) : ∃ o, h.get? a = some o ∧ o.genNumber?.isSome = true := by
  obtain ⟨o, nm, qn, ho, hc, hd, _⟩ := x
  exact ⟨o, ho, by unfold Obj.genNumber?; rw [hc, hd]; rfl⟩
theorem isgn_num {h : Heap} {a : Addr} {g : Nat} {z : Int} (x : IsGn h a g z) : ∃ o, h.get? a = some o ∧ o.genNumber?.isSome = true := by
  obtain ⟨o, nm, qn, ho, hc, hd, _⟩ := x
  exact ⟨o, ho, by unfold Obj.genNumber?; rw [hc, hd]; rfl⟩
/-- between two of its runs: what is its own stands still, and what it reads -/
structure Ltr (P : Program) (w : World) (base : Heap) (outer : List Env) (Hg : Hp) (F : Foot) (s s' : Shared) : Prop where
  os : s'.os = s.os
  wf : WF s'.gens
  own : ∀ b ∈ F.objs, ∀ o, s.heap.get? b = some o → (∀ v, o.data ≠ .cell v) → s'.heap.get? b = some o
  gens : ∀ i ∈ F.gens, s'.gens[i]? = s.gens[i]?
  size : s.heap.objs.size ≤ s'.heap.objs.size
  gsize : s.gens.size ≤ s'.gens.size
  bs : ∀ b o, base.get? b = some o → s'.heap.get? b = some o
  funs : s'.heap.FunFrames base outer
  hok : HOk P w Hg s'.heap
/-- a run of it: all but its own stands still; F: its own ahead of the run, F': behind it -/
structure Stp (P : Program) (w : World) (Hg : Hp) (L : Addr) (outer : List Env) (F F' : Foot) (s s' : Shared) : Prop where
  os : s'.os = s.os
  wf : WF s'.gens
  size : s.heap.objs.size ≤ s'.heap.objs.size
  gsize : s.gens.size ≤ s'.gens.size
  keep : ∀ b o, s.heap.get? b = some o → (∀ v, o.data = .cell v → b < L) → Hg b = none → b ∉ F.objs → b ∉ frs outer → s'.heap.get? b = some o
  hok : HOk P w Hg s'.heap
  slot : ∀ b o, s.heap.get? b = some o → b ∈ frs outer → ∃ sl, s'.heap.get? b = some { o with slots := sl }
  keepG : ∀ (i : Nat) y, s.gens[i]? = some y → i ∉ F.gens → Sus y → s'.gens[i]? = some y
  newG : ∀ (i : Nat) y, s'.gens[i]? = some y → (s.gens[i]? = some y ∧ i ∉ F.gens) ∨ Plain y ∨ i ∈ F'.gens
  newO : ∀ b ∈ F'.objs, b ∈ F.objs ∨ s.heap.objs.size ≤ b
  newI : ∀ i ∈ F'.gens, i ∈ F.gens ∨ s.gens.size ≤ i
  susG : ∀ i ∈ F'.gens, ∃ y, s'.gens[i]? = some y ∧ Sus y ∧ Kby F'.objs s'.heap y
  there : ∀ b ∈ F'.objs, ∃ o, s'.heap.get? b = some o ∧ ∀ v, o.data ≠ .cell v
/-- the same, of a frame whose delegate may be fresh -/
structure Stp0 (P : Program) (w : World) (Hg : Hp) (L : Addr) (outer : List Env) (F F' : Foot) (s s' : Shared) : Prop where
  os : s'.os = s.os
  wf : WF s'.gens
  size : s.heap.objs.size ≤ s'.heap.objs.size
  gsize : s.gens.size ≤ s'.gens.size
  keep : ∀ b o, s.heap.get? b = some o → (∀ v, o.data = .cell v → b < L) → Hg b = none → b ∉ F.objs → b ∉ frs outer → s'.heap.get? b = some o
  hok : HOk P w Hg s'.heap
  slot : ∀ b o, s.heap.get? b = some o → b ∈ frs outer → ∃ sl, s'.heap.get? b = some { o with slots := sl }
  keepG : ∀ (i : Nat) y, s.gens[i]? = some y → i ∉ F.gens → Sus y → s'.gens[i]? = some y
  newG : ∀ (i : Nat) y, s'.gens[i]? = some y → (s.gens[i]? = some y ∧ i ∉ F.gens) ∨ Plain y ∨ i ∈ F'.gens
  newO : ∀ b ∈ F'.objs, b ∈ F.objs ∨ s.heap.objs.size ≤ b
  newI : ∀ i ∈ F'.gens, i ∈ F.gens ∨ s.gens.size ≤ i
theorem Stp.to0 {P : Program} {w : World} {Hg : Hp} {L : Addr} {outer : List Env} {F F' : Foot} {s s' : Shared} (h : Stp P w Hg L outer F F' s s') : Stp0 P w Hg L outer F F' s s' :=
  ⟨h.os, h.wf, h.size, h.gsize, h.keep, h.hok, h.slot, h.keepG, h.newG, h.newO, h.newI⟩
/-- one behind the other -/
theorem Stp0.trans {P : Program} {w : World} {Hg : Hp} {L : Addr} {outer : List Env} {F F1 F' : Foot} {s s1 s' : Shared} (h : Stp0 P w Hg L outer F F1 s s1) (k : Stp0 P w Hg L outer F1 F' s1 s') : Stp0 P w Hg L outer F F' s s' := by
  have out : ∀ b o, s.heap.get? b = some o → b ∉ F.objs → b ∉ F1.objs := fun b o e n q => (h.newO b q).elim n fun z => absurd (Heap.lt_size e) (Nat.not_lt.mpr z)
  have outG : ∀ (i : Nat) y, s.gens[i]? = some y → i ∉ F.gens → i ∉ F1.gens := fun i y e n q => (h.newI i q).elim n fun z => absurd (Array.getElem?_eq_some_iff.mp e).1 (Nat.not_lt.mpr z)
  refine ⟨k.os.trans h.os, k.wf, Nat.le_trans h.size k.size, Nat.le_trans h.gsize k.gsize, fun b o e nc nh nf nx => k.keep b o (h.keep b o e nc nh nf nx) nc nh (out b o e nf) nx, k.hok, fun b o e hb => ?_,
    fun i y e nf u => k.keepG i y (h.keepG i y e nf u) (outG i y e nf) u, fun i y e => ?_, fun b hb => ?_, fun i hi => ?_⟩
  · obtain ⟨sl, e1⟩ := h.slot b o e hb
    obtain ⟨sl2, e2⟩ := k.slot b _ e1 hb
    exact ⟨sl2, e2⟩
  · rcases k.newG i y e with ⟨q, n⟩ | q | q
    · rcases h.newG i y q with q | q | q
      · exact .inl q
      · exact .inr (.inl q)
      · exact absurd q n
    · exact .inr (.inl q)
    · exact .inr (.inr q)
  · rcases k.newO b hb with q | q
    · exact h.newO b q
    · exact .inr (Nat.le_trans h.size q)
  · rcases k.newI i hi with q | q
    · exact h.newI i q
    · exact .inr (Nat.le_trans h.gsize q)
theorem Stp0.full {P : Program} {w : World} {Hg : Hp} {L : Addr} {outer : List Env} {F F' : Foot} {s s' : Shared} (h : Stp0 P w Hg L outer F F' s s') (g : ∀ i ∈ F'.gens, ∃ y, s'.gens[i]? = some y ∧ Sus y ∧ Kby F'.objs s'.heap y) (t : ∀ b ∈ F'.objs, ∃ o, s'.heap.get? b = some o ∧ ∀ v, o.data ≠ .cell v) : Stp P w Hg L outer F F' s s' :=
  ⟨h.os, h.wf, h.size, h.gsize, h.keep, h.hok, h.slot, h.keepG, h.newG, h.newO, h.newI, g, t⟩
/-- what comes of a run: xs is still to come -/
def Zg (M : Model) (A : Around) (L : Foot → Shared → Shared → Prop) (S : Foot → Foot → Shared → Shared → Prop) : List V → Foot → Shared → End → Shared → Prop
  | [] => fun F s₀ e s' => (e = .ret (.ok (.ret .none)) ∨ e = .ret (.ok .next)) ∧ S F ⟨[], []⟩ s₀ s'
  | x :: xs => fun F s₀ e s' => match e with
    | .ret _ => False
    | .susp v g l k c p fs => (End.susp v g l k c p fs).quiet = true ∧ splitAtGen fs = none ∧ RelV x v ∧ ∃ F', S F F' s₀ s' ∧ Kby F'.objs s'.heap (.suspended k l c p fs false) ∧ ∀ s'', L F' s' s'' → Sg M A (Zg M A L S xs F' s'') c (k (.send .none)) fs s''
/-- a sleeper that is ready -/
def RdyG (M : Model) (A : Around) (L : Foot → Shared → Shared → Prop) (S : Foot → Foot → Shared → Shared → Prop) (xs : List V) (F : Foot) (gs : GenState) (s : Shared) : Prop :=
  match gs with
  | .fresh c => Sg M A (Zg M A L S xs F s) c (M.den c) [] s
  | .suspended k _ c _ fs _ => Sg M A (Zg M A L S xs F s) c (k (.send .none)) fs s
  | _ => False
/-- it is woken -/
theorem resume_g {M : Model} {A : Around} {L : Foot → Shared → Shared → Prop} {S : Foot → Foot → Shared → Shared → Prop} {xs : List V} {F : Foot} {gs : GenState} {g : Nat} {s : Shared} {Q : GenResult → Shared → Prop} {E : Value → Shared → Prop} (hg : s.gens[g]? = some gs)
    (hr : RdyG M A L S xs F gs (s.setGen g .running)) (h0 : xs = [] → ∀ s', S F ⟨[], []⟩ (s.setGen g .running) s' → Q (.returned .none) (s'.setGen g .finished))
    (h1 : ∀ x ys, xs = x :: ys → ∀ v s' F' k l c p fs, RelV x v → S F F' (s.setGen g .running) s' → (End.susp v false l k c p fs).quiet = true → splitAtGen fs = none → Kby F'.objs s'.heap (.suspended k l c p fs false) → (∀ s'', L F' s' s'' → RdyG M A L S ys F' (.suspended k l c p fs false) s'') → Q (.yielded v) (s'.setGen g (.suspended k l c p fs false))) :
    wpAny M A (resume g (.send .none)) Q E s := by
  intro Γ p hΓ
  show wp M Γ (.resume g (.send .none) [] .pure) _ _ p s
  rw [Sem.wp_resume]
  have fin : ∀ e s1, Zg M A L S xs F (s.setGen g .running) e s1 → e.quiet = true ∧ Q e.result (s1.setGen g e.genState) := fun e s1 z => by
    cases xs with
    | nil =>
      obtain ⟨he, z⟩ := z
      rcases he with rfl | rfl
      · exact ⟨rfl, h0 rfl s1 z⟩
      · exact ⟨rfl, h0 rfl s1 z⟩
    | cons x ys =>
      cases e with
      | ret r => exact z.elim
      | susp v g0 l k c p fs =>
        obtain ⟨hq, hsg, rv, F', hs, kb, go⟩ := z
        have hb : (g0 || fs.any Frame.guarded) = false := by
          have h' : (!(g0 || fs.any Frame.guarded)) = true := hq
          cases hx : (g0 || fs.any Frame.guarded) <;> simp_all
        obtain ⟨e1, e2⟩ := Bool.or_eq_false_iff.mp hb
        subst e1
        refine ⟨hq, ?_⟩
        show Q (.yielded v) (s1.setGen g (.suspended k l c p fs (false || fs.any Frame.guarded)))
        rw [e2]
        exact h1 x ys rfl v s1 F' k l c p fs rv hs hq hsg kb go
  cases gs with
  | fresh c =>
    obtain ⟨e, s1, r, z⟩ := hr (Γ.wake c p) p rfl (hΓ.wake c p)
    obtain ⟨hq, q⟩ := fin e s1 z
    exact ⟨_, _, by unfold Wakes; rw [hg]; exact ⟨e, s1, r, hq, rfl, rfl⟩, q⟩
  | suspended k l c p0 fs cl =>
    obtain ⟨e, s1, r, z⟩ := hr (Γ.wake c p) p0 rfl (hΓ.wake c p)
    obtain ⟨hq, q⟩ := fin e s1 z
    exact ⟨_, _, by unfold Wakes; rw [hg]; exact ⟨e, s1, r, hq, rfl, rfl⟩, q⟩
  | running => exact hr.elim
  | finished => exact hr.elim
end GT

set_option Elab.async false
set_option linter.all false
set_option maxRecDepth 100000
set_option maxHeartbeats 1000000
namespace GT
open PySem PySem.Spec PyProof.Rows L2
open Sem (wp)
/-- a turn of `yield from` over the generator at a -/
theorem sg_yf {X : Cx} {A : Around} {Z : End → Shared → Prop} {s : Shared} {fs : List Frame} {a : Addr} {g : Nat} {gs : GenState} {Qv : Value → Shared → Prop} {N : Shared → Prop}
    (hh : (A.over (yfC a) fs).handled = none) (hl : s.heap.NoLimit) (room : (A.over (yfC a) fs).depth < recursionLimit) (hg : IsG s.heap a g) (hgs : s.gens[g]? = some gs) (hst : gs.status = .fresh ∨ gs.status = .suspended)
    (hr : wpAny (hm (model X.prog X.w)) (A.over (yfC a) fs).in1 (resume g (.send .none)) (Came Qv N) (fun _ _ => False) s) (hsp : splitAtGen fs = none) (hgd : fs.any Frame.guarded = false)
    (hv : ∀ v s', Qv v s' → IsG s'.heap a g ∧ ∀ h1, IsGn h1 a g 1 → Bt a s'.heap h1 → ∀ l k p,
      (∀ s'' Z', IsGn s''.heap a g 1 → (∀ h2, IsG h2 a g → Bt a s''.heap h2 → Sg (hm (model X.prog X.w)) A Z' (yfC a) ((hm (model X.prog X.w)).den (yfC a)) fs { s'' with heap := h2 }) → Sg (hm (model X.prog X.w)) A Z' (yfC a) (k (.send .none)) fs s'') →
      Z (.susp v false l k (yfC a) p fs) { s' with heap := h1 })
    (hn : ∀ s' e h' tk, N s' → StopX e h' → (∀ b o, s'.heap.get? b = some o → h'.get? b = some o) → s'.heap.objs.size ≤ h'.objs.size → Sg (hm (model X.prog X.w)) A Z (yfC a) (.pure (.done (.ret .none))) fs { s' with heap := h', toks := tk }) :
    Sg (hm (model X.prog X.w)) A Z (yfC a) ((hm (model X.prog X.w)).den (yfC a)) fs s := by
  rw [den_yfC]
  unfold Builtin.«proto.yield_from»
  try dsimp only
  refine sg_t (wpAny_pure ?_)
  try dsimp only
  refine sg_t (wpAny_attempt (wpAny_holding ?_))
  rw [if_neg Bool.false_ne_true, if_pos (show (Value.none == Value.none) = true from rfl)]
  refine wpAny_bind (wpAny_rule (wpAny_bind ?_))
  refine special_g (Qv := Qv) (N := N) hh hl room hg hgs hst hr (fun v s' y => ?_) fun s' e h' tk y hS hk hz => ?_
  · obtain ⟨h1, hY⟩ := hv v s' y
    refine wpAny_pure ?_
    try dsimp only
    refine sg_t (wpAny_typeOf h1.ty ?_)
    try dsimp only
    refine sg_t (wpAny_of_eq close_gen ?_)
    refine sg_t (wpAny_pure ?_)
    try dsimp only
    refine sg_t (slept_g h1.isGn fun h2 q1 q2 => ?_)
    show Sg _ _ _ _ (tau (some (.ref a)) (suspend v true >>= _)) _ _
    rw [tau_susp]
    obtain ⟨o, nm, qn, ho, hc, hd, hs⟩ := id q1
    refine sg_bind (wpAny_load ho ?_)
    have hgn : o.genNumber?.isSome = true := by
      unfold Obj.genNumber?
      rw [hc, hd]
      rfl
    rw [hgn, if_pos rfl]
    refine sg_yield hsp fun p => hY h2 (by simpa using q1) q2 _ _ p fun s'' Z' g1 fin => ?_
    try dsimp only
    refine sg_t (slept_g g1 fun h3 p1 p2 => ?_)
    try dsimp only
    refine sg_t (wpAny_pure ?_)
    exact sg_again (plainId_quiet plain_yf _) (fin h3 (IsGn.isG (by simpa using p1)) p2)
  · try dsimp only
    obtain ⟨b, o, vs, rfl, hb, hc, hd, h5⟩ := id hS
    refine sg_t (wpAny_endsTurn hb hc ?_)
    rw [if_pos rfl]
    refine sg_t (wpAny_rule ?_)
    refine sg_t (wpAny_field hb hd h5 ?_)
    exact hn s' _ h' tk y hS hk hz
end GT

set_option Elab.async false
set_option linter.all false
set_option maxRecDepth 100000
set_option maxHeartbeats 1000000
/-! All turns of `yield from` over a generator that is ready. -/
namespace GT
open PySem PySem.Spec PyProof.Rows L2
open Sem (wp)
/-- what the frame reads stands -/
structure Fc (X : Cx) (Hg : Hp) (s : Shared) : Prop where
  bs : ∀ b o, X.base.get? b = some o → s.heap.get? b = some o
  funs : s.heap.FunFrames X.base (X.env :: X.outer)
  hok : HOk X.prog X.w Hg s.heap
  loc : ∃ o, s.heap.get? X.env.locals = some o ∧ ∀ v, o.data ≠ .cell v
/-- the frame's own: its names, O, the delegate, the delegate's own -/
def cur (X : Cx) (O : Foot) (a : Addr) (g : Nat) (Fi : Foot) : Foot := ⟨X.env.locals :: (O.objs ++ a :: Fi.objs), O.gens ++ g :: Fi.gens⟩
def own (X : Cx) (O : Foot) : Foot := ⟨X.env.locals :: O.objs, O.gens⟩
/-- apart from one another -/
structure Sep (X : Cx) (O : Foot) (a : Addr) (g : Nat) (Fi : Foot) (s : Shared) : Prop where
  aF : a ∉ Fi.objs
  gF : g ∉ Fi.gens
  aO : a ∉ O.objs
  gO : g ∉ O.gens
  aL : a ≠ X.env.locals
  aX : a ∉ frs X.outer
  lO : X.env.locals ∉ O.objs
  lF : X.env.locals ∉ Fi.objs
  oF : ∀ b ∈ O.objs, b ∉ Fi.objs
  oX : ∀ b ∈ O.objs, b ∉ frs X.outer
  iF : ∀ i ∈ O.gens, i ∉ Fi.gens
  oS : ∀ b ∈ O.objs, b < s.heap.objs.size
  iS : ∀ i ∈ O.gens, i < s.gens.size
  aS : a < s.heap.objs.size
  gS : g < s.gens.size
  lS : X.env.locals < s.heap.objs.size
/-- O's objects, the names' dict up to its slots, O's sleepers -/
structure SameO (X : Cx) (O : Foot) (s s' : Shared) : Prop where
  objs : ∀ b ∈ O.objs, s'.heap.get? b = s.heap.get? b
  loc : ∀ o, s.heap.get? X.env.locals = some o → ∃ sl, s'.heap.get? X.env.locals = some { o with slots := sl }
  gens : ∀ i ∈ O.gens, ∀ y, s.gens[i]? = some y → Sus y → s'.gens[i]? = some y
theorem SameO.refl (X : Cx) (O : Foot) (s : Shared) : SameO X O s s := ⟨fun _ _ => rfl, fun o e => ⟨o.slots, e⟩, fun _ _ _ e _ => e⟩
theorem SameO.trans {X : Cx} {O : Foot} {a b c : Shared} (h : SameO X O a b) (k : SameO X O b c) : SameO X O a c :=
  ⟨fun x hx => (k.objs x hx).trans (h.objs x hx), fun o e => by
    obtain ⟨sl, e1⟩ := h.loc o e
    obtain ⟨sl2, e2⟩ := k.loc _ e1
    exact ⟨sl2, e2⟩, fun i hi y e u => k.gens i hi y (h.gens i hi y e u) u⟩
theorem hok_stay {P : Program} {w : World} {Hg : Hp} {h h' : Heap} (ok : HOk P w Hg h) (k : ∀ b o u, Hg b = some u → h.get? b = some o → h'.get? b = some o) : HOk P w Hg h' := fun b u q =>
  (ok b u q).stay (fun c v hc y => by
    rcases hc with e | e
    · rw [e] at y ⊢
      exact k b v u q y
    · exact k c v _ e y) (fun _ y => y) fun _ _ y => y
section
variable {X : Cx} {Hg : Hp} {O F Fi Fi' : Foot} {a : Addr} {g : Nat} {s₀ s s1 : Shared} {y : GenState} {h1 : Heap} {Lk : Addr}
/-- the delegate has run: the frame's own run goes on -/
theorem run_on (hist : Stp0 X.prog X.w Hg X.env.locals X.outer F (cur X O a g Fi) s₀ s) (sO : ∀ i ∈ O.gens, False) (ky : Kby Fi'.objs s1.heap y) (lc : ∃ o, s.heap.get? X.env.locals = some o ∧ ∀ v, o.data ≠ .cell v) (thO : ∀ b ∈ O.objs, Hg b = none ∧ ∃ o, s.heap.get? b = some o ∧ ∀ v, o.data ≠ .cell v) (ta : ∃ o, h1.get? a = some o ∧ ∀ v, o.data ≠ .cell v) (sep : Sep X O a g Fi s) (hx : X.env.frame = some X.env.locals) (st : Stp X.prog X.w Hg Lk (X.env :: X.outer) Fi Fi' (s.setGen g .running) s1) (bt : Bt a s1.heap h1) (hy : Wy y) (hs : Sus y) (aH : Hg a = none) (hL : X.env.locals ≤ Lk) :
    Stp X.prog X.w Hg X.env.locals X.outer F (cur X O a g Fi') s₀ { s1.setGen g y with heap := h1 } ∧ Sep X O a g Fi' { s1.setGen g y with heap := h1 } := by
  have fr : frs (X.env :: X.outer) = X.env.locals :: frs X.outer := by
    unfold frs
    rw [List.filterMap_cons, hx]
  have z0 : (s.setGen g .running).gens.size = s.gens.size := by show (s.gens.setIfInBounds g .running).size = _; rw [Array.size_setIfInBounds]
  have z1 : (s1.setGen g y).gens.size = s1.gens.size := by show (s1.gens.setIfInBounds g y).size = _; rw [Array.size_setIfInBounds]
  have gsz : s.gens.size ≤ s1.gens.size := by rw [← z0]; exact st.gsize
  have osz : s.heap.objs.size ≤ h1.objs.size := by rw [bt.size]; exact st.size
  have nO : ∀ b, b ∈ Fi'.objs → b < s.heap.objs.size → b ∈ Fi.objs := fun b hb hl => by
    rcases st.newO b hb with q | q
    · exact q
    · exact absurd hl (Nat.not_lt.mpr q)
  have nI : ∀ i, i ∈ Fi'.gens → i < s.gens.size → i ∈ Fi.gens := fun i hb hl => by
    rcases st.newI i hb with q | q
    · exact q
    · rw [z0] at q
      exact absurd hl (Nat.not_lt.mpr q)
  have mvK : ∀ c ∈ Fi'.objs, c ∈ (cur X O a g Fi').objs ∧ ∀ o, s1.heap.get? c = some o → o.genNumber?.isSome = true → ∃ o', h1.get? c = some o' ∧ o'.genNumber?.isSome = true := fun c hc => ⟨List.mem_cons_of_mem _ (List.mem_append_right _ (List.mem_cons_of_mem _ hc)), fun o e n => ⟨o, (bt.but c fun z => sep.aF (nO a (z ▸ hc) sep.aS)).trans e, n⟩⟩
  refine ⟨⟨st.os.trans hist.os, st.wf.set g y hy, Nat.le_trans hist.size osz, ?_, fun b o e nc nh nf nx => ?_, hok_stay st.hok fun b o u e1 e => (bt.but b fun h => by rw [h, aH] at e1; cases e1).trans e, fun b o e hb => ?_, fun i z e nf u => ?_, fun i z e => ?_, fun b hb => ?_, fun i hb => ?_, fun i hb => ?_, fun b hb => ?_⟩,
    ⟨fun h => sep.aF (nO a h sep.aS), fun h => sep.gF (nI g h sep.gS), sep.aO, sep.gO, sep.aL, sep.aX, sep.lO, fun h => sep.lF (nO _ h sep.lS), fun b hb h => sep.oF b hb (nO b h (sep.oS b hb)), sep.oX, fun i hi h => sep.iF i hi (nI i h (sep.iS i hi)),
      fun b hb => Nat.lt_of_lt_of_le (sep.oS b hb) osz, fun i hi => ?_, Nat.lt_of_lt_of_le sep.aS osz, ?_, Nat.lt_of_lt_of_le sep.lS osz⟩⟩
  · show s₀.gens.size ≤ (s1.setGen g y).gens.size
    rw [z1]
    exact Nat.le_trans hist.gsize gsz
  · have e1 := hist.keep b o e nc nh nf nx
    have lt := Heap.lt_size e
    have out : b ∉ (cur X O a g Fi).objs := fun h => by
      rcases hist.newO b h with q | q
      · exact nf q
      · exact absurd lt (Nat.not_lt.mpr q)
    have b1 : b ≠ X.env.locals := fun h => out (by rw [h]; exact List.mem_cons_self)
    have b2 : b ≠ a := fun h => out (by rw [h]; exact List.mem_cons_of_mem _ (List.mem_append_right _ List.mem_cons_self))
    have b3 : b ∉ Fi.objs := fun h => out (List.mem_cons_of_mem _ (List.mem_append_right _ (List.mem_cons_of_mem _ h)))
    exact (bt.but b b2).trans (st.keep b o e1 (fun v q => Nat.lt_of_lt_of_le (nc v q) hL) nh b3 (by rw [fr]; exact fun h => (List.mem_cons.mp h).elim b1 nx))
  · obtain ⟨sl, e1⟩ := hist.slot b o e hb
    obtain ⟨sl2, e2⟩ := st.slot b _ e1 (by rw [fr]; exact List.mem_cons_of_mem _ hb)
    exact ⟨sl2, (bt.but b fun h => sep.aX (h ▸ hb)).trans e2⟩
  · have e1 := hist.keepG i z e nf u
    have lt := (Array.getElem?_eq_some_iff.mp e).1
    have out : i ∉ (cur X O a g Fi).gens := fun h => by
      rcases hist.newI i h with q | q
      · exact nf q
      · exact absurd lt (Nat.not_lt.mpr q)
    have i1 : g ≠ i := fun h => out (by rw [← h]; exact List.mem_append_right _ List.mem_cons_self)
    have i2 : i ∉ Fi.gens := fun h => out (List.mem_append_right _ (List.mem_cons_of_mem _ h))
    have e2 := st.keepG i z (by show (s.gens.setIfInBounds g .running)[i]? = _; rw [get_set_ne i1]; exact e1) i2 u
    show (s1.gens.setIfInBounds g y)[i]? = _
    rw [get_set_ne i1]
    exact e2
  · by_cases hi : g = i
    · exact .inr (.inr (by rw [← hi]; exact List.mem_append_right _ List.mem_cons_self))
    · have e1 : s1.gens[i]? = some z := by
        have e : (s1.gens.setIfInBounds g y)[i]? = some z := e
        rw [get_set_ne hi] at e
        exact e
      rcases st.newG i z e1 with ⟨q, ni⟩ | q | q
      · have q : (s.gens.setIfInBounds g .running)[i]? = some z := q
        rw [get_set_ne hi] at q
        rcases hist.newG i z q with q | q | q
        · exact .inl q
        · exact .inr (.inl q)
        · refine .inr (.inr ?_)
          rcases List.mem_append.mp q with q | q
          · exact List.mem_append_left _ q
          · rcases List.mem_cons.mp q with q | q
            · exact absurd q.symm hi
            · exact absurd q ni
      · exact .inr (.inl q)
      · exact .inr (.inr (List.mem_append_right _ (List.mem_cons_of_mem _ q)))
  · rcases List.mem_cons.mp hb with h | h
    · exact hist.newO b (by rw [h]; exact List.mem_cons_self)
    · rcases List.mem_append.mp h with h | h
      · exact hist.newO b (List.mem_cons_of_mem _ (List.mem_append_left _ h))
      · rcases List.mem_cons.mp h with h | h
        · exact hist.newO b (by rw [h]; exact List.mem_cons_of_mem _ (List.mem_append_right _ List.mem_cons_self))
        · rcases st.newO b h with q | q
          · exact hist.newO b (List.mem_cons_of_mem _ (List.mem_append_right _ (List.mem_cons_of_mem _ q)))
          · exact .inr (Nat.le_trans hist.size q)
  · rcases List.mem_append.mp hb with h | h
    · exact hist.newI i (List.mem_append_left _ h)
    · rcases List.mem_cons.mp h with h | h
      · exact hist.newI i (by rw [h]; exact List.mem_append_right _ List.mem_cons_self)
      · rcases st.newI i h with q | q
        · exact hist.newI i (List.mem_append_right _ (List.mem_cons_of_mem _ q))
        · rw [z0] at q
          exact .inr (Nat.le_trans hist.gsize q)
  · rcases List.mem_append.mp hb with h | h
    · exact (sO i h).elim
    · by_cases hi : g = i
      · exact ⟨y, by show (s1.gens.setIfInBounds g y)[i]? = _; rw [Array.getElem?_setIfInBounds, if_pos hi, if_pos (Nat.lt_of_lt_of_le sep.gS gsz)], hs, ky.mono mvK⟩
      · rcases List.mem_cons.mp h with q | q
        · exact absurd q.symm hi
        · obtain ⟨z, e, u, kz⟩ := st.susG i q
          exact ⟨z, by show (s1.gens.setIfInBounds g y)[i]? = _; rw [get_set_ne hi]; exact e, u, kz.mono mvK⟩
  · show ∃ o, h1.get? b = some o ∧ ∀ v, o.data ≠ .cell v
    rcases List.mem_cons.mp hb with h | h
    · rw [h]
      obtain ⟨o, e, n⟩ := lc
      obtain ⟨sl, e1⟩ := st.slot _ o e (by rw [fr]; exact List.mem_cons_self)
      exact ⟨_, (bt.but _ (Ne.symm sep.aL)).trans e1, n⟩
    · rcases List.mem_append.mp h with h | h
      · obtain ⟨hg, o, e, n⟩ := thO b h
        refine ⟨o, (bt.but b fun z => sep.aO (z ▸ h)).trans (st.keep b o e (fun v q => absurd q (n v)) hg (sep.oF b h) ?_), n⟩
        rw [fr]
        exact fun z => (List.mem_cons.mp z).elim (fun q => sep.lO (q ▸ h)) (sep.oX b h)
      · rcases List.mem_cons.mp h with h | h
        · rw [h]; exact ta
        · obtain ⟨o, e, n⟩ := st.there b h
          exact ⟨o, (bt.but b fun z => sep.aF (nO a (z ▸ h) sep.aS)).trans e, n⟩
  · show i < (s1.setGen g y).gens.size
    rw [z1]
    exact Nat.lt_of_lt_of_le (sep.iS i hi) gsz
  · show g < (s1.setGen g y).gens.size
    rw [z1]
    exact Nat.lt_of_lt_of_le sep.gS gsz
/-- the delegate has ended -/
theorem run_off {s2 : Shared} {h' : Heap} {tk : Nat} (sO : ∀ i ∈ O.gens, False) (hist : Stp X.prog X.w Hg X.env.locals X.outer F (cur X O a g ⟨[], []⟩) s₀ s2) (gO : g ∉ O.gens) (hk : ∀ b o, s2.heap.get? b = some o → h'.get? b = some o) (hz : s2.heap.objs.size ≤ h'.objs.size) :
    Stp X.prog X.w Hg X.env.locals X.outer F (own X O) s₀ { s2.setGen g .finished with heap := h', toks := tk } := by
  have gIn : g ∈ (cur X O a g ⟨[], []⟩).gens := List.mem_append_right _ List.mem_cons_self
  refine ⟨hist.os, hist.wf.set g .finished fun _ _ _ _ _ _ z => (by cases z), Nat.le_trans hist.size hz, ?_, fun b o e nc nh nf nx => hk b o (hist.keep b o e nc nh nf nx), hist.hok.kept hk, fun b o e hb => ?_, fun i z e nf u => ?_, fun i z e => ?_, fun b hb => ?_, fun i hi => hist.newI i (List.mem_append_left _ hi), fun i hi => ?_, fun b hb => let ⟨o, e, n⟩ := hist.there b (by
    rcases List.mem_cons.mp hb with q | q
    · rw [q]; exact List.mem_cons_self
    · exact List.mem_cons_of_mem _ (List.mem_append_left _ q)); ⟨o, hk b o e, n⟩⟩
  · show s₀.gens.size ≤ (s2.gens.setIfInBounds g .finished).size
    rw [Array.size_setIfInBounds]
    exact hist.gsize
  · obtain ⟨sl, e1⟩ := hist.slot b o e hb
    exact ⟨sl, hk b _ e1⟩
  · have i1 : g ≠ i := fun h => by
      rcases hist.newI g gIn with q | q
      · exact nf (h ▸ q)
      · exact absurd (Array.getElem?_eq_some_iff.mp e).1 (Nat.not_lt.mpr (h ▸ q))
    show (s2.gens.setIfInBounds g .finished)[i]? = _
    rw [get_set_ne i1]
    exact hist.keepG i z e nf u
  · by_cases hi : g = i
    · subst hi
      have e : (s2.gens.setIfInBounds g .finished)[g]? = some z := e
      rw [get_set_eq e]
      exact .inr (.inl fun k l c p fs cl z => by cases z)
    · have e : (s2.gens.setIfInBounds g .finished)[i]? = some z := e
      rw [get_set_ne hi] at e
      rcases hist.newG i z e with q | q | q
      · exact .inl q
      · exact .inr (.inl q)
      · rcases List.mem_append.mp q with q | q
        · exact .inr (.inr q)
        · rcases List.mem_cons.mp q with q | q
          · exact absurd q.symm hi
          · exact absurd q (by simp)
  · rcases List.mem_cons.mp hb with q | q
    · exact hist.newO b (by rw [q]; exact List.mem_cons_self)
    · exact hist.newO b (List.mem_cons_of_mem _ (List.mem_append_left _ q))
  · exact (sO i hi).elim
/-- O stands while the delegate runs -/
theorem same_on (sep : Sep X O a g Fi s) (hx : X.env.frame = some X.env.locals) (st : Stp X.prog X.w Hg Lk (X.env :: X.outer) Fi Fi' (s.setGen g .running) s1) (bt : Bt a s1.heap h1) (there : ∀ b ∈ O.objs, ∃ o, s.heap.get? b = some o) (oH : ∀ b ∈ O.objs, Hg b = none ∧ b < Lk) : SameO X O s { s1.setGen g y with heap := h1 } := by
  have fr : frs (X.env :: X.outer) = X.env.locals :: frs X.outer := by
    unfold frs
    rw [List.filterMap_cons, hx]
  refine ⟨fun b hb => ?_, fun o e => ?_, fun i hi z e u => ?_⟩
  · obtain ⟨o, e⟩ := there b hb
    have ba : b ≠ a := fun h => sep.aO (h ▸ hb)
    refine (bt.but b ba).trans ?_
    rw [e]
    refine st.keep b o e (fun v q => (oH b hb).2) (oH b hb).1 (sep.oF b hb) ?_
    rw [fr]
    exact fun h => (List.mem_cons.mp h).elim (fun q => sep.lO (q ▸ hb)) (sep.oX b hb)
  · obtain ⟨sl, e1⟩ := st.slot X.env.locals o e (by rw [fr]; exact List.mem_cons_self)
    exact ⟨sl, (bt.but _ (Ne.symm sep.aL)).trans e1⟩
  · have i1 : g ≠ i := fun h => sep.gO (h ▸ hi)
    have e2 := st.keepG i z (by show (s.gens.setIfInBounds g .running)[i]? = _; rw [get_set_ne i1]; exact e) (sep.iF i hi) u
    show (s1.gens.setIfInBounds g y)[i]? = _
    rw [get_set_ne i1]
    exact e2
end
end GT

set_option Elab.async false
set_option linter.all false
set_option maxRecDepth 100000
set_option maxHeartbeats 1000000
namespace GT
open PySem PySem.Spec PyProof.Rows L2
open Sem (wp)
/-- the delegate's own is none of what the frame reads -/
structure Sep2 (X : Cx) (Hg : Hp) (a : Addr) (Fi : Foot) : Prop where
  bF : ∀ b o, X.base.get? b = some o → b ∉ Fi.objs
  aB : X.base.get? a = none
  hF : ∀ b o, Hg b = some o → b ∉ Fi.objs
  aH : Hg a = none
  frH : ∀ b ∈ frs (X.env :: X.outer), Hg b = none
  bH : ∀ b o, X.base.get? b = some o → Hg b = none
theorem frames_slot {h h' base : Heap} : ∀ {l : List Env}, h.FunFrames base l → (∀ b ∈ frs l, ∀ o, h.get? b = some o → ∃ sl, h'.get? b = some { o with slots := sl }) → h'.FunFrames base l
  | [], _, _ => trivial
  | e :: l, ⟨k, ⟨L, o, hf, hn, ho, hd⟩, hr⟩, hb => by
    have hm : frs (e :: l) = L :: frs l := by unfold frs; rw [List.filterMap_cons, hf]
    obtain ⟨sl, e1⟩ := hb L (by rw [hm]; exact List.mem_cons_self) o ho
    exact ⟨k, ⟨L, _, hf, hn, e1, hd⟩, frames_slot hr fun b q => hb b (by rw [hm]; exact List.mem_cons_of_mem _ q)⟩
section
variable {X : Cx} {Hg : Hp} {O F Fi Fi' : Foot} {a : Addr} {g : Nat} {s₀ s s1 : Shared} {y : GenState} {h1 : Heap} {Lk : Addr}
theorem fc_on (fc : Fc X Hg s) (q : Sep2 X Hg a Fi) (sep : Sep X O a g Fi s) (hx : X.env.frame = some X.env.locals) (st : Stp X.prog X.w Hg Lk (X.env :: X.outer) Fi Fi' (s.setGen g .running) s1) (bt : Bt a s1.heap h1) (bL : X.base.objs.size ≤ Lk) : Fc X Hg { s1.setGen g y with heap := h1 } ∧ Sep2 X Hg a Fi' := by
  have fr : frs (X.env :: X.outer) = X.env.locals :: frs X.outer := by
    unfold frs
    rw [List.filterMap_cons, hx]
  refine ⟨⟨fun b o e => ?_, frames_slot fc.funs fun b hb o e => ?_, hok_stay st.hok fun b o u e1 e => (bt.but b fun h => by rw [h, q.aH] at e1; cases e1).trans e, ?_⟩, ⟨fun b o e h => ?_, q.aB, fun b o e h => ?_, q.aH, q.frH, q.bH⟩⟩
  · have ba : b ≠ a := fun h => by rw [h, q.aB] at e; cases e
    exact (bt.but b ba).trans (st.keep b o (fc.bs b o e) (fun v _ => Nat.lt_of_lt_of_le (Heap.lt_size e) bL) (q.bH b o e) (q.bF b o e) fun h => by
      have := (fc.funs.mem h).1
      rw [e] at this
      cases this)
  · obtain ⟨sl, e1⟩ := st.slot b o e hb
    refine ⟨sl, (bt.but b fun h => ?_).trans e1⟩
    rw [fr] at hb
    rcases List.mem_cons.mp hb with z | z
    · exact sep.aL (h ▸ z)
    · exact sep.aX (h ▸ z)
  · obtain ⟨o, e, n⟩ := fc.loc
    obtain ⟨sl, e1⟩ := st.slot _ o e (by rw [fr]; exact List.mem_cons_self)
    exact ⟨_, (bt.but _ (Ne.symm sep.aL)).trans e1, n⟩
  · rcases st.newO b h with z | z
    · exact q.bF b o e z
    · exact absurd (Heap.lt_size (fc.bs b o e)) (Nat.not_lt.mpr z)
  · rcases st.newO b h with z | z
    · exact q.hF b o e z
    · exact absurd (fc.hok.lt e) (Nat.not_lt.mpr z)
theorem bt_refl (a : Addr) (h : Heap) : Bt a h h := ⟨rfl, fun _ _ => rfl⟩
/-- it wakes again: the state ahead of its next turn -/
theorem again_on {s2 s3 : Shared} {h2 : Heap} (fc : Fc X Hg s2) (q : Sep2 X Hg a Fi) (sep : Sep X O a g Fi s2) (hx : X.env.frame = some X.env.locals) (l : Ltr X.prog X.w X.base X.outer Hg (cur X O a g Fi) s2 s3) (bt : Bt a s3.heap h2) (sg : ∀ i ∈ (cur X O a g Fi).gens, ∃ y, s2.gens[i]? = some y ∧ Sus y ∧ Kby (cur X O a g Fi).objs s2.heap y) (th : ∀ b ∈ O.objs, ∃ o, s2.heap.get? b = some o ∧ ∀ v, o.data ≠ .cell v) (tp : ∀ b ∈ (cur X O a g Fi).objs, ∃ o, s2.heap.get? b = some o ∧ ∀ v, o.data ≠ .cell v) (ta : ∃ o, h2.get? a = some o ∧ o.genNumber?.isSome = true) :
    Stp X.prog X.w Hg X.env.locals X.outer (cur X O a g Fi) (cur X O a g Fi) s3 { s3 with heap := h2 } ∧ Sep X O a g Fi { s3 with heap := h2 } ∧ Fc X Hg { s3 with heap := h2 } ∧ SameO X O s2 { s3 with heap := h2 } := by
  have fr : frs (X.env :: X.outer) = X.env.locals :: frs X.outer := by
    unfold frs
    rw [List.filterMap_cons, hx]
  have osz : s2.heap.objs.size ≤ h2.objs.size := by rw [bt.size]; exact l.size
  have aIn : a ∈ (cur X O a g Fi).objs := List.mem_cons_of_mem _ (List.mem_append_right _ List.mem_cons_self)
  refine ⟨⟨rfl, l.wf, Nat.le_of_eq bt.size.symm, Nat.le_refl _, fun b o e nc nh nf nx => (bt.but b fun h => nf (h ▸ aIn)).trans e, hok_stay l.hok (fun b o u e1 e => (bt.but b fun h => by rw [h, q.aH] at e1; cases e1).trans e), fun b o e hb => ⟨o.slots, (bt.but b fun h => sep.aX (h ▸ hb)).trans e⟩, fun i z e nf u => e, fun i z e => ?_, fun b hb => .inl hb, fun i hi => .inl hi, fun i hi => let ⟨z, e, u, kz⟩ := sg i hi; ⟨z, (l.gens i hi).trans e, u, kz.mono fun c hc => ⟨hc, fun o e n => by
      by_cases hca : c = a
      · rw [hca]; exact ta
      · exact ⟨o, (bt.but c hca).trans (l.own c hc o e (gen_none n)), n⟩⟩⟩, fun b hb => by
      by_cases hba : b = a
      · rw [hba]; obtain ⟨o, e, n⟩ := ta; exact ⟨o, e, gen_none n⟩
      · obtain ⟨o, e, n⟩ := tp b hb
        exact ⟨o, (bt.but b hba).trans (l.own b hb o e n), n⟩⟩,
    ⟨sep.aF, sep.gF, sep.aO, sep.gO, sep.aL, sep.aX, sep.lO, sep.lF, sep.oF, sep.oX, sep.iF, fun b hb => Nat.lt_of_lt_of_le (sep.oS b hb) osz, fun i hi => Nat.lt_of_lt_of_le (sep.iS i hi) l.gsize, Nat.lt_of_lt_of_le sep.aS osz, Nat.lt_of_lt_of_le sep.gS l.gsize, Nat.lt_of_lt_of_le sep.lS osz⟩,
    ⟨fun b o e => (bt.but b fun h => by rw [h, q.aB] at e; cases e).trans (l.bs b o e), ?_, hok_stay l.hok fun b o u e1 e => (bt.but b fun h => by rw [h, q.aH] at e1; cases e1).trans e, ?_⟩, ⟨fun b hb => ?_, fun o e => ⟨o.slots, ?_⟩, fun i hi z e u => ?_⟩⟩
  · by_cases hi : i ∈ (cur X O a g Fi).gens
    · exact .inr (.inr hi)
    · exact .inl ⟨e, hi⟩
  · obtain ⟨k, ⟨L, o, hf, hn, ho, hd⟩, _⟩ := fc.funs
    rw [hx] at hf
    cases hf
    refine ⟨k, ⟨_, o, hx, hn, ?_, hd⟩, frames_slot l.funs fun b hb o e => ⟨o.slots, (bt.but b fun h => sep.aX (h ▸ hb)).trans e⟩⟩
    obtain ⟨ol, el, nl⟩ := fc.loc
    rw [ho] at el
    cases el
    exact (bt.but _ (Ne.symm sep.aL)).trans (l.own _ List.mem_cons_self _ ho nl)
  · obtain ⟨ol, el, nl⟩ := fc.loc
    exact ⟨ol, (bt.but _ (Ne.symm sep.aL)).trans (l.own _ List.mem_cons_self _ el nl), nl⟩
  · obtain ⟨o, e, n⟩ := th b hb
    exact ((bt.but b fun h => sep.aO (h ▸ hb)).trans (l.own b (List.mem_cons_of_mem _ (List.mem_append_left _ hb)) o e n)).trans e.symm
  · obtain ⟨ol, el, nl⟩ := fc.loc
    rw [e] at el
    cases el
    exact (bt.but _ (Ne.symm sep.aL)).trans (l.own _ List.mem_cons_self _ e nl)
  · exact (l.gens i (List.mem_append_left _ hi)).trans e
end
end GT

set_option Elab.async false
set_option linter.all false
set_option maxRecDepth 100000
set_option maxHeartbeats 1000000
namespace GT
open PySem PySem.Spec PyProof.Rows L2
open Sem (wp)
theorem gen_same {h h' : Heap} {a : Addr} {g : Nat} (x : IsG h a g) (e : h'.get? a = h.get? a) : IsG h' a g := by
  obtain ⟨o, nm, qn, ho, r⟩ := x
  exact ⟨o, nm, qn, e.trans ho, r⟩
theorem gen_same1 {h h' : Heap} {a : Addr} {g : Nat} {z : Int} (x : IsGn h a g z) (e : h'.get? a = h.get? a) : IsGn h' a g z := by
  obtain ⟨o, nm, qn, ho, r⟩ := x
  exact ⟨o, nm, qn, e.trans ho, r⟩
theorem set_at {s : Shared} {g : Nat} {y : GenState} (h : g < s.gens.size) : (s.setGen g y).gens[g]? = some y := by
  show (s.gens.setIfInBounds g y)[g]? = _
  rw [Array.getElem?_setIfInBounds, if_pos rfl, if_pos h]
section
variable {X : Cx} {Hg : Hp} {O : Foot} {a : Addr} {g : Nat} {A : Around} {fs : List Frame} {rest : List V} {sI : Shared} {Lk : Addr}
abbrev Lo (X : Cx) (Hg : Hp) : Foot → Shared → Shared → Prop := Ltr X.prog X.w X.base X.outer Hg
abbrev Li (X : Cx) (Hg : Hp) : Foot → Shared → Shared → Prop := Ltr X.prog X.w X.base (X.env :: X.outer) Hg
/-- all turns of `yield from`: what the delegate hands on, the frame hands on -/
theorem sg_from (hx : X.env.frame = some X.env.locals) (lim : X.base.NoLimit) (hh : (A.over (yfC a) fs).handled = none) (room : (A.over (yfC a) fs).depth < recursionLimit) (hsp : splitAtGen fs = none) (hgd : fs.any Frame.guarded = false)
    (sO : ∀ i ∈ O.gens, False) (there : ∀ b ∈ O.objs, ∃ o, sI.heap.get? b = some o ∧ ∀ v, o.data ≠ .cell v) (oH : ∀ b ∈ O.objs, Hg b = none ∧ b < Lk) (hL : X.env.locals ≤ Lk) (bL : X.base.objs.size ≤ Lk)
    (tail : ∀ s₀ F s, Stp X.prog X.w Hg X.env.locals X.outer F (own X O) s₀ s → Fc X Hg s → SameO X O sI s → Sg (hm (model X.prog X.w)) A (Zg (hm (model X.prog X.w)) A (Lo X Hg) (Stp X.prog X.w Hg X.env.locals X.outer) rest F s₀) (yfC a) (.pure (.done (.ret .none))) fs s) :
    ∀ (ys : List V) (s s₀ : Shared) (F Fi : Foot) (gs : GenState), Stp0 X.prog X.w Hg X.env.locals X.outer F (cur X O a g Fi) s₀ s → Sep X O a g Fi s → Sep2 X Hg a Fi → Fc X Hg s → IsG s.heap a g → s.gens[g]? = some gs → (gs.status = .fresh ∨ gs.status = .suspended) →
      RdyG (hm (model X.prog X.w)) (A.over (yfC a) fs).in1 (Li X Hg) (Stp X.prog X.w Hg Lk (X.env :: X.outer)) ys Fi gs (s.setGen g .running) → SameO X O sI s →
      Sg (hm (model X.prog X.w)) A (Zg (hm (model X.prog X.w)) A (Lo X Hg) (Stp X.prog X.w Hg X.env.locals X.outer) (ys ++ rest) F s₀) (yfC a) ((hm (model X.prog X.w)).den (yfC a)) fs s := by
  have fr : frs (X.env :: X.outer) = X.env.locals :: frs X.outer := by
    unfold frs
    rw [List.filterMap_cons, hx]
  intro ys
  induction ys with
  | nil =>
    intro s s₀ F Fi gs hist sep sep2 fc isg hgs hst rdy same
    refine sg_yf (Qv := fun _ _ => False) (N := fun s2 => ∃ s1, Stp X.prog X.w Hg Lk (X.env :: X.outer) Fi ⟨[], []⟩ (s.setGen g .running) s1 ∧ s2 = s1.setGen g .finished) hh (lim.keeps fc.bs) room isg hgs hst ?_ hsp hgd (fun v s' h => h.elim) fun s' e h' tk hN hS hk hz => ?_
    · exact resume_g hgs rdy (fun _ s1 st => .inr ⟨rfl, s1, st, rfl⟩) fun x ys e => nomatch e
    · obtain ⟨s1, st, rfl⟩ := hN
      obtain ⟨hist2, sep3⟩ := run_on (y := .suspended (fun _ => .unsupported "asleep") [] (.builtin "" {}) default [] false) hist sO (fun _ _ _ _ _ _ z => by cases z; exact ⟨rfl, rfl, fun m => absurd m (by simp)⟩) fc.loc (fun b hb => ⟨(oH b hb).1, let ⟨o, e, n⟩ := there b hb; ⟨o, (same.objs b hb).trans e, n⟩⟩) (by
        obtain ⟨o, nm, qn, ho, _, hd, _⟩ := isg
        exact ⟨o, st.keep a o ho (fun v q => by rw [hd] at q; cases q) sep2.aH sep.aF (by rw [fr]; exact fun h => (List.mem_cons.mp h).elim sep.aL sep.aX), fun v z => by rw [hd] at z; cases z⟩) sep hx st (bt_refl a s1.heap) (fun k l c p fs cl z => by cases z; rfl) ⟨_, _, _, _, _, _, rfl⟩ sep2.aH hL
      obtain ⟨fc2, _⟩ := fc_on (y := .finished) fc sep2 sep hx st (bt_refl a s1.heap) bL
      have sm := same.trans (same_on (y := .finished) sep hx st (bt_refl a s1.heap) (fun b hb => by
        obtain ⟨o, e, _⟩ := there b hb
        exact ⟨o, (same.objs b hb).trans e⟩) oH)
      have off := run_off (tk := tk) sO hist2 sep.gO hk hz
      have e2 : (s1.setGen g (.suspended (fun _ => .unsupported "asleep") [] (.builtin "" {}) default [] false)).setGen g .finished = s1.setGen g .finished := by
        show ({ s1 with gens := (s1.gens.setIfInBounds g _).setIfInBounds g .finished } : Shared) = { s1 with gens := s1.gens.setIfInBounds g .finished }
        simp
      refine tail s₀ F _ (by
        have z := off
        rw [show ({ s1.setGen g (.suspended (fun _ => .unsupported "asleep") [] (.builtin "" {}) default [] false) with heap := s1.heap } : Shared).setGen g .finished = s1.setGen g .finished from e2] at z
        exact z) ⟨fun b o e => hk b o (fc2.bs b o e), frames_slot fc2.funs fun b _ o e => ⟨o.slots, hk b o e⟩, fc2.hok.kept hk, let ⟨o, e, n⟩ := fc2.loc; ⟨o, hk _ _ e, n⟩⟩ ⟨fun b hb => ?_, fun o e => ?_, sm.gens⟩
      · obtain ⟨o, e, _⟩ := there b hb
        exact (hk b o ((sm.objs b hb).trans e)).trans e.symm
      · obtain ⟨sl, e1⟩ := sm.loc o e
        exact ⟨sl, hk _ _ e1⟩
  | cons x ys ih =>
    intro s s₀ F Fi gs hist sep sep2 fc isg hgs hst rdy same
    refine sg_yf (Qv := fun v s2 => ∃ s1 Fi' k l c p fs', RelV x v ∧ Stp X.prog X.w Hg Lk (X.env :: X.outer) Fi Fi' (s.setGen g .running) s1 ∧ (End.susp v false l k c p fs').quiet = true ∧ splitAtGen fs' = none ∧ Kby Fi'.objs s1.heap (.suspended k l c p fs' false) ∧ (∀ s'', Li X Hg Fi' s1 s'' → RdyG (hm (model X.prog X.w)) (A.over (yfC a) fs).in1 (Li X Hg) (Stp X.prog X.w Hg Lk (X.env :: X.outer)) ys Fi' (.suspended k l c p fs' false) s'') ∧ s2 = s1.setGen g (.suspended k l c p fs' false))
      (N := fun _ => False) hh (lim.keeps fc.bs) room isg hgs hst ?_ hsp hgd (fun v s' hQ => ?_) fun s' e h' tk hN => hN.elim
    · refine resume_g hgs rdy (fun e => nomatch e) fun x' ys' e v s1 F' k l c p fs' rv st hq hsg kb go => ?_
      cases e
      exact .inl ⟨v, rfl, s1, F', k, l, c, p, fs', rv, st, hq, hsg, kb, go, rfl⟩
    · obtain ⟨s1, Fi', k, l, c, p, fs', rv, st, hq, hsf, kb, go, rfl⟩ := hQ
      have wy : Wy (.suspended k l c p fs' false) := fun k l c p fs cl e => by cases e; exact hsf
      have ea : s1.heap.get? a = s.heap.get? a := by
        obtain ⟨o, nm, qn, ho, _, hd, _⟩ := isg
        rw [ho]
        exact st.keep a o ho (fun v q => by rw [hd] at q; cases q) sep2.aH sep.aF (by rw [fr]; exact fun h => (List.mem_cons.mp h).elim sep.aL sep.aX)
      refine ⟨gen_same isg ea, fun h1 i1 bt l2 k2 p2 cont => ?_⟩
      obtain ⟨hist2, sep3⟩ := run_on hist sO kb fc.loc (fun b hb => ⟨(oH b hb).1, let ⟨o, e, n⟩ := there b hb; ⟨o, (same.objs b hb).trans e, n⟩⟩) (by
        obtain ⟨o, nm, qn, ho, _, hd, _⟩ := i1
        exact ⟨o, ho, fun v z => by rw [hd] at z; cases z⟩) sep hx st bt wy ⟨_, _, _, _, _, _, rfl⟩ sep2.aH hL
      obtain ⟨fc2, sep4⟩ := fc_on (y := .suspended k l c p fs' false) fc sep2 sep hx st bt bL
      have sm := same.trans (same_on (y := .suspended k l c p fs' false) sep hx st bt (fun b hb => by
        obtain ⟨o, e, _⟩ := there b hb
        exact ⟨o, (same.objs b hb).trans e⟩) oH)
      refine ⟨by show (!(false || fs.any Frame.guarded)) = true; rw [hgd]; rfl, hsp, rv, cur X O a g Fi', hist2, (fun _ _ _ _ _ _ z => by
        cases z
        obtain ⟨o, ho, hn⟩ := isgn_num i1
        exact ⟨hsp, rfl, fun _ => ⟨hgd, a, o, rfl, List.mem_cons_of_mem _ (List.mem_append_right _ List.mem_cons_self), ho, hn⟩⟩), fun s3 lo => ?_⟩
      have aIn : a ∈ (cur X O a g Fi').objs := List.mem_cons_of_mem _ (List.mem_append_right _ List.mem_cons_self)
      have gIn : g ∈ (cur X O a g Fi').gens := List.mem_append_right _ List.mem_cons_self
      refine cont s3 _ (gen_same1 i1 (by
        obtain ⟨o, nm, qn, ho, _, hd, _⟩ := i1
        exact (lo.own a aIn o ho (fun v z => by rw [hd] at z; cases z)).trans ho.symm)) fun h2 j1 bt2 => ?_
      obtain ⟨hist3, sep5, fc3, sm3⟩ := again_on fc2 sep4 sep3 hx lo bt2 hist2.susG (fun b hb => by
        obtain ⟨o, e, n⟩ := there b hb
        exact ⟨o, (sm.objs b hb).trans e, n⟩) hist2.there (isg_num j1)
      have e3 : s3.gens[g]? = some (.suspended k l c p fs' false) := (lo.gens g gIn).trans (set_at (by
        have := st.gsize
        have z0 : (s.setGen g .running).gens.size = s.gens.size := by show (s.gens.setIfInBounds g .running).size = _; rw [Array.size_setIfInBounds]
        rw [z0] at this
        exact Nat.lt_of_lt_of_le sep.gS this))
      refine ih _ s3 _ Fi' (.suspended k l c p fs' false) hist3.to0 sep5 sep4 fc3 j1 e3 (.inr rfl) (go _ ⟨lo.os, lo.wf.set g .running fun _ _ _ _ _ _ z => (by cases z), fun b hb o e n => ?_, fun i hi => ?_, ?_, ?_, fc3.bs, fc3.funs, fc3.hok⟩) (sm.trans sm3)
      · have ba : b ≠ a := fun h => sep3.aF (h ▸ hb)
        exact (bt2.but b ba).trans (lo.own b (List.mem_cons_of_mem _ (List.mem_append_right _ (List.mem_cons_of_mem _ hb))) o ((bt.but b ba).trans e) n)
      · have ig : g ≠ i := fun h => sep3.gF (h ▸ hi)
        show (s3.gens.setIfInBounds g .running)[i]? = _
        rw [get_set_ne ig]
        refine (lo.gens i (List.mem_append_right _ (List.mem_cons_of_mem _ hi))).trans ?_
        show (s1.gens.setIfInBounds g _)[i]? = _
        rw [get_set_ne ig]
      · show s1.heap.objs.size ≤ h2.objs.size
        rw [bt2.size]
        exact Nat.le_trans (Nat.le_of_eq bt.size.symm) lo.size
      · show s1.gens.size ≤ (s3.gens.setIfInBounds g .running).size
        rw [Array.size_setIfInBounds]
        refine Nat.le_trans ?_ lo.gsize
        show s1.gens.size ≤ (s1.gens.setIfInBounds g _).size
        rw [Array.size_setIfInBounds]
        exact Nat.le_refl _
end
end GT

set_option Elab.async false
set_option linter.all false
set_option maxRecDepth 100000
set_option maxHeartbeats 1000000
/-! Statements of a generator's body. -/
namespace GT
open PySem PySem.Spec PyProof.Rows L2
open Sem (wp)
section
variable {M : Model} {A : Around} {Z : End → Shared → Prop} {c : Code} {fs : List Frame} {s : Shared} {d : Option Value} {ev : Env} {K : Flow → Sem PySem.Fin} {J : Value → Sem PySem.Fin}
theorem g_nil (h : Sg M A Z c (tau d (K .next)) fs s) : Sg M A Z c (tau d ((execs [] ev).wrap K J id id)) fs s := h
theorem g_cons {st : Stmt} {rest : List Stmt} (h : Sg M A Z c (tau d ((exec st ev).wrap (fun f => match f with | .next => (execs rest ev).wrap K J id id | f => K f) J id id)) fs s) : Sg M A Z c (tau d ((execs (st :: rest) ev).wrap K J id id)) fs s := by
  rw [execs_cons_wrap]
  exact h
theorem g_at {p' : Pos} {k : Unit → Sem PySem.Fin} (h : Sg M A Z c (tau d (k ())) fs s) : Sg M A Z c (tau d (.at p' k)) fs s :=
  sg_tw (m := standAt p') (K := k) (J := .raise) (wpAny_standAt h)
/-- a calm statement -/
theorem g_calm {st : Stmt} (h : wpAny M (A.over c fs) (exec st ev) (fun f z => Sg M A Z c (tau d (K f)) fs z) (fun e z => Sg M A Z c (tau d (J e)) fs z) s) : Sg M A Z c (tau d ((exec st ev).wrap K J id id)) fs s := sg_tw h
theorem g_if {test : Expr} {body orelse : List Stmt} {pos : Pos} (h : wpAny M (A.over c fs) (isTrue test ev (eval test ev)) (fun b z => if b = true then Sg M A Z c (tau d ((execs body ev).wrap K J id id)) fs z else Sg M A Z c (tau d ((execs orelse ev).wrap K J id id)) fs z)
    (fun e z => Sg M A Z c (tau d (J e)) fs z) s) : Sg M A Z c (tau d ((exec (.If test body orelse pos) ev).wrap K J id id)) fs s := by
  rw [exec_If]
  show Sg _ _ _ _ (tau d (.at pos fun _ => (isTrue test ev (eval test ev) >>= fun b => if b = true then execs body ev else execs orelse ev).wrap K J id id)) _ _
  refine g_at ?_
  rw [Sem.bind_eq_wrap', Sem.wrap_wrap]
  refine sg_tw (wpAny_mono h (fun b z y => ?_) fun e z y => y)
  cases b with
  | true => rw [if_pos rfl] at y; exact y
  | false => rw [if_neg Bool.false_ne_true] at y; exact y
/-- yield e -/
theorem g_yield {e : Expr} {yp pos : Pos} (hfs : splitAtGen fs = none)
    (h : wpAny M (A.over c fs) (eval e ev) (fun v z => ∀ l k p, mk ∉ l → (∀ Z' z', Sg M A Z' c (tau d (K .next)) fs z' → Sg M A Z' c (k (.send .none)) fs z') → Z (.susp v false l k c p fs) z) (fun x z => Sg M A Z c (tau d (J x)) fs z) s)
    (hd : d = none) (hco : ev.scope.isCoroutine = false := by rfl) (hi : interactive ev = false := by rfl) : Sg M A Z c (tau d ((exec (.Expr (.Yield (some e) yp) pos) ev).wrap K J id id)) fs s := by
  subst hd
  rw [exec_Expr ev _ pos hi rfl]
  show Sg _ _ _ _ (tau none (.at pos fun _ => ((eval e ev >>= fun v => (standAt yp >>= fun _ => yieldOut ev v)) >>= fun x => dropValue (.Yield (some e) yp) pos x).wrap K J id id)) _ _
  have hy : ∀ v, yieldOut ev v = yieldValue v := fun v => by simp only [yieldOut, hco, Bool.false_eq_true, if_false]
  simp only [hy]
  refine g_at ?_
  rw [Sem.bind_eq_wrap', Sem.bind_eq_wrap', Sem.wrap_wrap, Sem.wrap_wrap]
  refine sg_tw (wpAny_mono h (fun v z y => ?_) fun _ _ y => y)
  refine g_at ?_
  exact sg_yield hfs fun p => y _ _ p (fl_mk _) fun Z' z' q => q
/-- the frame of a def that yields -/
theorem g_func {P : Program} {w : World} {A : Around} {Z : End → Shared → Prop} {fs : List Frame} {s : Shared} {bd : List Stmt} {ev : Env}
    (h : Sg (hm (model P w)) A Z (.func bd ev) (tau none ((execs bd ev).wrap (fun f => .pure (.done (.ret (match f with | .ret v => v | _ => .none)))) (fun e => (leaving ev e).wrap (fun _ => .raise e) .raise id id) id id)) fs s) :
    Sg (hm (model P w)) A Z (.func bd ev) ((hm (model P w)).den (.func bd ev)) fs s := by
  show Sg _ _ _ _ (tau none (.point [] fun _ => ((execs bd ev).onRaise (leaving ev)) >>= fun f => match f with | .ret v => ret v | _ => ret .none)) _ _
  refine sg_tw (m := point) (K := fun _ => ((execs bd ev).onRaise (leaving ev)) >>= fun f => match f with | .ret v => ret v | _ => ret .none) (J := .raise) (wpAny_point ?_)
  rw [Sem.onRaise_eq_wrap, Sem.bind_eq_wrap', Sem.wrap_wrap]
  rw [Sem.wrap_congr (execs bd ev) _ _ (K' := fun f => .pure (.done (.ret (match f with | .ret v => v | _ => .none)))) (H' := fun e => (leaving ev e).wrap (fun _ => .raise e) .raise id id) (fun f => by cases f <;> rfl) (fun e => by rw [Sem.bind_eq_wrap, Sem.wrap_wrap]; rfl)]
  exact h
end
end GT

set_option Elab.async false
set_option linter.all false
set_option maxRecDepth 100000
set_option maxHeartbeats 1000000
namespace GT
open PySem PySem.Spec PyProof.Rows L2
open Sem (wp)
section
variable {P : Program} {w : World} {A : Around} {Z : End → Shared → Prop} {c : Code} {fs : List Frame} {s : Shared} {d : Option Value} {ev : Env} {K : Flow → Sem PySem.Fin} {J : Value → Sem PySem.Fin}
/-- yield from a generator -/
theorem g_from {e : Expr} {yp pos : Pos} (h : wpAny (hm (model P w)) (A.over c fs) (eval e ev) (fun v z => ∃ a g, v = .ref a ∧ IsG z.heap a g ∧ ∀ k p l, k (.ok (.ret .none)) = tau d (K .next) → Sg (hm (model P w)) A Z (yfC a) ((hm (model P w)).den (yfC a)) (.ret k none false l c p [] :: fs) z)
    (fun x z => Sg (hm (model P w)) A Z c (tau d (J x)) fs z) s) (hi : interactive ev = false := by rfl) : Sg (hm (model P w)) A Z c (tau d ((exec (.Expr (.YieldFrom e yp) pos) ev).wrap K J id id)) fs s := by
  rw [exec_Expr ev _ pos hi rfl]
  show Sg _ _ _ _ (tau d (.at pos fun _ => ((eval e ev >>= fun v => (standAt yp >>= fun _ => yieldFrom ev v)) >>= fun x => dropValue (.YieldFrom e yp) pos x).wrap K J id id)) _ _
  refine g_at ?_
  rw [Sem.bind_eq_wrap', Sem.bind_eq_wrap', Sem.wrap_wrap, Sem.wrap_wrap]
  refine sg_tw (wpAny_mono h (fun v z y => ?_) fun _ _ y => y)
  obtain ⟨a, g, rfl, hg, go⟩ := y
  refine g_at ?_
  show Sg _ _ _ _ (tau d ((yieldFrom ev (.ref a)).wrap (fun x => (dropValue (.YieldFrom e yp) pos x).wrap K J id id) J id id)) _ _
  unfold yieldFrom
  rw [Sem.bind_eq_wrap', Sem.wrap_wrap]
  refine sg_tw (wpAny_typeOf hg.ty ?_)
  show Sg _ _ _ _ (tau d ((if (Value.type "generator" == Value.type "coroutine") = true then _ else _ : Sem Value).wrap _ _ _ _)) _ _
  rw [if_neg (by decide)]
  rw [Sem.bind_eq_wrap', Sem.wrap_wrap]
  refine sg_tw (wpAny_holding (iter_g hg ?_))
  exact sg_call (c' := yfC a) fun p => go _ p _ rfl
end
end GT

set_option Elab.async false
set_option linter.all false
set_option maxRecDepth 100000
set_option maxHeartbeats 1000000
namespace GT
open PySem PySem.Spec PyProof.Rows L2
open Sem (wp)
section
variable {P : Program} {w : World} {A : Around} {Z : End → Shared → Prop} {c : Code} {fs : List Frame} {s : Shared} {d : Option Value} {ev : Env} {K : Flow → Sem PySem.Fin} {J : Value → Sem PySem.Fin} {test : Expr} {body : List Stmt} {pos : Pos}
theorem g_while (h : ∀ k p l, (∀ f, k (.ok f) = tau d (K f)) → Sg (hm (model P w)) A Z (.whileLoop test body [] ev) ((hm (model P w)).den (.whileLoop test body [] ev)) (.ret k none false l c p [] :: fs) s) : Sg (hm (model P w)) A Z c (tau d ((exec (.While test body [] pos) ev).wrap K J id id)) fs s :=
  g_at (sg_call fun p => h _ p _ fun f => rfl)
/-- what a turn's statements come to -/
def wK (c : Code) : Flow → Sem PySem.Fin
  | .next | .cont => .pure (.again c)
  | .brk => .pure (.done .next)
  | .ret v => .pure (.done (.ret v))
def wJ (ev : Env) : Value → Sem PySem.Fin := fun e => (do noteFrame e ev; theTreesLotGoes e : Sem Unit).wrap (fun _ => .raise e) .raise id id
theorem g_turn (h : wpAny (hm (model P w)) (A.over (.whileLoop test body [] ev) fs) (isTrue test ev (eval test ev)) (fun b z => if b = true then Sg (hm (model P w)) A Z (.whileLoop test body [] ev) (tau none ((execs body ev).wrap (wK (.whileLoop test body [] ev)) (wJ ev) id id)) fs z else Sg (hm (model P w)) A Z (.whileLoop test body [] ev) (.pure (.done .next)) fs z)
    (fun _ _ => False) s) : Sg (hm (model P w)) A Z (.whileLoop test body [] ev) ((hm (model P w)).den (.whileLoop test body [] ev)) fs s := by
  show Sg _ _ _ _ (tau none ((whileTurn test body [] ev).onRaise fun x => do noteFrame x ev; theTreesLotGoes x)) _ _
  unfold whileTurn
  rw [Sem.onRaise_eq_wrap, Sem.bind_eq_wrap', Sem.wrap_wrap]
  refine sg_tw (wpAny_mono h (fun b z y => ?_) fun x z y => y.elim)
  cases b with
  | true =>
    rw [if_pos rfl] at y
    show Sg _ _ _ _ (tau none (Sem.wrap _ _ _ _ (if true = true then _ else _))) _ _
    rw [if_pos rfl, Sem.bind_eq_wrap', Sem.wrap_wrap]
    rw [Sem.wrap_congr (execs body ev) _ _ (K' := wK (.whileLoop test body [] ev)) (H' := wJ ev) (fun f => by cases f <;> rfl)
      (fun e => by first | exact Sem.bind_eq_wrap _ _ | (show (do noteFrame e ev; theTreesLotGoes e : Sem Unit).bind (fun _ => .raise e) = _; rw [Sem.bind_eq_wrap]; rfl))]
    exact y
  | false =>
    rw [if_neg Bool.false_ne_true] at y
    show Sg _ _ _ _ (tau none (Sem.wrap _ _ _ _ (if false = true then _ else _))) _ _
    rw [if_neg Bool.false_ne_true]
    exact y
end
end GT

set_option Elab.async false
set_option linter.all false
set_option maxRecDepth 100000
set_option maxHeartbeats 1000000
namespace GT
open PySem PySem.Spec PyProof.Rows L2
open Sem (wp)
section
variable {P : Program} {w : World} {A : Around} {Z : End → Shared → Prop} {c : Code} {fs : List Frame} {s : Shared} {d : Option Value} {ev : Env} {K : Flow → Sem PySem.Fin} {J : Value → Sem PySem.Fin} {tg iter : Expr} {body : List Stmt} {pos : Pos}
theorem g_for (h : wpAny (hm (model P w)) (A.over c fs) (eval iter ev) (fun x z => wpAny (hm (model P w)) (A.over c fs) (pyIter x) (fun it z2 => ∀ k p l, (∀ f, k (.ok f) = tau d (K f)) →
      Sg (hm (model P w)) A Z (.forLoop tg it body [] ev) ((hm (model P w)).den (.forLoop tg it body [] ev)) (.ret k none false l c p [] :: fs) z2) (fun _ _ => False) z) (fun _ _ => False) s)
    (hs : ∀ x, foldedSetIterable iter ev x = pure x := by intro _; rfl) : Sg (hm (model P w)) A Z c (tau d ((exec (.For tg iter body [] pos) ev).wrap K J id id)) fs s := by
  rw [exec_For]
  rw [Sem.bind_eq_wrap', Sem.wrap_wrap]
  refine sg_tw (wpAny_standAt ?_)
  rw [Sem.bind_eq_wrap', Sem.wrap_wrap]
  refine sg_tw (wpAny_mono h (fun x z y => ?_) fun _ _ y => y.elim)
  rw [hs, Sem.bind_eq_wrap', Sem.wrap_wrap]
  refine sg_tw (wpAny_pure ?_)
  rw [Sem.bind_eq_wrap', Sem.wrap_wrap]
  refine sg_tw (wpAny_standAt ?_)
  rw [Sem.bind_eq_wrap', Sem.wrap_wrap]
  refine sg_tw (wpAny_holding (wpAny_mono y (fun it z2 q => ?_) fun _ _ y => y.elim))
  exact sg_call fun p => q _ p _ fun f => rfl
theorem g_fturn {it : Value} (h : wpAny (hm (model P w)) (A.over (.forLoop tg it body [] ev) fs) (pyNext it) (fun r z => match r with
      | none => Sg (hm (model P w)) A Z (.block [] ev) (.pure (.done .next)) fs z
      | some v => wpAny (hm (model P w)) (A.over (.forLoop tg it body [] ev) fs) (letOwnedTupleGo tg it v) (fun _ z1 => wpAny (hm (model P w)) (A.over (.forLoop tg it body [] ev) fs) (assign tg ev v) (fun _ z2 =>
          Sg (hm (model P w)) A Z (.forLoop tg it body [] ev) (tau none ((execs body ev).wrap (wK (.forLoop tg it body [] ev)) (wJ ev) id id)) fs z2) (fun _ _ => False) z1) (fun _ _ => False) z) (fun _ _ => False) s) :
    Sg (hm (model P w)) A Z (.forLoop tg it body [] ev) ((hm (model P w)).den (.forLoop tg it body [] ev)) fs s := by
  show Sg _ _ _ _ (tau none ((forTurn tg it body [] ev).onRaise fun x => do noteFrame x ev; theTreesLotGoes x)) _ _
  unfold forTurn
  rw [Sem.onRaise_eq_wrap, Sem.bind_eq_wrap', Sem.wrap_wrap]
  refine sg_tw (wpAny_standAt ?_)
  rw [Sem.bind_eq_wrap', Sem.wrap_wrap]
  refine sg_tw (wpAny_onRaise (wpAny_mono h (fun r z y => ?_) fun _ _ y => y.elim))
  cases r with
  | none => exact sg_again rfl y
  | some v =>
    dsimp only at y ⊢
    rw [Sem.bind_eq_wrap', Sem.wrap_wrap]
    refine sg_tw (wpAny_mono y (fun _ z1 y1 => ?_) fun _ _ y => y.elim)
    rw [Sem.bind_eq_wrap', Sem.wrap_wrap]
    refine sg_tw (wpAny_mono y1 (fun _ z2 y2 => ?_) fun _ _ y => y.elim)
    rw [Sem.bind_eq_wrap', Sem.wrap_wrap]
    rw [Sem.wrap_congr (execs body ev) _ _ (K' := wK (.forLoop tg it body [] ev)) (H' := wJ ev) (fun f => by cases f <;> rfl)
      (fun e => by first | exact Sem.bind_eq_wrap _ _ | (show (do noteFrame e ev; theTreesLotGoes e : Sem Unit).bind (fun _ => .raise e) = _; rw [Sem.bind_eq_wrap]; rfl))]
    exact y2
end
end GT

set_option Elab.async false
set_option linter.all false
set_option maxRecDepth 100000
set_option maxHeartbeats 1000000
/-! The call that makes a generator. -/
namespace GT
open PySem PySem.Spec PyProof.Rows L2
open Sem (wp)
section
variable {P : Program} {w : World} {A : Around} {s : Shared} {R : Result → Shared → Prop}
theorem gen_hm {fa : Addr} {args : Args} {o : Obj} {fd : FuncData} {bd : List Stmt} (room : A.depth < recursionLimit) (at_ : s.heap.get? fa = some o) (isf : o.data = .func fd) (nc : fd.scope.isCoroutine = false) (ng : fd.scope.isGenerator = true)
    (hbd : fd.body = .stmts bd) (rec_ : s.heap.CodeRec fd.code fd.qualname)
    (h : wpAny (hm (model P w)) A.in1 (bindArgs fd args) (fun bs s1 => wpAny (hm (model P w)) A.in1 (newFunctionEnv fd.scope fd.globals fd.closure bs (fd.qualname ++ ".<locals>.") (some fa) fd.code none fd.builtins)
        (fun ev s2 => s2.heap.NoLimit ∧ R (.ok (.ret (.ref s2.heap.objs.size))) { s2 with gens := s2.gens.push (.fresh (.func bd ev)), toks := s2.toks + 1 + 1, heap := s2.heap.push { cls := .type "generator", data := .fields #[.int s2.gens.size 0, .str fd.name s2.toks, .str fd.qualname (s2.toks + 1)] } })
        (fun x z => R (.error x) z) s1) (fun x z => R (.error x) z) s) : codeAny (hm (model P w)) A (.call (.ref fa) args) R s := by
  obtain ⟨c, oc, vs, t, hc, g1, g2, g3⟩ := rec_
  rw [hc] at h
  refine code_hm ?_
  show wpAny _ A.in1 (callAny (.ref fa) args) _ _ s
  unfold callAny
  refine wpAny_bind (wpAny_load at_ ?_)
  rw [isf]
  show wpAny _ _ (callFunction fa fd args) _ _ _
  unfold callFunction
  rw [hc, hbd, nc, ng]
  refine wpAny_bind (m := field (.ref c) 1) (wpAny_field g1 g2 g3 (wpAny_bind (wpAny_pure ?_)))
  refine wpAny_bind (wpAny_mono h (fun bs s1 h1 => ?_) fun _ _ y => y)
  refine wpAny_bind (wpAny_mono h1 (fun ev s2 h2 => ?_) fun _ _ y => y)
  refine wpAny_bind (wpAny_enterFrame h2.1 room ?_)
  simp only [newGenerator, newFields]
  exact wpAny_bind (wpAny_bind (wpAny_newGen (wpAny_bind (wpAny_mkText (wpAny_bind (wpAny_mkText (wpAny_newObj_type (wpAny_pure h2.2) (by size_fits))))))))
end
/-- a generator is born: its names' dict at the end of the old heap, its object behind it -/
structure Born (bd : List Stmt) (qual : Str) (sc : Scope) (f : Addr) (cd : Value) (binds : List (Str × Value)) (s s' : Shared) (a g : Nat) : Prop where
  os : s'.os = s.os
  num : g = s.gens.size
  gens : s'.gens = s.gens.push (.fresh (.func bd (envOfC qual sc s.heap.objs.size f cd)))
  keep : ∀ b o, s.heap.get? b = some o → s'.heap.get? b = some o
  isg : IsG s'.heap a g
  old : s.heap.objs.size < a
  size : s'.heap.objs.size = a + 1
  ns : s'.heap.Ns s.heap.objs.size (bindL (envOfC qual sc s.heap.objs.size f cd).kindOf binds fun _ => none)
section
variable {P : Program} {w : World} {K : PySem.W.Frag} {mg : Str → Option Value} {base : Heap}
theorem born_of {f : Addr} {name qual : Str} {params : Arguments} {body : List Stmt} {scope : Scope} {dV kV doc pm cdv ct oc : Value} {an od : Option Addr} {osl : Array (Option Value)} {N ps : List Str} {A : Around} {outer : List Env} {s : Shared} {H : Hp} {args : Args} {us : List Value} {R : Result → Shared → Prop}
    (at_ : K.lookup f = some ⟨oc, od, .func (PySem.W.fnOf name qual params body scope dV kV doc pm an cdv ct), osl⟩) (code : PySem.W.codeIn K cdv qual = true) (S : GScope N ps scope) (room : A.depth < recursionLimit) (env : Env0 P w K mg base A outer (gw s #[]) H)
    (binds : BindsTo s (PySem.W.fnOf name qual params body scope dV kV doc pm an cdv ct) args (ps.zip us)) (h : ∀ s' a g, Born body qual scope f cdv (ps.zip us) s s' a g → R (.ok (.ret (.ref a))) s') : codeAny (hm (model P w)) A (.call (.ref f) args) R s := by
  have here : K.In s.heap := env.mod.kin.keeps fun b o e => (env.bs b o e).1
  have free : s.heap.NoLimit := env.mod.nolimit.keeps fun b o e => (env.bs b o e).1
  have kinds : ∀ y ∈ ps.zip us, scope.names.lookup y.1 = some .local ∨ (scope.names.lookup y.1 = some .cell ∧ ((cellsFrom (s.heap.objs.size + 1) scope.names []).lookup y.1).isSome = true) := by
    rintro ⟨n, v⟩ hy
    exact (S.par n (List.of_mem_zip hy).1).imp id fun q => ⟨q, PySem.W.cellsFrom_some _ _ _ (.inl q)⟩
  refine gen_hm room (here _ _ at_) rfl S.co S.gen rfl (PySem.W.codeRec_of here code) (binds _ _ _ _ ?_)
  refine wpAny_newFunctionEnv_cells S.kind kinds fun e1 he s1 x => ?_
  subst he
  have ns := x.toInCall.ns
  obtain ⟨h1, tk, rfl, hk⟩ := x.done
  refine ⟨free.keeps hk, h _ _ _ ⟨rfl, rfl, rfl, fun b o e => Heap.get?_push_of_some _ (hk b o e), ⟨_, _, _, Heap.get?_push_size _ rfl, rfl, rfl, .inl rfl⟩, ns.lt, Heap.size_push _ _, ?_⟩⟩
  exact ns.keeps fun b o e => Heap.get?_push_of_some _ e
end
end GT

set_option Elab.async false
set_option linter.all false
set_option maxRecDepth 100000
set_option maxHeartbeats 1000000
namespace GT
open PySem PySem.Spec PyProof.Rows L2
open Sem (wp)
theorem upd_size (h : Heap) (a : Addr) (f : Obj → Obj) : (h.update a f).objs.size = h.objs.size := by
  obtain ⟨os, lf⟩ := h
  simp [Heap.update]
theorem sg_size (s : Shared) (g : Nat) (x : GenState) : (s.setGen g x).gens.size = s.gens.size := by show (s.gens.setIfInBounds g x).size = _; rw [Array.size_setIfInBounds]
/-- nothing is taken away -/
theorem runs_size {M : Model} {Γ : PySem.Ctx} {p : Pos} {t : Sem PySem.Fin} {fs : List Frame} {s s' : Shared} {e : End} (h : Runs M Γ p t fs s e s') : s.heap.objs.size ≤ s'.heap.objs.size ∧ s.gens.size ≤ s'.gens.size := by
  induction h with
  | done | raise | «yield» => exact ⟨Nat.le_refl _, Nat.le_refl _⟩
  | again _ _ ih | rule _ ih | «at» _ ih | load _ _ ih | loadIfAlive _ ih | point _ ih | fresh _ ih | ask _ ih | choose _ _ ih | os _ ih | handled _ ih | genState _ _ ih | stack _ ih | thread _ ih | resumeJustStarted _ _ _ ih | resumeRunning _ _ ih | resumeFinished _ _ ih => exact ih
  | update _ _ ih => exact ⟨by have := ih.1; rw [upd_size] at this; exact this, ih.2⟩
  | alloc _ ih => exact ⟨Nat.le_trans (Nat.le_of_lt (by rw [Heap.size_push]; exact Nat.lt_succ_self _)) ih.1, ih.2⟩
  | newGen _ ih => exact ⟨ih.1, Nat.le_trans (by rw [Array.size_push]; exact Nat.le_succ _) ih.2⟩
  | call _ _ i1 i2 => exact ⟨Nat.le_trans i1.1 i2.1, Nat.le_trans i1.2 i2.2⟩
  | callSusp _ ih => exact ih
  | resumeFresh _ _ _ _ i1 i2 | resumeSuspended _ _ _ _ i1 i2 =>
    refine ⟨Nat.le_trans i1.1 i2.1, ?_⟩
    have a := i1.2
    have b := i2.2
    rw [sg_size] at a b
    exact Nat.le_trans a b
  | resumeThrowFresh _ _ ih => exact ⟨ih.1, by have := ih.2; rw [sg_size] at this; exact this⟩
  | segRet _ _ i1 i2 => exact ⟨Nat.le_trans i1.1 i2.1, Nat.le_trans i1.2 i2.2⟩
  | segGen _ _ i1 i2 => exact ⟨Nat.le_trans i1.1 i2.1, Nat.le_trans i1.2 (by have := i2.2; rw [sg_size] at this; exact this)⟩
  | segSuspOut _ _ ih => exact ih
  | segSuspGen _ _ _ _ i1 i2 => exact ⟨Nat.le_trans i1.1 i2.1, Nat.le_trans i1.2 (by have := i2.2; rw [sg_size] at this; exact this)⟩
theorem sg_sz {M : Model} {A : Around} {Z : End → Shared → Prop} {c : Code} {t : Sem PySem.Fin} {fs : List Frame} {s : Shared} (h : Sg M A (fun e s' => s.heap.objs.size ≤ s'.heap.objs.size → s.gens.size ≤ s'.gens.size → Z e s') c t fs s) : Sg M A Z c t fs s := fun Γ p e w => by
  obtain ⟨e, s', r, z⟩ := h Γ p e w
  obtain ⟨a, b⟩ := runs_size r
  exact ⟨e, s', r, z a b⟩
/-- a run of a frame's own statements, as others see it -/
theorem stp_of {X : Cx} {Hg : Hp} {s₀ s : Shared} {pins : List (Addr × Obj)} {σ : L2.St} {F F' : Foot} (G : GX X Hg) (I : IM (reb X Hg s₀) pins σ Hg s) (a0 : HOk X.prog X.w Hg s₀.heap) (hl : X.env.locals ∈ F.objs) (hsz : s₀.heap.objs.size ≤ s.heap.objs.size) (hgz : s₀.gens.size ≤ s.gens.size) (os : s.os = s₀.os)
    (hp : ∀ b o, s₀.heap.get? b = some o → X.env.locals ≤ b → b ∉ F.objs → (∀ v, o.data ≠ .cell v) → Hg b = none → (b, o) ∈ pins) (keepG : ∀ (i : Nat) y, s₀.gens[i]? = some y → i ∉ F.gens → Sus y → s.gens[i]? = some y) (newG : ∀ (i : Nat) y, s.gens[i]? = some y → (s₀.gens[i]? = some y ∧ i ∉ F.gens) ∨ Plain y ∨ i ∈ F'.gens)
    (hO : ∀ b ∈ F'.objs, b ∈ F.objs ∨ s₀.heap.objs.size ≤ b) (hI : ∀ i ∈ F'.gens, i ∈ F.gens ∨ s₀.gens.size ≤ i) (sg : ∀ i ∈ F'.gens, ∃ y, s.gens[i]? = some y ∧ Sus y ∧ Kby F'.objs s.heap y) (tp : ∀ b ∈ F'.objs, ∃ o, s.heap.get? b = some o ∧ ∀ v, o.data ≠ .cell v) : Stp X.prog X.w Hg X.env.locals X.outer F F' s₀ s := by
  have noA : ∀ b : Addr, b ∉ (reb X Hg s₀).ex := fun b hb => by
    have hb : b ∈ X.ex := hb
    rw [G.ex] at hb
    cases hb
  refine ⟨os, I.wf, hsz, hgz, fun b o e nc nh nf nx => ?_, I.inv.hok, fun b o e hb => ?_, keepG, newG, hO, hI, sg, tp⟩
  · by_cases hb : b < X.env.locals
    · exact I.inv.base.keep b o (to_cut hb e) nh nx (noA b)
    · refine (I.inv.pin (b, o) (List.mem_append_right _ (hp b o e (Nat.not_lt.mp hb) nf (fun v q => hb (nc v q)) nh))).1
  · exact I.inv.base.slot b o (to_cut (G.old b hb) e) (G.frf b hb) hb (noA b)
end GT

set_option Elab.async false
set_option linter.all false
set_option maxRecDepth 100000
set_option maxHeartbeats 1000000
/-! The calm rules within a generator's body. -/
namespace GT
open PySem PySem.Spec PyProof.Rows L2
open Sem (wp)
section
variable {X : Cx} {Hg : Hp} {s₀ s : Shared} {A : Around} {Z : End → Shared → Prop} {c : Code} {fs : List Frame} {d : Option Value} {K : Flow → Sem PySem.Fin} {J : Value → Sem PySem.Fin} {pins : List (Addr × Obj)} {σ : L2.St} {H : Hp}
theorem g_ps {st : Stmt} {t : TS} {D : Ends} (hA : A.over c fs = X.A) (h : PSm (reb X Hg s₀) st t) (I : IM (reb X Hg s₀) pins σ H s) (ht : t D σ H) (hk : ∀ f z, FM (reb X Hg s₀) pins D s.gens f z → Sg (MM X) A Z c (tau d (K f)) fs z)
    (hx : ∀ e z, ¬ XM (reb X Hg s₀) s.gens e z) : Sg (MM X) A Z c (tau d ((exec st X.env).wrap K J id id)) fs s :=
  g_calm (by rw [hA]; exact wpAny_mono (h.run pins s σ H D I ht) hk fun e z y => (hx e z y).elim)
theorem g_tst {test : Expr} {body orelse : List Stmt} {pos : Pos} {t : TT} {Q : Bool → Hp → Prop} (hA : A.over c fs = X.A) (h : PTm (reb X Hg s₀) test t) (I : IM (reb X Hg s₀) pins σ H s) (ht : t σ H Q) (hx : ∀ e z, ¬ XM (reb X Hg s₀) s.gens e z)
    (hk : ∀ b z H', IM (reb X Hg s₀) pins σ H' z → Q b H' → Cal s.gens z.gens → if b = true then Sg (MM X) A Z c (tau d ((execs body X.env).wrap K J id id)) fs z else Sg (MM X) A Z c (tau d ((execs orelse X.env).wrap K J id id)) fs z) :
    Sg (MM X) A Z c (tau d ((exec (.If test body orelse pos) X.env).wrap K J id id)) fs s :=
  g_if (by rw [hA]; exact wpAny_mono (h.run pins s σ H Q I ht) (fun b z ⟨H', J, q, c⟩ => hk b z H' J q c) fun e z y => (hx e z y).elim)
theorem g_wtst {test : Expr} {body : List Stmt} {t : TT} {Q : Bool → Hp → Prop} (hA : A.over (.whileLoop test body [] X.env) fs = X.A) (h : PTm (reb X Hg s₀) test t) (I : IM (reb X Hg s₀) pins σ H s) (ht : t σ H Q) (hx : ∀ e z, ¬ XM (reb X Hg s₀) s.gens e z)
    (hk : ∀ b z H', IM (reb X Hg s₀) pins σ H' z → Q b H' → Cal s.gens z.gens → if b = true then Sg (MM X) A Z (.whileLoop test body [] X.env) (tau none ((execs body X.env).wrap (wK (.whileLoop test body [] X.env)) (wJ X.env) id id)) fs z else Sg (MM X) A Z (.whileLoop test body [] X.env) (.pure (.done .next)) fs z) :
    Sg (MM X) A Z (.whileLoop test body [] X.env) ((MM X).den (.whileLoop test body [] X.env)) fs s :=
  g_turn (by rw [hA]; exact wpAny_mono (h.run pins s σ H Q I ht) (fun b z ⟨H', J, q, c⟩ => hk b z H' J q c) fun e z y => (hx e z y).elim)
/-- yield of a calm value -/
theorem g_yld {e : Expr} {yp pos : Pos} {t : TE} {Q : VK} (hA : A.over c fs = X.A) (hfs : splitAtGen fs = none) (h : PEm (reb X Hg s₀) e t) (I : IM (reb X Hg s₀) pins σ H s) (ht : t σ H Q) (hx : ∀ e z, ¬ XM (reb X Hg s₀) s.gens e z) (hco : X.env.scope.isCoroutine = false)
    (hk : ∀ x v z H', IM (reb X Hg s₀) pins σ H' z → RelV x v → Q x H' → Cal s.gens z.gens → ∀ l k p, mk ∉ l → (∀ Z' z', Sg (MM X) A Z' c (tau none (K .next)) fs z' → Sg (MM X) A Z' c (k (.send .none)) fs z') → Z (.susp v false l k c p fs) z) :
    Sg (MM X) A Z c (tau none ((exec (.Expr (.Yield (some e) yp) pos) X.env).wrap K J id id)) fs s :=
  g_yield hfs (by rw [hA]; exact wpAny_mono (h.run pins s σ H Q I ht) (fun v z ⟨x, H', J, r, q, c⟩ l k p nl y => hk x v z H' J r q c l k p nl y) fun e z y => (hx e z y).elim) rfl hco I.inv.quiet
end
/-- behind the veil nothing is raised where nothing can be -/
theorem no_xm {X : Cx} {G : Array GenState} {e : Value} {z : Shared} (h : ∀ e z, ¬ X.xe e z) : ¬ XM X G e z := fun ⟨_, γ, _, p⟩ => h e _ p
end GT

set_option Elab.async false
set_option linter.all false
set_option maxRecDepth 100000
set_option maxHeartbeats 1000000
/-! The consumer behind a run of its generator. -/
namespace GT
open PySem PySem.Spec PyProof.Rows L2
open Sem (wp)
theorem ok_there {P : Program} {w : World} {H : Hp} {h : Heap} {a : Addr} {u : HO} (x : ObjOk P w H h a u) : ∃ o, h.get? a = some o := by
  cases u with
  | lst xs => obtain ⟨_, its, n, _, e⟩ := x; exact ⟨_, e⟩
  | tup xs => obtain ⟨_, its, _, o, e, _⟩ := x; exact ⟨_, e⟩
  | dK kvs => obtain ⟨_, _, vs, _, o, es, ep, e, _⟩ := x; exact ⟨_, e⟩
  | dT kvs => obtain ⟨_, _, xs, _, o, es, ep, e, _⟩ := x; exact ⟨_, e⟩
  | set S n => obtain ⟨o, _, _, _, e, _⟩ := x; exact ⟨_, e⟩
  | ins C dx fs => obtain ⟨_, _, _, e, _⟩ := x; exact ⟨_, e⟩
  | own x0 => exact x
  | xd fs => obtain ⟨_, ⟨_, _, _, e, _⟩, _⟩ := x; exact ⟨_, e⟩
  | met f x0 => exact ⟨_, x⟩
  | rng lo hi => obtain ⟨t, u, v, e⟩ := x; exact ⟨_, e⟩
  | frz o u => exact ⟨_, x.1⟩
  | tbl ps => exact ⟨_, x⟩
  | ext φ => exact x.2.1
theorem im_after {X : Cx} {pins : List (Addr × Obj)} {σ : L2.St} {H Hg : Hp} {s s1 : Shared} {F F' : Foot} {L : Addr} (I : IM X pins σ H s) (st : Stp X.prog X.w Hg L X.stack F F' s s1) (sub : ∀ b u, Hg b = some u → H b = some u) (cls : ∀ b c, Hg c = some (.own b) → ∃ u, Hg b = some u)
    (own : ∀ b ∈ F.objs, FpOk X pins H b) (cl : ∀ x c, X.env.cells.lookup x = some c → c < L) (h0 : X.s_0.heap.objs.size ≤ L) (hcc : ∀ b u o v, H b = some u → s.heap.get? b = some o → o.data = .cell v → b < L) : IM X pins σ H s1 := by
  classical
  let ch : List Addr := F.objs ++ (List.range s.heap.objs.size).filter fun b => decide (L ≤ b ∧ ∃ o v, s.heap.get? b = some o ∧ o.data = .cell v)
  have inC : ∀ b o v, L ≤ b → s.heap.get? b = some o → o.data = .cell v → b ∈ ch := fun b o v h1 h2 h3 =>
    List.mem_append_right _ (List.mem_filter.mpr ⟨List.mem_range.mpr (Heap.lt_size h2), decide_eq_true ⟨h1, o, v, h2, h3⟩⟩)
  have outF : ∀ b u, H b = some u → b ∉ F.objs := fun b u e h => by rw [(own b h).1] at e; cases e
  have outX : ∀ b u, H b = some u → b ∉ frs X.stack := fun b u e h => by rw [I.inv.stkFree b h] at e; cases e
  have kept : ∀ b u o, H b = some u → Hg b = none → s.heap.get? b = some o → s1.heap.get? b = some o := fun b u o e n q => st.keep b o q (fun v hv => hcc b u o v e q hv) n (outF b u e) (outX b u e)
  have J : Inv X pins σ H (gw s1 #[]) := by
    refine Inv.call' (s' := gw s1 #[]) (ch := ch) I.inv st.os ⟨fun b o e n nf nc => ?_, fun b o e n hb nc => st.slot b o e hb, fun b o e n _ => n, fun b o e nc => ?_, fun _ _ e => e, fun _ _ _ e => e, fun b ps e => ⟨#[], by rw [e]; simp⟩⟩ (fun b u e => ?_) bare_nil fun b hb => ?_
    · refine st.keep b o e (fun v hv => ?_) ?_ (fun h => nc (List.mem_append_left _ h)) nf
      · by_cases q : b < L
        · exact q
        · exact absurd (inC b o v (Nat.not_lt.mp q) e hv) nc
      · cases hq : Hg b with
        | none => rfl
        | some u => rw [sub b u hq] at n; cases n
    · by_cases hb : b ∈ frs X.stack
      · obtain ⟨sl, q⟩ := st.slot b o e hb
        exact ⟨_, q⟩
      · cases hq : Hg b with
        | none =>
          refine ⟨o, st.keep b o e (fun v hv => ?_) hq (fun h => nc (List.mem_append_left _ h)) hb⟩
          by_cases q : b < L
          · exact q
          · exact absurd (inC b o v (Nat.not_lt.mp q) e hv) nc
        | some u =>
          exact ok_there (st.hok b u hq)
    · cases hq : Hg b with
      | some u' =>
        have e2 := sub b u' hq
        rw [e] at e2
        cases e2
        exact (st.hok b u hq).stay (fun _ _ _ q => q) (fun c q => sub c _ q) fun c xs q => sub c _ q
      | none =>
        refine (I.inv.hok b u e).stay (fun c v hc q => ?_) (fun _ q => q) fun _ _ q => q
        rcases hc with rfl | hc
        · exact kept c u v e hq q
        · refine kept c _ v hc ?_ q
          cases hz : Hg c with
          | none => rfl
          | some z =>
            have e2 := sub c z hz
            rw [hc] at e2
            cases e2
            obtain ⟨y, hy⟩ := cls b c hz
            rw [hq] at hy
            cases hy
    · rcases List.mem_append.mp hb with h | h
      · obtain ⟨h1, h2, h3, h4, h5, h6⟩ := own b h
        exact ⟨h4, h2, h5, h6⟩
      · obtain ⟨h1, o, v, h2, h3⟩ := of_decide_eq_true (List.mem_filter.mp h).2
        refine ⟨.inr (Nat.le_trans h0 h1), fun q => ?_, fun x c q z => absurd (cl x c q) (Nat.not_lt.mpr (z ▸ h1)), fun p hp q => ?_⟩
        · obtain ⟨m, ⟨o', es, n, e1, d1, _⟩, _⟩ := I.inv.loc
          have e1 : s.heap.get? X.env.locals = some o' := e1
          rw [← q, h2] at e1
          cases e1
          rw [h3] at d1
          cases d1
        · obtain ⟨e1, _, _, _, e5⟩ := I.inv.pin p hp
          have e1 : s.heap.get? p.1 = some p.2 := e1
          rw [q, h2] at e1
          cases e1
          exact e5 v h3
  exact ⟨J, st.wf⟩
end GT

set_option Elab.async false
set_option linter.all false
set_option maxRecDepth 100000
/-! Loops whose bodies reach a generator. -/
namespace GT
open PySem PySem.Spec PyProof.Rows L2
open Sem (wp)
theorem came_m {X : Cx} {G0 : Array GenState} {e : Value} {s : Shared} (h : PB G0 (fun z => cameBackBy (model X.prog X.w) X.A X.env X.xe e z) s) : cameBackBy (MM X) X.A X.env (XM X G0) e s := by
  unfold cameBackBy at h ⊢
  exact any_veil h
theorem pass_m {X : Cx} {G0 : Array GenState} (hp : PassesOwn (model X.prog X.w) X.A X.env X.xe) : PassesOwn (MM X) X.A X.env (XM X G0) := fun e s h => by
  have z := pb_mono (P' := fun z => notedBy (model X.prog X.w) X.A X.env (cameBackBy (model X.prog X.w) X.A X.env X.xe) e z) (fun γ y => hp e _ y) h
  unfold notedBy at z ⊢
  exact wpAny_mono (any_veil z) (fun _ s' y => came_m y) fun x s' y => came_m y
section
variable {P : Program} {w : World} {A : Around} {s : Shared} {R : Result → Shared → Prop} {ev : Env} {body : List Stmt}
theorem while_hm {test : Expr} (I : Nat → Shared → Prop) (turn : ∀ n s, I n s → wpAny (hm (model P w)) A (isTrue test ev (eval test ev)) (fun b z => if b = true then wpAny (hm (model P w)) A (execs body ev) (fun f y => match f with
      | .next | .cont => ∃ m, m < n ∧ I m y
      | .brk => R (.ok .next) y
      | .ret v => R (.ok (.ret v)) y) (notedBy (hm (model P w)) A ev fun e y => R (.error e) y) z else R (.ok .next) z) (notedBy (hm (model P w)) A ev fun e y => R (.error e) y) s) (n : Nat) (h : I n s) : codeAny (hm (model P w)) A (.whileLoop test body [] ev) R s := by
  refine codeAny_loop' rfl I (fun n s hI => ?_) n h
  show wpAny _ A (tau none ((whileTurn test body [] ev).onRaise fun x => do noteFrame x ev; theTreesLotGoes x)) _ _ s
  refine any_tau.mpr (wpAny_noted ?_)
  unfold whileTurn
  refine wpAny_bind (wpAny_mono (turn n s hI) (fun b z y => ?_) fun _ _ y => y)
  cases b with
  | true =>
    rw [if_pos rfl] at y ⊢
    refine wpAny_bind (wpAny_mono y (fun f z1 y1 => ?_) fun _ _ y => y)
    cases f with
    | next => exact wpAny_pure (.inl ⟨rfl, y1⟩)
    | cont => exact wpAny_pure (.inl ⟨rfl, y1⟩)
    | brk => exact wpAny_pure y1
    | ret v => exact wpAny_pure y1
  | false =>
    rw [if_neg Bool.false_ne_true] at y ⊢
    exact wpAny_bind (wpAny_pure (wpAny_pure y))
theorem for_hm {tg : Expr} {it : Value} (I : Nat → Shared → Prop) (turn : ∀ n s, I n s → wpAny (hm (model P w)) A (pyNext it) (fun r z => match r with
      | none => R (.ok .next) z
      | some v => wpAny (hm (model P w)) A (letOwnedTupleGo tg it v) (fun _ z1 => wpAny (hm (model P w)) A (assign tg ev v) (fun _ z2 => wpAny (hm (model P w)) A (execs body ev) (fun f y => match f with
          | .next | .cont => ∃ m, m < n ∧ I m y
          | .brk => R (.ok .next) y
          | .ret v => R (.ok (.ret v)) y) (notedBy (hm (model P w)) A ev fun e y => R (.error e) y) z2) (notedBy (hm (model P w)) A ev fun e y => R (.error e) y) z1) (notedBy (hm (model P w)) A ev fun e y => R (.error e) y) z)
      (notedBy (hm (model P w)) A ev fun e y => R (.error e) y) s) (n : Nat) (h : I n s) : codeAny (hm (model P w)) A (.forLoop tg it body [] ev) R s := by
  refine codeAny_loop' rfl I (fun n s hI => ?_) n h
  show wpAny _ A (tau none ((forTurn tg it body [] ev).onRaise fun x => do noteFrame x ev; theTreesLotGoes x)) _ _ s
  refine any_tau.mpr (wpAny_noted ?_)
  unfold forTurn
  refine wpAny_bind (wpAny_standAt (wpAny_bind (wpAny_onRaise (wpAny_mono (turn n s hI) (fun r z y => ?_) fun _ _ y => wpAny_standAt y))))
  cases r with
  | none => exact wpAny_pure (.inr ⟨rfl, code_hm (wpAny_bind (wpAny_onRaise (wpAny_pure (wpAny_pure y))))⟩)
  | some v =>
    refine wpAny_bind (wpAny_mono y (fun _ z1 y1 => ?_) fun _ _ y => y)
    refine wpAny_bind (wpAny_mono y1 (fun _ z2 y2 => wpAny_bind (wpAny_mono y2 (fun f z3 y3 => ?_) fun _ _ y => y)) fun _ _ y => y)
    cases f with
    | next => exact wpAny_pure (.inl ⟨rfl, y3⟩)
    | cont => exact wpAny_pure (.inl ⟨rfl, y3⟩)
    | brk => exact wpAny_pure y3
    | ret v => exact wpAny_pure y3
end
section
variable {X : Cx} {pos : Pos}
theorem s_while {c : Expr} {body : List Stmt} {tc : TT} {tb : TS} (hp : PassesOwn (model X.prog X.w) X.A X.env X.xe) (hc : PTm X c tc) (hb : PBm X body tb) : PSm X (.While c body [] pos) (tWhile tc tb) := by
  refine ⟨fun pins s σ H D I h => ?_⟩
  obtain ⟨W, ⟨m0, w0⟩, turn⟩ := h
  have po := pass_m (G0 := s.gens) hp
  refine wpAny_While (while_hm (fun n z => ∃ σ' H', IM X pins σ' H' z ∧ Cal s.gens z.gens ∧ W n σ' H') ?_ m0 ⟨σ, H, I, .refl _, w0⟩)
  rintro n s1 ⟨σ1, H1, I1, c1, w1⟩
  refine wpAny_passesOwn po (next (β := Unit) c1 (hc.run pins s1 σ1 H1 _ I1 (turn n σ1 H1 w1)) fun b s2 ⟨H2, I2, q2, c2⟩ => ?_)
  have c12 := c1.trans c2
  cases b with
  | true =>
    obtain ⟨N, hN, q2⟩ := q2
    rw [if_pos rfl]
    refine wpAny_passesOwn po (next (β := Unit) c12 (hb.run pins s2 σ1 H2 _ I2 q2) fun f s3 ⟨c3, q3⟩ => ?_)
    have c13 := c12.trans c3
    match f, q3 with
    | .next, ⟨σ3, H3, I3, n3⟩ =>
      obtain ⟨m', hm, w3⟩ := hN σ3 H3 n3
      exact ⟨m', hm, σ3, H3, I3, c13, w3⟩
    | .cont, ⟨σ3, H3, I3, n3⟩ =>
      obtain ⟨m', hm, w3⟩ := hN σ3 H3 n3
      exact ⟨m', hm, σ3, H3, I3, c13, w3⟩
    | .brk, q3 => exact ⟨c13, q3⟩
    | .ret v, q3 => exact ⟨c13, q3⟩
  | false =>
    rw [if_neg Bool.false_ne_true]
    exact ⟨c12, σ1, H2, I2, q2⟩
end
end GT

set_option Elab.async false
set_option linter.all false
set_option maxRecDepth 100000
namespace GT
open PySem PySem.Spec PyProof.Rows L2
open Sem (wp)
section
variable {X : Cx} {pos : Pos}
/-- two calm steps, one within the other -/
theorem lift2 {α β : Type} {t : Sem α} {u : α → Sem β} {pins : List (Addr × Obj)} {σ : L2.St} {H : Hp} {s : Shared} {B : α → β → Shared → Prop} (I : IM X pins σ H s)
    (h : wpAny (model X.prog X.w) X.A t (fun a z => wpAny (model X.prog X.w) X.A (u a) (B a) X.xe z) X.xe (gw s (s.gens.map pois))) :
    wpAny (MM X) X.A t (fun a z => wpAny (MM X) X.A (u a) (fun b y => PB s.gens (B a b) y) (XM X s.gens) z) (XM X s.gens) s :=
  wpAny_mono (any_veil (pb_start I.wf h)) (fun a z y => any_veil y) fun e z y => y
theorem s_for {tg iter : Expr} {body : List Stmt} {wi : TI} {g : TG} {tb : TS} (hp : PassesOwn (model X.prog X.w) X.A X.env X.xe) (hc : X.calm = true) (hi : PI X tg iter wi) (hg : PG X tg g) (hb : PBm X body tb)
    (hs : ∀ x, foldedSetIterable iter X.env x = pure x := by intro _; rfl) : PSm X (.For tg iter body [] pos) (tFor wi g tb) := by
  refine ⟨fun pins s σ H D I h => ?_⟩
  have po := pass_m (G0 := s.gens) hp
  refine wpAny_For (wpAny_mono (lift2 I (hi.run pins _ σ H _ I.calm h)) (fun v z y => wpAny_mono y (fun itv s2 ⟨Kv, γ, vl, q⟩ => ?_) fun _ _ y => y) fun _ _ y => y) hs
  obtain ⟨it, fp, tn, J2, H2, e, I2, T, st2, f2, W, ⟨m0, w0⟩, turn⟩ := q
  subst e
  have cal2 := vl.cal I2.bare
  have stat : ∀ {H' : Hp}, (∀ b ∈ fp, H' b = none) → ∀ b ∈ fp, FpOk X pins H' b := fun hn b hb => ⟨hn b hb, (f2 b hb).2⟩
  refine for_hm (fun n y => ∃ i σ' H', IM X pins σ' H' y ∧ Cal s.gens y.gens ∧ tn i y.heap ∧ (∀ b ∈ fp, H' b = none) ∧ W i n σ' H') ?_ m0 ⟨0, σ, H2, IM.of I2 vl.wfG, cal2, st2, fun b hb => (f2 b hb).1, w0⟩
  rintro n s3 ⟨i, σ3, H3, I3, c3, st3, fr3, w3⟩
  rcases turn i n σ3 H3 w3 with ⟨stop, qn⟩ | ⟨go, N, hN, step⟩
  · refine wpAny_passesOwn po (next (β := Unit) c3 (any_veil (pb_start I3.wf (T.done X rfl rfl rfl hc i pins _ σ3 H3 X.xe I3.calm (stat fr3) st3 stop))) fun r s4 ⟨K4, γ4, v4, hr, I4⟩ => ?_)
    subst hr
    exact ⟨c3.trans (v4.cal I4.bare), σ3, H3, IM.of I4 v4.wfG, qn⟩
  · refine wpAny_passesOwn po (next (β := Unit) c3 (any_veil (pb_start I3.wf (T.item X rfl rfl rfl hc i pins _ σ3 H3 X.xe I3.calm (stat fr3) st3 go))) fun r s4 y4 => ?_)
    obtain ⟨K4, γ4, v4, u, hr, h4⟩ := y4
    subst hr
    refine wpAny_passesOwn po (wpAny_mono (any_veil (G0 := s3.gens) ⟨K4, γ4, v4, h4⟩) (fun _ s5 y5 => ?_) fun e z y => pb_older c3 y)
    obtain ⟨K5, γ5, v5, x, H5, I5, r5, y5, st5, fr5⟩ := y5
    have c5 := c3.trans (v5.cal I5.bare)
    have I5' : IM X (pins ++ pinsAt fp s5.heap) σ3 H5 s5 := IM.of (γ := γ5) (L2.Inv.pinned (s := gw s5 γ5) I5 (stat fr5) (T.obj _ _ st5)) v5.wfG
    refine wpAny_passesOwn po (next (β := Unit) c5 (asg_m hg I5' r5 (step x H5 y5)) fun _ s6 ⟨σ6, H6, I6, q6, c6⟩ => ?_)
    have c56 := c5.trans c6
    refine wpAny_passesOwn po (next (β := Unit) c56 (hb.run _ s6 σ6 H6 _ I6 q6) fun f s7 ⟨c7, q7⟩ => ?_)
    have c57 := c56.trans c7
    have off : ∀ {σ7 : L2.St} {H7 : Hp}, IM X (pins ++ pinsAt fp s5.heap) σ7 H7 s7 → IM X pins σ7 H7 s7 := fun I7 => ⟨Inv.unpinned I7.inv, I7.wf⟩
    have again : ∀ {σ7 : L2.St} {H7 : Hp}, IM X (pins ++ pinsAt fp s5.heap) σ7 H7 s7 → N σ7 H7 → ∃ m, m < n ∧ ∃ i σ' H', IM X pins σ' H' s7 ∧ Cal s.gens s7.gens ∧ tn i s7.heap ∧ (∀ b ∈ fp, H' b = none) ∧ W i m σ' H' := fun {σ7 H7} I7 n7 => by
      obtain ⟨m', hm, w7⟩ := hN σ7 H7 n7
      have there : ∀ b ∈ fp, ∀ o, s5.heap.get? b = some o → s7.heap.get? b = some o ∧ H7 b = none := fun b hb o e => by
        obtain ⟨e1, e2, _⟩ := I7.inv.pin (b, o) (List.mem_append_right _ (List.mem_append_right _ (mem_pinsAt hb e)))
        exact ⟨e1, e2⟩
      refine ⟨m', hm, i + 1, σ7, H7, off I7, c57, T.keep _ _ _ st5 (fun b hb o e => (there b hb o e).1), fun b hb => ?_, w7⟩
      obtain ⟨o, e, d⟩ := T.obj _ _ st5 b hb
      exact (there b hb o e).2
    match f, q7 with
    | .next, ⟨σ7, H7, I7, n7⟩ => exact again I7 n7
    | .cont, ⟨σ7, H7, I7, n7⟩ => exact again I7 n7
    | .brk, ⟨σ7, H7, I7, q7⟩ => exact ⟨c57, σ7, H7, off I7, q7⟩
    | .ret v, ⟨x7, σ7, H7, I7, r7, q7⟩ => exact ⟨c57, x7, σ7, H7, off I7, r7, q7⟩
end
end GT

set_option Elab.async false
set_option linter.all false
set_option maxRecDepth 100000
set_option maxHeartbeats 1000000
/-! A generator that is ready, in its consumer's hands. -/
namespace GT
open PySem PySem.Spec PyProof.Rows L2
open Sem (wp)
/-- in the frame X: the generator at a is ready to hand out xs -/
structure Hold (X : Cx) (Hg : Hp) (L : Addr) (A : Around) (xs : List V) (F : Foot) (a : Addr) (g : Nat) (s : Shared) : Prop where
  isg : IsG s.heap a g
  gen : ∃ gs, s.gens[g]? = some gs ∧ (gs.status = .fresh ∨ gs.status = .suspended) ∧ ∀ z, Ltr X.prog X.w X.base X.stack Hg F s z → RdyG (MM X) A (Ltr X.prog X.w X.base X.stack Hg) (Stp X.prog X.w Hg L X.stack) xs F gs z
  gF : g ∉ F.gens
  aF : a ∉ F.objs
  gS : g < s.gens.size
/-- it is asked for its next, by the frame -/
theorem hold_next {X : Cx} {Hg : Hp} {L : Addr} {xs : List V} {F : Foot} {a : Addr} {g : Nat} {s : Shared} {Q : GenResult → Shared → Prop} {E : Value → Shared → Prop} {A : Around} (h : Hold X Hg L A xs F a g s) (wf : WF s.gens) (bs : ∀ b o, X.base.get? b = some o → s.heap.get? b = some o)
    (fu : s.heap.FunFrames X.base X.stack) (ok : HOk X.prog X.w Hg s.heap) (aH : Hg a = none) (aX : a ∉ frs X.stack)
    (h0 : xs = [] → ∀ s1, Stp X.prog X.w Hg L X.stack F ⟨[], []⟩ (s.setGen g .running) s1 → Q (.returned .none) (s1.setGen g .finished))
    (h1 : ∀ x ys, xs = x :: ys → ∀ v s1 F' y, RelV x v → Stp X.prog X.w Hg L X.stack F F' (s.setGen g .running) s1 → Wy y → Sus y → Kby F'.objs s1.heap y → Hold X Hg L A ys F' a g (s1.setGen g y) → Q (.yielded v) (s1.setGen g y)) : wpAny (MM X) A (resume g (.send .none)) Q E s := by
  obtain ⟨gs, e, hst, rdy⟩ := h.gen
  have z0 : (s.setGen g .running).gens.size = s.gens.size := sg_size s g .running
  refine resume_g e (rdy _ ⟨rfl, wf.set g .running fun _ _ _ _ _ _ z => (by cases z), fun _ _ _ e _ => e, fun i hi => ?_, Nat.le_refl _, Nat.le_of_eq z0.symm, bs, fu, ok⟩) h0 fun x ys ex v s1 F' k l c p fs rv st hq hs kb go => ?_
  · show (s.gens.setIfInBounds g .running)[i]? = _
    rw [get_set_ne fun q : g = i => h.gF (by rw [q]; exact hi)]
  · obtain ⟨o, nm, qn, ho, hc, hd, hsl⟩ := h.isg
    have ea : s1.heap.get? a = s.heap.get? a := by
      rw [ho]
      exact st.keep a o ho (fun v q => by rw [hd] at q; cases q) aH h.aF aX
    have gsz : g < s1.gens.size := by
      have := st.gsize
      rw [z0] at this
      exact Nat.lt_of_lt_of_le h.gS this
    have gF' : g ∉ F'.gens := fun q => by
      rcases st.newI g q with q | q
      · exact h.gF q
      · rw [z0] at q
        exact absurd h.gS (Nat.not_lt.mpr q)
    refine h1 x ys ex v s1 F' _ rv st (fun k l c p fs cl e => by cases e; exact hs) ⟨_, _, _, _, _, _, rfl⟩ kb ⟨gen_same h.isg ea, ⟨_, set_at gsz, .inr rfl, fun z lt => go z ⟨lt.os, lt.wf, lt.own, fun i hi => ?_, lt.size, ?_, lt.bs, lt.funs, lt.hok⟩⟩, gF', fun q => ?_, by rw [sg_size]; exact gsz⟩
    · refine (lt.gens i hi).trans ?_
      show (s1.gens.setIfInBounds g _)[i]? = _
      rw [get_set_ne fun q : g = i => gF' (by rw [q]; exact hi)]
    · have := lt.gsize
      rw [sg_size] at this
      exact this
    · rcases st.newO a q with q | q
      · exact h.aF q
      · exact absurd (Heap.lt_size ho) (Nat.not_lt.mpr q)
/-- it is held on while calm code runs -/
theorem hold_keep {X : Cx} {Hg : Hp} {L : Addr} {xs : List V} {F : Foot} {a : Addr} {g : Nat} {s z : Shared} {A : Around} (h : Hold X Hg L A xs F a g s) (os : z.os = s.os) (own : ∀ b ∈ a :: F.objs, ∀ o, s.heap.get? b = some o → (∀ v, o.data ≠ .cell v) → z.heap.get? b = some o) (cal : Cal s.gens z.gens) (size : s.heap.objs.size ≤ z.heap.objs.size)
    (slp : ∃ y, s.gens[g]? = some y ∧ Sus y) (susF : ∀ i ∈ F.gens, ∃ y, s.gens[i]? = some y ∧ Sus y) : Hold X Hg L A xs F a g z := by
  obtain ⟨gs, e, hst, rdy⟩ := h.gen
  obtain ⟨y, e2, u⟩ := slp
  rw [e] at e2
  cases e2
  refine ⟨gen_same h.isg (by
    obtain ⟨o, _, _, ho, _, hd, _⟩ := h.isg
    exact (own a List.mem_cons_self o ho (fun v z => by rw [hd] at z; cases z)).trans ho.symm), ⟨gs, cal.keep g gs e u, hst, fun z' lt => rdy z' ⟨lt.os.trans os, lt.wf, fun b hb o e n => lt.own b hb o (own b (List.mem_cons_of_mem _ hb) o e n) n, fun i hi => ?_, Nat.le_trans size lt.size, Nat.le_trans cal.size lt.gsize, lt.bs, lt.funs, lt.hok⟩⟩, h.gF, h.aF, Nat.lt_of_lt_of_le h.gS cal.size⟩
  obtain ⟨y, e3, u3⟩ := susF i hi
  exact (lt.gens i hi).trans ((cal.keep i y e3 u3).trans e3.symm)
end GT

set_option Elab.async false
set_option linter.all false
set_option maxRecDepth 100000
set_option maxHeartbeats 1000000
/-! Sizes, arounds; a generator's frame between two of its statements. -/
namespace GT
open PySem PySem.Spec PyProof.Rows L2 GenW
open Sem (wp)
theorem wakes_hsz {M : Model} {Γ : PySem.Ctx} {p : Pos} {g : Nat} {r : Resume} {s s' : Shared} {res : GenResult} (h : Wakes M Γ p g r s res s') : s.heap.objs.size ≤ s'.heap.objs.size := by
  unfold Wakes at h
  split at h
  · exact h.elim
  · split at h
    · obtain ⟨e₁, s₁, hr, _, _, rfl⟩ := h
      exact (runs_size hr).1
    · rw [h.2]; exact Nat.le_refl _
    · rw [h.2]; exact Nat.le_refl _
  · obtain ⟨e₁, s₁, hr, _, _, rfl⟩ := h
    exact (runs_size hr).1
  · rw [h.2]; exact Nat.le_refl _
  · rw [h.2]; exact Nat.le_refl _
theorem wp_hsz {α : Type} (M : Model) (Γ : PySem.Ctx) (n : Nat) (t : Sem α) : ∀ (Q : α → Pos → Shared → Prop) (E : Value → Pos → Shared → Prop) (p : Pos) (s : Shared), n ≤ s.heap.objs.size → wp M Γ t Q E p s →
    wp M Γ t (fun a p' s' => n ≤ s'.heap.objs.size ∧ Q a p' s') (fun e p' s' => n ≤ s'.heap.objs.size ∧ E e p' s') p s := by
  induction t with
  | pure a => intro Q E p s hn h; exact ⟨hn, h⟩
  | raise e => intro Q E p s hn h; exact ⟨hn, h⟩
  | unsupported _ => intro Q E p s _ h; exact h
  | finish _ => intro Q E p s _ h; exact h
  | rule _ k ih => intro Q E p s hn h; exact ih () Q E p s hn h
  | «at» p' k ih => intro Q E p s hn h; exact ih () Q E p' s hn h
  | load a _ k ih => intro Q E p s hn h; obtain ⟨o, ho, h⟩ := h; exact ⟨o, ho, ih o Q E p s hn h⟩
  | update a _ f k ih => intro Q E p s hn h; exact ⟨h.1, ih () Q E p _ (by show n ≤ (s.heap.update a f).objs.size; rw [upd_size]; exact hn) h.2⟩
  | loadIfAlive a k ih => intro Q E p s hn h; exact ih _ Q E p s hn h
  | point _ k ih => intro Q E p s hn h; exact ih () Q E p s hn h
  | register _ _ => intro Q E p s _ h; exact h
  | alloc o k ih => intro Q E p s hn h; exact ih _ Q E p _ (by show n ≤ (s.heap.push o).objs.size; rw [Heap.size_push]; exact Nat.le_succ_of_le hn) h
  | fresh k ih => intro Q E p s hn h; exact ih _ Q E p _ hn h
  | ask k ih => intro Q E p s hn h; exact ih _ Q E p s hn h
  | choose src m k ih => intro Q E p s hn h; exact ⟨h.1, ih _ Q E p _ hn h.2⟩
  | os q _ k ih => intro Q E p s hn h; exact ih _ Q E p _ hn h
  | call c hd _ _ k ih => intro Q E p s hn h; obtain ⟨r, s', hr, h⟩ := h; exact ⟨r, s', hr, ih r Q E p s' (Nat.le_trans hn (runs_size hr).1) h⟩
  | handled own k ih => intro Q E p s hn h; exact ih _ Q E p s hn h
  | genState g k ih => intro Q E p s hn h; obtain ⟨st, hs, h⟩ := h; exact ⟨st, hs, ih _ Q E p s hn h⟩
  | newGen c k ih => intro Q E p s hn h; exact ih _ Q E p _ hn h
  | resume g r _ k ih => intro Q E p s hn h; obtain ⟨res, s', hw, h⟩ := h; exact ⟨res, s', hw, ih res Q E p s' (Nat.le_trans hn (wakes_hsz hw)) h⟩
  | yield _ _ _ _ => intro Q E p s _ h; exact h
  | stack k ih => intro Q E p s hn h; exact ih _ Q E p s hn h
  | fork _ _ => intro Q E p s _ h; exact h
  | thread k ih => intro Q E p s hn h; exact ih _ Q E p s hn h
  | await _ _ _ _ _ => intro Q E p s _ h; exact h
theorem any_sz {α : Type} {M : Model} {A : Around} {s : Shared} {t : Sem α} {Q : α → Shared → Prop} {E : Value → Shared → Prop} (h : wpAny M A t (fun a s' => s.heap.objs.size ≤ s'.heap.objs.size → Q a s') E s) : wpAny M A t Q E s :=
  wpAny_mono (fun Γ p hΓ => wp_hsz M Γ s.heap.objs.size t _ _ p s (Nat.le_refl _) (h Γ p hΓ) : wpAny M A t (fun a s' => s.heap.objs.size ≤ s'.heap.objs.size ∧ (s.heap.objs.size ≤ s'.heap.objs.size → Q a s')) (fun e s' => s.heap.objs.size ≤ s'.heap.objs.size ∧ E e s') s)
    (fun _ _ x => x.2 x.1) fun _ _ x => x.2
/-- the code that a frame calls -/
theorem over_call {A : Around} {c c' : Code} {fs : List Frame} {k : Result → Sem PySem.Fin} {g : Bool} {l kp : List Value} {p : Pos} : A.over c' (.ret k none g l c p kp :: fs) = (A.over c fs).under c' := by
  have e2 : A.depth + frameCount ((Frame.ret k none g l c p kp :: fs).map Frame.where_) + c'.weight = A.depth + frameCount (fs.map Frame.where_) + c.weight + c'.weight := by
    show A.depth + frameCount ((c, p) :: fs.map Frame.where_) + c'.weight = _
    rw [frameCount_cons]; omega
  have e3 : pushEnvs c'.envs (pushEnvs (envsOf ((Frame.ret k none g l c p kp :: fs).map Frame.where_)) A.frames) = pushEnvs c'.envs (pushEnvs c.envs (pushEnvs (envsOf (fs.map Frame.where_)) A.frames)) := by
    show pushEnvs c'.envs (pushEnvs (envsOf ((c, p) :: fs.map Frame.where_)) A.frames) = _
    rw [envsOf_cons]
    simp only [pushEnvs_eq]
    cases A.frames <;> simp [List.append_assoc]
  have e4 : pushGuards c'.guards (pushGuards (guardsOf ((Frame.ret k none g l c p kp :: fs).map Frame.where_)) A.guards) = pushGuards c'.guards (pushGuards c.guards (pushGuards (guardsOf (fs.map Frame.where_)) A.guards)) := by
    show pushGuards c'.guards (pushGuards (guardsOf ((c, p) :: fs.map Frame.where_)) A.guards) = _
    rw [guardsOf_cons]
    simp only [pushGuards_eq]
    cases A.guards <;> simp [List.append_assoc]
  have e5 : A.units + unitsOf ((Frame.ret k none g l c p kp :: fs).map Frame.where_) + c'.cUnits = A.units + unitsOf (fs.map Frame.where_) + c.cUnits + c'.cUnits := by
    show A.units + unitsOf ((c, p) :: fs.map Frame.where_) + c'.cUnits = _
    rw [unitsOf_cons]; omega
  have e1 : (marksOver (Frame.ret k none g l c p kp :: fs) (A.handled, A.handled)).1 = (marksOver fs (A.handled, A.handled)).1 := rfl
  show (⟨(marksOver (Frame.ret k none g l c p kp :: fs) (A.handled, A.handled)).1, A.depth + frameCount ((Frame.ret k none g l c p kp :: fs).map Frame.where_) + c'.weight,
    pushEnvs c'.envs (pushEnvs (envsOf ((Frame.ret k none g l c p kp :: fs).map Frame.where_)) A.frames), pushGuards c'.guards (pushGuards (guardsOf ((Frame.ret k none g l c p kp :: fs).map Frame.where_)) A.guards),
    A.units + unitsOf ((Frame.ret k none g l c p kp :: fs).map Frame.where_) + c'.cUnits⟩ : Around) = _
  rw [e1, e2, e3, e4, e5]
  rfl
theorem over_yf {A : Around} {c : Code} {fs : List Frame} {k : Result → Sem PySem.Fin} {g : Bool} {l kp : List Value} {p : Pos} {a : Addr} : A.over (yfC a) (.ret k none g l c p kp :: fs) = (A.over c fs).in1 := by
  rw [over_call]
  exact Around.under_plainId plain_yf _
theorem room_g {k : Nat} {A : Around} (r : Room (k + 1) A) (ev : Env) : Room k ((A.deeper ev).in1.in1) :=
  ⟨r.hd, by have := r.dp; show A.depth + 1 + 3 * k + 5 < _; omega, by have := r.un; show A.units + 3 + 1 + 1 + 16 * k + 200 < _; omega⟩
open Classical in
/-- what a frame's calm run leaves alone: all at its names' dict and above that is neither tracked nor in W -/
noncomputable def gp (X : Cx) (Hg : Hp) (W : List Addr) (h : Heap) : List (Addr × Obj) :=
  pinsAt ((List.range h.objs.size).filter fun b => decide (X.env.locals < b ∧ b ∉ W ∧ Hg b = none ∧ ∃ o, h.get? b = some o ∧ ∀ v, o.data ≠ .cell v)) h
open Classical in
theorem of_gp {X : Cx} {Hg : Hp} {W : List Addr} {h : Heap} {q : Addr × Obj} (m : q ∈ gp X Hg W h) : X.env.locals < q.1 ∧ q.1 ∉ W ∧ Hg q.1 = none ∧ h.get? q.1 = some q.2 ∧ ∀ v, q.2.data ≠ .cell v := by
  obtain ⟨m1, e⟩ := of_pinsAt m
  obtain ⟨h1, h2, h3, o, h4, h5⟩ := of_decide_eq_true (List.mem_filter.mp m1).2
  rw [e] at h4
  cases h4
  exact ⟨h1, h2, h3, e, h5⟩
open Classical in
theorem to_gp {X : Cx} {Hg : Hp} {W : List Addr} {h : Heap} {b : Addr} {o : Obj} (h1 : X.env.locals < b) (h2 : b ∉ W) (h3 : Hg b = none) (h4 : h.get? b = some o) (h5 : ∀ v, o.data ≠ .cell v) : (b, o) ∈ gp X Hg W h :=
  mem_pinsAt (List.mem_filter.mpr ⟨List.mem_range.mpr (Heap.lt_size h4), decide_eq_true ⟨h1, h2, h3, o, h4, h5⟩⟩) h4
/-- between two statements of a generator's frame: O: its own objects, as they stand -/
structure Mid (X : Cx) (Hg : Hp) (F : Foot) (s₀ : Shared) (O : List (Addr × Obj)) (σ : L2.St) (s : Shared) : Prop where
  hist : Stp X.prog X.w Hg X.env.locals X.outer F (own X ⟨O.map (·.1), []⟩) s₀ s
  aw : Awake X Hg σ [] s
  ob : ∀ q ∈ O, X.env.locals < q.1 ∧ Hg q.1 = none ∧ s.heap.get? q.1 = some q.2 ∧ ∀ v, q.2.data ≠ .cell v
section
variable {X : Cx} {Hg : Hp} {F : Foot} {s₀ s s' : Shared} {O O' : List (Addr × Obj)} {W : List Addr} {σ σ' : L2.St}
theorem mid_im (G : GX X Hg) (m : Mid X Hg F s₀ O σ s) : IM (reb X Hg s) (gp X Hg W s.heap) σ Hg s :=
  woken_im G ⟨m.aw.bs, m.aw.funs, m.aw.hok, m.aw.loc, fun q hq => by
    obtain ⟨h1, h2, h3, h4, h5⟩ := of_gp hq
    exact ⟨h4, h3, Nat.ne_of_gt h1, fun z => absurd (G.old _ z) (Nat.not_lt.mpr (Nat.le_of_lt h1)), h5⟩, m.aw.len, m.aw.wf⟩
theorem im_awake (G : GX X Hg) {pins : List (Addr × Obj)} (J : IM (reb X Hg s) pins σ' Hg s') : Awake X Hg σ' [] s' :=
  ⟨J.inv.bk, by
    have q : s'.heap.FunFrames X.base X.stack := J.inv.env0.funs
    rw [G.stk.1] at q
    obtain ⟨_, _, q⟩ := q
    exact q, J.inv.hok, J.inv.loc, fun q hq => absurd hq (by simp), J.inv.len, J.wf⟩
theorem mid_go (G : GX X Hg) (m : Mid X Hg F s₀ O σ s) (J : IM (reb X Hg s) (gp X Hg W s.heap) σ' Hg s') (c : Cal s.gens s'.gens) (hz : s.heap.objs.size ≤ s'.heap.objs.size) (hW : ∀ b ∈ W, b ∈ O.map (·.1) ∨ s.heap.objs.size ≤ b) (hO : ∀ q ∈ O', q.1 ∈ O.map (·.1) ∨ s.heap.objs.size ≤ q.1)
    (ob : ∀ q ∈ O', X.env.locals < q.1 ∧ Hg q.1 = none ∧ s'.heap.get? q.1 = some q.2 ∧ ∀ v, q.2.data ≠ .cell v) : Mid X Hg F s₀ O' σ' s' := by
  have st : Stp X.prog X.w Hg X.env.locals X.outer (own X ⟨O.map (·.1), []⟩) (own X ⟨O'.map (·.1), []⟩) s s' := by
    refine stp_of G J m.aw.hok List.mem_cons_self hz c.size J.inv.os (fun b o e hb nf nc nh => ?_) (fun i y e _ u => c.keep i y e u) (fun i y e => ?_) (fun b hb => ?_) (fun i hi => absurd hi (by simp [own])) (fun i hi => absurd hi (by simp [own])) fun b hb => ?_
    · refine to_gp (Nat.lt_of_le_of_ne hb fun z => nf (by rw [← z]; exact List.mem_cons_self)) (fun z => ?_) nh e nc
      rcases hW b z with q | q
      · exact nf (List.mem_cons_of_mem _ q)
      · exact absurd (Heap.lt_size e) (Nat.not_lt.mpr q)
    · rcases c.new i y e with q | q
      · exact .inl ⟨q, by simp [own]⟩
      · exact .inr (.inl q)
    · rcases List.mem_cons.mp hb with q | q
      · exact .inl (by rw [q]; exact List.mem_cons_self)
      · obtain ⟨x, hx, rfl⟩ := List.mem_map.mp q
        exact (hO x hx).imp (fun z => List.mem_cons_of_mem _ z) id
    · rcases List.mem_cons.mp hb with q | q
      · rw [q]
        obtain ⟨_, ⟨o, es, ep, ho, r⟩, _⟩ := J.inv.loc
        exact ⟨o, ho, fun v z => by rw [r.1] at z; cases z⟩
      · obtain ⟨x, hx, rfl⟩ := List.mem_map.mp q
        exact ⟨_, (ob x hx).2.2.1, (ob x hx).2.2.2⟩
  exact ⟨(m.hist.to0.trans st.to0).full st.susG st.there, im_awake G J, ob⟩
theorem mid_calm (G : GX X Hg) (m : Mid X Hg F s₀ O σ s) (J : IM (reb X Hg s) (gp X Hg [] s.heap) σ' Hg s') (c : Cal s.gens s'.gens) (hz : s.heap.objs.size ≤ s'.heap.objs.size) : Mid X Hg F s₀ O σ' s' :=
  mid_go G m J c hz (fun b hb => absurd hb (by simp)) (fun q hq => .inl (List.mem_map_of_mem hq)) fun q hq => by
    obtain ⟨h1, h2, h3, h4⟩ := m.ob q hq
    exact ⟨h1, h2, (J.inv.pin (q.1, q.2) (List.mem_append_right _ (to_gp h1 (by simp) h2 h3 h4))).1, h4⟩
theorem mid_drop (m : Mid X Hg F s₀ O σ s) (h : ∀ q ∈ O', q ∈ O) : Mid X Hg F s₀ O' σ s :=
  ⟨⟨m.hist.os, m.hist.wf, m.hist.size, m.hist.gsize, m.hist.keep, m.hist.hok, m.hist.slot, m.hist.keepG, m.hist.newG, fun b hb => m.hist.newO b (by
    rcases List.mem_cons.mp hb with q | q
    · rw [q]; exact List.mem_cons_self
    · obtain ⟨x, hx, rfl⟩ := List.mem_map.mp q
      exact List.mem_cons_of_mem _ (List.mem_map_of_mem (h x hx))), m.hist.newI, fun i hi => absurd hi (by simp [own]), fun b hb => m.hist.there b (by
    rcases List.mem_cons.mp hb with q | q
    · rw [q]; exact List.mem_cons_self
    · obtain ⟨x, hx, rfl⟩ := List.mem_map.mp q
      exact List.mem_cons_of_mem _ (List.mem_map_of_mem (h x hx)))⟩, m.aw, fun q hq => m.ob q (h q hq)⟩
/-- woken behind a yield -/
theorem mid_wake (G : GX X Hg) (m : Mid X Hg F s₀ O σ s) (l : Ltr X.prog X.w X.base X.outer Hg (own X ⟨O.map (·.1), []⟩) s s') : Mid X Hg (own X ⟨O.map (·.1), []⟩) s' O σ s' := by
  refine ⟨⟨rfl, l.wf, Nat.le_refl _, Nat.le_refl _, fun b o e _ _ _ _ => e, l.hok, fun b o e _ => ⟨o.slots, e⟩, fun i y e _ _ => e, fun i y e => .inl ⟨e, by simp [own]⟩, fun b hb => .inl hb, fun i hi => .inl hi, fun i hi => absurd hi (by simp [own]), fun b hb => let ⟨o, e, n⟩ := m.hist.there b hb; ⟨o, l.own b hb o e n, n⟩⟩,
    ⟨l.bs, l.funs, l.hok, ?_, fun q hq => absurd hq (by simp), m.aw.len, l.wf⟩, fun q hq => ?_⟩
  · obtain ⟨mm, ⟨o, es, ep, ho, r⟩, look⟩ := m.aw.loc
    refine ⟨mm, ⟨o, es, ep, l.own _ List.mem_cons_self o ho (fun v z => by rw [r.1] at z; cases z), r⟩, fun i x v h1 h2 h3 => ?_⟩
    obtain ⟨u, rv, lk⟩ := look i x v h1 h2 h3
    refine ⟨u, rv, ?_⟩
    rcases lk with lk | ⟨_, c, hc, _⟩
    · exact .inl lk
    · rw [G.noCell x] at hc
      cases hc
  · obtain ⟨h1, h2, h3, h4⟩ := m.ob q hq
    exact ⟨h1, h2, l.own q.1 (List.mem_cons_of_mem _ (List.mem_map_of_mem hq)) q.2 h3 h4, h4⟩
/-- behind a `yield from` -/
theorem mid_from (G : GX X Hg) {sI : Shared} (m : Mid X Hg F s₀ O σ sI) {F' : Foot} {s₁ : Shared} (hist : Stp X.prog X.w Hg X.env.locals X.outer F' (own X ⟨O.map (·.1), []⟩) s₁ s) (fc : Fc X Hg s) (sm : SameO X ⟨O.map (·.1), []⟩ sI s) : Mid X Hg F' s₁ O σ s := by
  refine ⟨hist, ⟨fc.bs, ?_, fc.hok, ?_, fun q hq => absurd hq (by simp), m.aw.len, hist.wf⟩, fun q hq => ?_⟩
  · obtain ⟨_, _, q⟩ := fc.funs
    exact q
  · obtain ⟨mm, ⟨o, es, ep, ho, r⟩, look⟩ := m.aw.loc
    obtain ⟨sl, e⟩ := sm.loc o ho
    refine ⟨mm, ⟨_, es, ep, e, r⟩, fun i x v h1 h2 h3 => ?_⟩
    obtain ⟨u, rv, lk⟩ := look i x v h1 h2 h3
    refine ⟨u, rv, ?_⟩
    rcases lk with lk | ⟨_, c, hc, _⟩
    · exact .inl lk
    · rw [G.noCell x] at hc
      cases hc
  · obtain ⟨h1, h2, h3, h4⟩ := m.ob q hq
    exact ⟨h1, h2, (sm.objs q.1 (List.mem_map_of_mem hq)).trans h3, h4⟩
end
end GT

set_option Elab.async false
set_option linter.all false
set_option maxRecDepth 100000
set_option maxHeartbeats 1000000
/-! Statements of a generator's body, by what it still hands out. -/
namespace GT
open PySem PySem.Spec PyProof.Rows L2 GenW
open Sem (wp)
/-- where a generator's code stands -/
structure Pl (X : Cx) (A : Around) (c : Code) (fs : List Frame) : Prop where
  over : A.over c fs = X.A
  split : splitAtGen fs = none
  guard : fs.any Frame.guarded = false
abbrev ZZ (X : Cx) (Hg : Hp) (A : Around) (xs : List V) (F : Foot) (s₀ : Shared) : End → Shared → Prop := Zg (MM X) A (Lo X Hg) (Stp X.prog X.w Hg X.env.locals X.outer) xs F s₀
/-- t hands out xs, to the generator's end -/
def SgN (X : Cx) (Hg : Hp) (A : Around) (c : Code) (fs : List Frame) (xs : List V) (t : Sem PySem.Fin) (O : List (Addr × Obj)) (σ : L2.St) : Prop :=
  ∀ F s₀ s, Mid X Hg F s₀ O σ s → Sg (MM X) A (ZZ X Hg A xs F s₀) c (tau none t) fs s
def SgD (X : Cx) (Hg : Hp) (A : Around) (c : Code) (fs : List Frame) (xs : List V) (O : List (Addr × Obj)) (σ : L2.St) : Prop :=
  ∀ F s₀ s, Mid X Hg F s₀ O σ s → Sg (MM X) A (ZZ X Hg A xs F s₀) c ((MM X).den c) fs s
/-- the frame of a loop's code -/
def Back (c : Code) (fs : List Frame) (K : Flow → Sem PySem.Fin) (fs' : List Frame) : Prop := ∃ k p l, fs' = .ret k none false l c p [] :: fs ∧ ∀ f, k (.ok f) = tau none (K f)
section
variable {X : Cx} {Hg : Hp} {A : Around} {c c' : Code} {fs fs' : List Frame} {xs : List V} {O O' : List (Addr × Obj)} {σ : L2.St} {K : Flow → Sem PySem.Fin} {J : Value → Sem PySem.Fin} {t : Sem PySem.Fin}
theorem pl_back (pl : Pl X A c fs) (b : Back c fs K fs') (hw : c'.weight = 0) (hu : c'.cUnits = 0) : Pl X A c' fs' := by
  obtain ⟨k, p, l, rfl, _⟩ := b
  refine ⟨(over_loop hw hu).trans pl.over, ?_, ?_⟩
  · show (splitAtGen fs).map _ = none
    rw [pl.split]; rfl
  · show (false || fs.any Frame.guarded) = false
    rw [pl.guard]; rfl
theorem n_drop (hO : ∀ q ∈ O', q ∈ O) (h : SgN X Hg A c fs xs t O' σ) : SgN X Hg A c fs xs t O σ := fun F s₀ s m => h F s₀ s (mid_drop m hO)
theorem n_nil {ev : Env} (h : SgN X Hg A c fs xs (K .next) O σ) : SgN X Hg A c fs xs ((execs [] ev).wrap K J id id) O σ := h
theorem n_cons {ev : Env} {st : Stmt} {rest : List Stmt} (h : SgN X Hg A c fs xs ((exec st ev).wrap (fun f => match f with | .next => (execs rest ev).wrap K J id id | f => K f) J id id) O σ) : SgN X Hg A c fs xs ((execs (st :: rest) ev).wrap K J id id) O σ :=
  fun F s₀ s m => g_cons (h F s₀ s m)
theorem n_leaf {f : Flow} (b : Back c fs K fs') (h : SgN X Hg A c fs xs (K f) O σ) : SgN X Hg A c' fs' xs (.pure (.done f)) O σ := fun F s₀ s m => by
  obtain ⟨k, p, l, rfl, e⟩ := b
  refine sg_leaf (.ok f) ?_
  rw [e]
  exact h F s₀ s m
theorem n_again (hq : c'.quiet = true) (h : SgD X Hg A c' fs xs O σ) : SgN X Hg A c fs xs (.pure (.again c')) O σ := fun F s₀ s m => sg_again hq (h F s₀ s m)
/-- a calm statement -/
theorem n_ps (G : GX X Hg) (pl : Pl X A c fs) (nx : ∀ e z, ¬ X.xe e z) {st : Stmt} {ts : TS} {R : L2.St → Prop} (h : ∀ s, PS (reb X Hg s) st ts) (ht : ts ⟨fun σ' H' => H' = Hg ∧ R σ', fun _ _ => False, fun _ _ => False, fun _ _ => False⟩ σ Hg)
    (k : ∀ σ', R σ' → SgN X Hg A c fs xs (K .next) O σ') : SgN X Hg A c fs xs ((exec st X.env).wrap K J id id) O σ := fun F s₀ s m => by
  refine g_calm ?_
  rw [pl.over]
  refine any_sz (wpAny_mono ((s_m (h s)).run (gp X Hg [] s.heap) s σ Hg _ (mid_im G m) ht) (fun f z hz hsz => ?_) fun e z y => (no_xm (X := reb X Hg s) nx y).elim)
  obtain ⟨cl, hz⟩ := hz
  match f, hz with
  | .next, ⟨σ', H', I', e, r⟩ => subst e; exact k σ' r F s₀ z (mid_calm G m I' cl hsz)
  | .ret v, ⟨_, _, _, _, _, q⟩ => exact q.elim
  | .brk, ⟨_, _, _, q⟩ => exact q.elim
  | .cont, ⟨_, _, _, q⟩ => exact q.elim
theorem n_if (G : GX X Hg) (pl : Pl X A c fs) (nx : ∀ e z, ¬ X.xe e z) {test : Expr} {body orelse : List Stmt} {pos : Pos} {tt : TT} (h : ∀ s, PT (reb X Hg s) test tt)
    (ht : tt σ Hg fun b H' => H' = Hg ∧ (b = true → SgN X Hg A c fs xs ((execs body X.env).wrap K J id id) O σ) ∧ (b = false → SgN X Hg A c fs xs ((execs orelse X.env).wrap K J id id) O σ)) : SgN X Hg A c fs xs ((exec (.If test body orelse pos) X.env).wrap K J id id) O σ := fun F s₀ s m => by
  refine g_if ?_
  rw [pl.over]
  refine any_sz (wpAny_mono ((t_m (h s)).run (gp X Hg [] s.heap) s σ Hg _ (mid_im G m) ht) (fun b z hz hsz => ?_) fun e z y => (no_xm (X := reb X Hg s) nx y).elim)
  obtain ⟨H', I', ⟨e, q1, q2⟩, cl⟩ := hz
  subst e
  have m' := mid_calm G m I' cl hsz
  cases b with
  | true => rw [if_pos rfl]; exact q1 rfl F s₀ z m'
  | false => rw [if_neg Bool.false_ne_true]; exact q2 rfl F s₀ z m'
theorem n_yield (G : GX X Hg) (pl : Pl X A c fs) (nx : ∀ e z, ¬ X.xe e z) (hco : X.env.scope.isCoroutine = false) {e : Expr} {yp pos : Pos} {te : TE} {x : V} (h : ∀ s, PE (reb X Hg s) e te) (ht : te σ Hg fun v H' => H' = Hg ∧ v = x)
    (k : SgN X Hg A c fs xs (K .next) O σ) : SgN X Hg A c fs (x :: xs) ((exec (.Expr (.Yield (some e) yp) pos) X.env).wrap K J id id) O σ := fun F s₀ s m => by
  refine g_yield pl.split ?_ rfl hco (mid_im (W := []) G m).inv.quiet
  rw [pl.over]
  refine any_sz (wpAny_mono ((e_m (h s)).run (gp X Hg [] s.heap) s σ Hg _ (mid_im G m) ht) (fun v z hz hsz => ?_) fun e z y => (no_xm (X := reb X Hg s) nx y).elim)
  obtain ⟨v', H', I', rv, ⟨e, e2⟩, cl⟩ := hz
  subst e e2
  have m' := mid_calm G m I' cl hsz
  intro l kk p nl go
  refine ⟨by show (!(false || fs.any Frame.guarded)) = true; rw [pl.guard]; rfl, pl.split, rv, _, m'.hist, (fun _ _ _ _ _ _ z => by cases z; exact ⟨pl.split, rfl, fun m => absurd m nl⟩), fun s'' lt => go _ _ ?_⟩
  exact k _ _ _ (mid_wake G m' lt)
theorem n_while {test : Expr} {body : List Stmt} {pos : Pos} (h : ∀ fs', Back c fs K fs' → SgD X Hg A (.whileLoop test body [] X.env) fs' xs O σ) : SgN X Hg A c fs xs ((exec (.While test body [] pos) X.env).wrap K J id id) O σ := fun F s₀ s m =>
  g_while fun k p l e => h _ ⟨k, p, l, rfl, e⟩ F s₀ s m
theorem n_turn (G : GX X Hg) (nx : ∀ e z, ¬ X.xe e z) {test : Expr} {body : List Stmt} {tt : TT} (pl : Pl X A (.whileLoop test body [] X.env) fs) (h : ∀ s, PT (reb X Hg s) test tt)
    (ht : tt σ Hg fun b H' => H' = Hg ∧ (b = true → SgN X Hg A (.whileLoop test body [] X.env) fs xs ((execs body X.env).wrap (wK (.whileLoop test body [] X.env)) (wJ X.env) id id) O σ) ∧ (b = false → SgN X Hg A (.whileLoop test body [] X.env) fs xs (.pure (.done .next)) O σ)) : SgD X Hg A (.whileLoop test body [] X.env) fs xs O σ := fun F s₀ s m => by
  refine g_turn ?_
  rw [pl.over]
  refine any_sz (wpAny_mono ((t_m (h s)).run (gp X Hg [] s.heap) s σ Hg _ (mid_im G m) ht) (fun b z hz hsz => ?_) fun e z y => (no_xm (X := reb X Hg s) nx y).elim)
  obtain ⟨H', I', ⟨e, q1, q2⟩, cl⟩ := hz
  subst e
  have m' := mid_calm G m I' cl hsz
  cases b with
  | true => rw [if_pos rfl]; exact q1 rfl F s₀ z m'
  | false => rw [if_neg Bool.false_ne_true]; exact q2 rfl F s₀ z m'
end
end GT

set_option Elab.async false
set_option linter.all false
set_option maxRecDepth 100000
set_option maxHeartbeats 1000000
/-! `for` over a tuple in a generator's body. -/
namespace GT
open PySem PySem.Spec PyProof.Rows L2 GenW
open Sem (wp)
/-- o is the iterator at it over the tuple at t, i behind its start -/
def TupIt (it t : Addr) (i : Nat) (o : Obj) : Prop := ∀ h : Heap, h.get? it = some o → h.IsTupleIter it t i
section
variable {X : Cx} {Hg : Hp} {A : Around} {c : Code} {fs : List Frame} {xs : List V} {O : List (Addr × Obj)} {σ : L2.St} {K : Flow → Sem PySem.Fin} {J : Value → Sem PySem.Fin} {tg iter : Expr} {body : List Stmt} {pos : Pos}
theorem n_for (G : GX X Hg) (pl : Pl X A c fs) (nx : ∀ e z, ¬ X.xe e z) {te : TE} {t : Addr} {us : List V} (h : ∀ s, PE (reb X Hg s) iter te) (ht : te σ Hg fun v H' => H' = Hg ∧ v = .ref t) (tup : Hg t = some (.tup us))
    (k : ∀ fs', Back c fs K fs' → ∀ it o, TupIt it t 0 o → (∀ q ∈ O, q.1 ≠ it) → SgD X Hg A (.forLoop tg (.ref it) body [] X.env) fs' xs ((it, o) :: O) σ) (hs : ∀ x, foldedSetIterable iter X.env x = pure x := by intro _; rfl) : SgN X Hg A c fs xs ((exec (.For tg iter body [] pos) X.env).wrap K J id id) O σ := fun F s₀ s m => by
  refine g_for ?_ hs
  rw [pl.over]
  have I := mid_im (W := []) G m
  have q : wpAny (model X.prog X.w) X.A (eval iter X.env) (fun x z => wpAny (model X.prog X.w) X.A (pyIter x) (fun itv s2 => ∃ it, itv = .ref it ∧ s.heap.objs.size ≤ it ∧ Inv (reb X Hg s) (gp X Hg [] s.heap) σ Hg s2 ∧ s2.heap.IsTupleIter it t 0) X.xe z) X.xe (gw s (s.gens.map pois)) := by
    refine any_sz (thn ((h s).run _ _ σ Hg _ I.calm ht) fun v s1 ⟨x, H1, I1, r1, e1, e2⟩ hsz => ?_)
    subst e1 e2
    cases r1
    obtain ⟨its, rv, p, hz⟩ := I1.tuple (.inl (.inl tup))
    refine wpAny_pyIter_tuple (show s1.heap.IsTuple t its.toArray from p) ?_
    exact ⟨s1.heap.objs.size, rfl, hsz, I1.kept (t' := s1.toks) fun b o e => Heap.get?_push_of_some _ e, _, Heap.get?_push_size _ rfl, rfl, rfl⟩
  refine any_sz (wpAny_mono (lift2 (X := reb X Hg s) I q) (fun x z y hz1 => ?_) fun e z y => no_xm (X := reb X Hg s) nx y)
  refine any_sz (wpAny_mono y (fun itv s2 y2 hz2 => ?_) fun e z y => no_xm (X := reb X Hg s) nx y)
  obtain ⟨Kv, γ, vl, it, rfl, hit, I2, hti⟩ := y2
  have cal2 := vl.cal I2.bare
  have J2 : IM (reb X Hg s) (gp X Hg [] s.heap) σ Hg s2 := IM.of I2 vl.wfG
  have hL : X.env.locals < it := Nat.lt_of_lt_of_le (I.inv.lt) hit
  obtain ⟨o, ho, hc, hd⟩ := id hti
  have hn : Hg it = none := m.aw.hok.fresh hit
  have m2 : Mid X Hg F s₀ ((it, o) :: O) σ s2 := mid_go G m J2 cal2 (Nat.le_trans hz1 hz2) (fun b hb => absurd hb (by simp)) (fun q hq => ?_) fun q hq => ?_
  · intro kk p l e
    exact k _ ⟨kk, p, l, rfl, e⟩ it o (fun h e => ⟨o, e, hc, hd⟩) (fun q hq z => absurd (Heap.lt_size (m.ob q hq).2.2.1) (Nat.not_lt.mpr (z ▸ hit))) F s₀ s2 m2
  · rcases List.mem_cons.mp hq with q | q
    · subst q; exact .inr hit
    · exact .inl (List.mem_map_of_mem q)
  · rcases List.mem_cons.mp hq with q | q
    · subst q; exact ⟨hL, hn, ho, fun v z => by rw [hd] at z; cases z⟩
    · obtain ⟨h1, h2, h3, h4⟩ := m.ob _ q
      exact ⟨h1, h2, (J2.inv.pin (_, _) (List.mem_append_right _ (to_gp h1 (by simp) h2 h3 h4))).1, h4⟩
theorem it_fp (G : GX X Hg) {s : Shared} {it : Addr} {pins : List (Addr × Obj)} (h1 : X.env.locals < it) (h2 : Hg it = none) (hs : X.env.locals < s.heap.objs.size) (hp : ∀ p ∈ pins, p.1 ≠ it) : ∀ b ∈ [it], FpOk (reb X Hg s) pins Hg b := fun b hb => by
  have e : b = it := by simpa using hb
  subst e
  refine ⟨h2, Nat.ne_of_gt h1, fun z => absurd (G.old _ z) (Nat.not_lt.mpr (Nat.le_of_lt h1)), .inr ?_, fun x c e => ?_, fun p hp' => ?_⟩
  · show (cut s.heap X.env.locals).objs.size ≤ b
    rw [cut_size (Nat.le_of_lt hs)]
    exact Nat.le_of_lt h1
  · have e : X.env.cells.lookup x = some c := e
    rw [G.noCell x] at e
    cases e
  · have hp' : p ∈ X.pn ++ pins := hp'
    rw [G.pn] at hp'
    exact hp p hp'
theorem n_fturn (G : GX X Hg) (nx : ∀ e z, ¬ X.xe e z) (hc : X.calm = true) {it t : Addr} {i : Nat} {o : Obj} {us : List V} {x : V} {g : TG} {R : L2.St → Prop} (pl : Pl X A (.forLoop tg (.ref it) body [] X.env) fs) (tup : Hg t = some (.tup us)) (ho : TupIt it t i o) (nO : ∀ q ∈ O, q.1 ≠ it) (hx : us[i]? = some x)
    (hg : ∀ s, PG (reb X Hg s) tg g) (hgt : g x σ Hg fun σ' H' => H' = Hg ∧ R σ')
    (k : ∀ σ', R σ' → ∀ o', TupIt it t (i + 1) o' → SgN X Hg A (.forLoop tg (.ref it) body [] X.env) fs xs ((execs body X.env).wrap (wK (.forLoop tg (.ref it) body [] X.env)) (wJ X.env) id id) ((it, o') :: O) σ') : SgD X Hg A (.forLoop tg (.ref it) body [] X.env) fs xs ((it, o) :: O) σ := fun F s₀ s m => by
  refine g_fturn ?_
  rw [pl.over]
  obtain ⟨h1, h2, h3, h4⟩ := m.ob (it, o) List.mem_cons_self
  have I := mid_im (W := [it]) G m
  have fp := it_fp G (pins := gp X Hg [it] s.heap) h1 h2 I.inv.lt fun p hp z => (of_gp hp).2.1 (by rw [z]; exact List.mem_singleton.mpr rfl)
  have T := turn_tuple (P := X.prog) (w := X.w) (K := X.K) (tg := tg) t it
  refine any_sz (wpAny_mono (any_veil (pb_start I.wf (T.item (reb X Hg s) rfl rfl rfl hc i _ _ σ Hg X.xe I.calm fp (ho _ h3) ⟨us, x, .inl (.inl tup), hx⟩))) (fun r s1 y hz1 => ?_) fun e z y => no_xm (X := reb X Hg s) nx y)
  obtain ⟨K4, γ4, v4, u, rfl, h4'⟩ := y
  dsimp only
  refine any_sz (wpAny_mono (any_veil (G0 := s.gens) ⟨K4, γ4, v4, h4'⟩) (fun _ s5 y5 hz2 => ?_) fun e z y => no_xm (X := reb X Hg s) nx y)
  obtain ⟨K5, γ5, v5, x', H5, I5, r5, ⟨e5, y5⟩, st5, fr5⟩ := y5
  subst e5
  have ex := y5 us (.inl (.inl tup))
  rw [hx] at ex
  cases ex
  have c5 := v5.cal I5.bare
  obtain ⟨o5, ho5, hc5, hd5⟩ := id st5
  have I5' : IM (reb X H5 s) (gp X H5 [it] s.heap ++ pinsAt [it] s5.heap) σ H5 s5 := IM.of (γ := γ5) (L2.Inv.pinned (s := gw s5 γ5) I5 fp (T.obj _ _ st5)) v5.wfG
  refine any_sz (wpAny_mono (asg_m (hg s) I5' r5 hgt) (fun _ s6 ⟨σ6, H6, I6, ⟨e6, q6⟩, c6⟩ hz3 => ?_) fun e z y => no_xm (X := reb X H5 s) nx y)
  subst e6
  have p6 : s6.heap.get? it = some o5 := (I6.inv.pin (it, o5) (List.mem_append_right _ (List.mem_append_right _ (mem_pinsAt (List.mem_singleton.mpr rfl) ho5)))).1
  have J6 : IM (reb X H6 s) (gp X H6 [it] s.heap) σ6 H6 s6 := ⟨Inv.unpinned I6.inv, I6.wf⟩
  refine k σ6 q6 o5 (fun h e => ⟨o5, e, hc5, hd5⟩) F s₀ s6 (mid_go G m J6 (c5.trans c6) (Nat.le_trans hz1 (Nat.le_trans hz2 hz3)) (fun b hb => ?_) (fun q hq => ?_) fun q hq => ?_)
  · have e : b = it := by simpa using hb
    subst e
    exact .inl (List.mem_map_of_mem (f := fun z : Addr × Obj => z.1) List.mem_cons_self)
  · rcases List.mem_cons.mp hq with q | q
    · subst q; exact .inl List.mem_cons_self
    · exact .inl (List.mem_map_of_mem (List.mem_cons_of_mem _ q))
  · rcases List.mem_cons.mp hq with q | q
    · subst q; exact ⟨h1, h2, p6, fun v z => by rw [hd5] at z; cases z⟩
    · obtain ⟨g1, g2, g3, g4⟩ := m.ob _ (List.mem_cons_of_mem _ q)
      refine ⟨g1, g2, ?_, g4⟩
      exact (J6.inv.pin (_, _) (List.mem_append_right _ (to_gp g1 (by simpa using nO _ q) g2 g3 g4))).1
theorem n_fdone (G : GX X Hg) (nx : ∀ e z, ¬ X.xe e z) (hc : X.calm = true) {it t : Addr} {i : Nat} {o : Obj} {us : List V} (pl : Pl X A (.forLoop tg (.ref it) body [] X.env) fs) (tup : Hg t = some (.tup us)) (ho : TupIt it t i o) (hx : us.length ≤ i) (nO : ∀ q ∈ O, q.1 ≠ it)
    (k : SgN X Hg A (.block [] X.env) fs xs (.pure (.done .next)) O σ) : SgD X Hg A (.forLoop tg (.ref it) body [] X.env) fs xs ((it, o) :: O) σ := fun F s₀ s m => by
  refine g_fturn ?_
  rw [pl.over]
  obtain ⟨h1, h2, h3, h4⟩ := m.ob (it, o) List.mem_cons_self
  have I := mid_im (W := [it]) G m
  have fp := it_fp G (pins := gp X Hg [it] s.heap) h1 h2 I.inv.lt fun p hp z => (of_gp hp).2.1 (by rw [z]; exact List.mem_singleton.mpr rfl)
  have T := turn_tuple (P := X.prog) (w := X.w) (K := X.K) (tg := tg) t it
  refine any_sz (wpAny_mono (any_veil (pb_start I.wf (T.done (reb X Hg s) rfl rfl rfl hc i _ _ σ Hg X.xe I.calm fp (ho _ h3) ⟨us, .inl (.inl tup), hx⟩))) (fun r s1 y hz1 => ?_) fun e z y => no_xm (X := reb X Hg s) nx y)
  obtain ⟨K4, γ4, v4, rfl, I4⟩ := y
  dsimp only
  refine k F s₀ s1 (mid_go G m (IM.of I4 v4.wfG) (v4.cal I4.bare) hz1 (fun b hb => ?_) (fun q hq => .inl (List.mem_map_of_mem (List.mem_cons_of_mem _ hq))) fun q hq => ?_)
  · have e : b = it := by simpa using hb
    subst e
    exact .inl (List.mem_map_of_mem (f := fun z : Addr × Obj => z.1) List.mem_cons_self)
  · obtain ⟨g1, g2, g3, g4⟩ := m.ob _ (List.mem_cons_of_mem _ hq)
    exact ⟨g1, g2, (I4.pin (_, _) (List.mem_append_right _ (to_gp g1 (by simpa using nO q hq) g2 g3 g4))).1, g4⟩
end
end GT

set_option Elab.async false
set_option linter.all false
set_option maxRecDepth 100000
set_option maxHeartbeats 1000000
/-! A def that yields: its promise. -/
namespace GT
open PySem PySem.Spec PyProof.Rows L2 GenW
open Sem (wp)
abbrev GSp := List V → Hp → List V → Prop
/-- a fresh generator is ready to hand out what sp tells -/
def GenOk (P : Program) (w : World) (K : PySem.W.Frag) (mg : Str → Option Value) (base : Heap) (k : Nat) (bd : List Stmt) (qual : Str) (sc : Scope) (f : Addr) (cd : Value) (ps : List Str) (sp : GSp) : Prop :=
  ∀ (vs : List V) (us : List Value) (Hg : Hp) (xs : List V) (A : Around) (outer : List Env) (L : Addr) (s : Shared), Vals vs us → sp vs Hg xs → A.guards = some [] → Room k A → A.frames = some outer → Mod K mg base → base.objs.size ≤ L → (∀ b ∈ frs outer, b < L ∧ Hg b = none) →
    (∀ b o, base.get? b = some o → s.heap.get? b = some o ∧ Hg b = none) → s.heap.FunFrames base outer → HOk P w Hg s.heap → Hg L = none → s.heap.Ns L (bindL (envOfC qual sc L f cd).kindOf (ps.zip us) fun _ => none) → WF s.gens →
    RdyG (hm (model P w)) A (Ltr P w base outer Hg) (Stp P w Hg L outer) xs ⟨[L], []⟩ (.fresh (.func bd (envOfC qual sc L f cd))) s
/-- the frame's context -/
def gcx (P : Program) (w : World) (K : PySem.W.Frag) (mg : Str → Option Value) (base : Heap) (N : List Str) (qual : Str) (sc : Scope) (f : Addr) (cd : Value) (A : Around) (outer : List Env) (L : Addr) (s : Shared) : Cx where
  prog := P
  w := w
  K := K
  mg := mg
  base := base
  A := A.deeper (envOfC qual sc L f cd)
  N := N
  s_0 := s
  H_0 := fun _ => none
  env := envOfC qual sc L f cd
  outer := outer
  stack := envOfC qual sc L f cd :: outer
  ex := []
  calm := true
  fn := fun _ => true
  pn := []
  xe := fun _ _ => False
/-- what follows a generator's last statement -/
def K0 : Flow → Sem PySem.Fin := fun f => .pure (.done (.ret (match f with | .ret v => v | _ => .none)))
def J0 (ev : Env) : Value → Sem PySem.Fin := fun e => (leaving ev e).wrap (fun _ => .raise e) .raise id id
theorem n_end {X : Cx} {Hg : Hp} {A : Around} {c : Code} {O : List (Addr × Obj)} {σ : L2.St} : SgN X Hg A c [] [] (K0 .next) O σ := fun F s₀ s m => by
  refine sg_end (.ok (.ret .none)) ⟨.inl rfl, ?_⟩
  have h := m.hist
  exact ⟨h.os, h.wf, h.size, h.gsize, h.keep, h.hok, h.slot, h.keepG, h.newG, fun b hb => absurd hb (by simp), fun i hi => absurd hi (by simp), fun i hi => absurd hi (by simp), fun b hb => absurd hb (by simp)⟩
section
variable {P : Program} {w : World} {K : PySem.W.Frag} {mg : Str → Option Value} {base : Heap} {k : Nat} {bd : List Stmt} {qual : Str} {sc : Scope} {f : Addr} {cd : Value} {N ps : List Str} {sp : GSp}
theorem genOk_of (S : GScope N ps sc) (nc : ∀ n, cellsFrom n sc.names [] = []) (nk : ∀ y ∈ sc.names, y.2 ≠ .cell) (len : ∀ vs H xs, sp vs H xs → vs.length = ps.length)
    (walk : ∀ (A : Around) (outer : List Env) (L : Addr) (s : Shared) (vs : List V) (Hg : Hp) (xs : List V), A.guards = some [] → Room k (A.deeper (envOfC qual sc L f cd)).in1.in1 → Room k (A.deeper (envOfC qual sc L f cd)) → sp vs Hg xs → GX (gcx P w K mg base N qual sc f cd A outer L s) Hg → Pl (gcx P w K mg base N qual sc f cd A outer L s) A (.func bd (envOfC qual sc L f cd)) [] →
      SgN (gcx P w K mg base N qual sc f cd A outer L s) Hg A (.func bd (envOfC qual sc L f cd)) [] xs ((execs bd (envOfC qual sc L f cd)).wrap K0 (J0 (envOfC qual sc L f cd)) id id) [] (start N vs)) : GenOk P w K mg base (k + 1) bd qual sc f cd ps sp := by
  intro vs us Hg xs A outer L s r h hG hr hfr mod bsz hout bs funs hok hL ns wf
  have noC : ∀ x, (envOfC qual sc L f cd).cells.lookup x = none := fun x => by
    show (cellsFrom (L + 1) sc.names []).lookup x = none
    rw [nc]; rfl
  have G : GX (gcx P w K mg base N qual sc f cd A outer L s) Hg := by
    refine ⟨mod, S.kind, rfl, rfl, noC, fun x => ⟨fun e => ?_, fun e => ?_⟩, hr.hd, Around.frames_deeper hfr, ⟨rfl, rfl⟩, rfl, rfl, bsz, fun b hb => (hout b hb).1, fun b hb => (hout b hb).2, fun b o e => (bs b o e).2, hL⟩
    · have e : sc.names.lookup x = some .cell := e
      exact nk _ (PySem.mem_of_lookup e) rfl
    · have e : sc.names.lookup x = some .free := e
      exact S.nofree _ (PySem.mem_of_lookup e) rfl
  have pl : Pl (gcx P w K mg base N qual sc f cd A outer L s) A (.func bd (envOfC qual sc L f cd)) [] := ⟨over_func, rfl, rfl⟩
  have size := len _ _ _ h
  have hpl : ps.length ≤ N.length := by have := congrArg List.length S.pre; rw [List.length_take] at this; omega
  have m : Mid (gcx P w K mg base N qual sc f cd A outer L s) Hg ⟨[L], []⟩ s [] (start N vs) s := by
    refine ⟨⟨rfl, wf, Nat.le_refl _, Nat.le_refl _, fun b o e _ _ _ _ => e, hok, fun b o e _ => ⟨o.slots, e⟩, fun i y e _ _ => e, fun i y e => .inl ⟨e, by simp⟩, fun b hb => .inl hb, fun i hi => .inl hi, fun i hi => absurd hi (by simp [own]), fun b hb => by
      have q : b = L := List.mem_singleton.mp hb
      rw [q]
      obtain ⟨o, es, ep, ho, r⟩ := ns
      exact ⟨o, ho, fun v z => by rw [r.1] at z; cases z⟩⟩,
      ⟨fun b o e => (bs b o e).1, funs, hok, ⟨_, ns, fun i y v h1 h2 h3 => ?_⟩, fun q hq => absurd hq (by simp), ?_, wf⟩, fun q hq => absurd hq (by simp)⟩
    · have h1 : N[i]? = some y := h1
      have hi : i < vs.length := by
        unfold L2.start at h2
        by_cases hi : i < vs.length
        · exact hi
        · rw [List.getElem?_append_right (by simpa using hi)] at h2
          rw [List.getElem?_replicate] at h2
          split at h2 <;> cases h2
      have ha : vs[i]? = some v := by
        unfold L2.start at h2
        rw [List.getElem?_append_left (by simpa using hi), List.getElem?_map] at h2
        cases e : vs[i]? with
        | none => rw [e] at h2; cases h2
        | some a => rw [e] at h2; cases h2; rfl
      obtain ⟨u, hu, rv⟩ := r.get ha
      have hp : ps[i]? = some y := by
        rw [← S.pre, List.getElem?_take_of_lt (by omega)]; exact h1
      have ndP : ps.Nodup := by rw [← S.pre]; exact S.nd.sublist (List.take_sublist _ _)
      refine ⟨u, rv, ?_⟩
      rcases S.par y (List.mem_of_getElem? hp) with q | q
      · exact .inl ⟨q, bindL_get ndP hp hu q⟩
      · exact absurd rfl (nk _ (PySem.mem_of_lookup q))
    · show (L2.start N vs).length = N.length
      unfold L2.start
      rw [List.length_append, List.length_map, List.length_replicate]
      omega
  show Sg _ _ _ _ _ _ _
  exact g_func (walk A outer L s vs Hg xs hG (room_g hr _) (hr.deeper _) h G pl _ _ _ m)
end
/-- a def that yields keeps its promise -/
structure GenD (P : Program) (w : World) (K : PySem.W.Frag) (mg : Str → Option Value) (base : Heap) (k : Nat) (f : Addr) (fd : FuncData) (ps : List Str) (sp : GSp) : Prop where
  len : ∀ vs H xs, sp vs H xs → vs.length = ps.length
  make : ∃ bd qual sc cd, (∀ (A : Around) (outer : List Env) (s : Shared) (H : Hp) (args : Args) (us : List Value) (R : Result → Shared → Prop), A.depth < recursionLimit → Env0 P w K mg base A outer (gw s #[]) H → BindsTo s fd args (ps.zip us) →
      (∀ s' a g, Born bd qual sc f cd (ps.zip us) s s' a g → R (.ok (.ret (.ref a))) s') → codeAny (hm (model P w)) A (.call (.ref f) args) R s) ∧ GenOk P w K mg base k bd qual sc f cd ps sp
theorem genD_of {P : Program} {w : World} {K : PySem.W.Frag} {mg : Str → Option Value} {base : Heap} {k : Nat} {x qual : Str} {pa : Arguments} {bd : List Stmt} {sc : Scope} {dvs : List V} {kws : List (Str × V)} {f : Addr} {fd : FuncData} {N ps : List Str} {sp : GSp} (F : FunD K x qual pa bd sc dvs kws f fd)
    (S : GScope N ps sc) (nc : ∀ n, cellsFrom n sc.names [] = []) (nk : ∀ y ∈ sc.names, y.2 ≠ .cell) (len : ∀ vs H xs, sp vs H xs → vs.length = ps.length)
    (walk : ∀ (cd : Value) (A : Around) (outer : List Env) (L : Addr) (s : Shared) (vs : List V) (Hg : Hp) (xs : List V), A.guards = some [] → Room k (A.deeper (envOfC qual sc L f cd)).in1.in1 → Room k (A.deeper (envOfC qual sc L f cd)) → sp vs Hg xs → GX (gcx P w K mg base N qual sc f cd A outer L s) Hg → Pl (gcx P w K mg base N qual sc f cd A outer L s) A (.func bd (envOfC qual sc L f cd)) [] →
      SgN (gcx P w K mg base N qual sc f cd A outer L s) Hg A (.func bd (envOfC qual sc L f cd)) [] xs ((execs bd (envOfC qual sc L f cd)).wrap K0 (J0 (envOfC qual sc L f cd)) id id) [] (start N vs)) : GenD P w K mg base (k + 1) f fd ps sp := by
  obtain ⟨oc, od, dV, kV, doc, pm, an, cdv, ct, osl, rfl, lk, hcd, _, _⟩ := F.ex
  exact ⟨len, bd, qual, sc, cdv, fun A outer s H args us R room env binds h => born_of lk hcd S room env binds h, genOk_of S nc nk len (walk cdv)⟩
theorem GenD.mono {P : Program} {w : World} {K : PySem.W.Frag} {mg : Str → Option Value} {base : Heap} {j k : Nat} {f : Addr} {fd : FuncData} {ps : List Str} {sp : GSp} (D : GenD P w K mg base j f fd ps sp) (h : j ≤ k) : GenD P w K mg base k f fd ps sp := by
  obtain ⟨len, bd, qual, sc, cd, h1, h2⟩ := D
  exact ⟨len, bd, qual, sc, cd, h1, fun vs us Hg xs A outer L s a1 a2 a3 a4 => h2 vs us Hg xs A outer L s a1 a2 a3 (a4.mono h)⟩
/-- the call that makes a generator, in a frame -/
theorem gen_call {X : Cx} {k : Nat} {f : Addr} {fd : FuncData} {ps : List Str} {sp : GSp} {dvs : List V} {ds : List Value} {e : Expr} {es : List Expr} {t : TA} {x : Str} {p pos : Pos} {pins : List (Addr × Obj)} {s : Shared} {σ : L2.St} {H : Hp} {Q : List V → Hp → Prop} (D : GenD X.prog X.w X.K X.mg X.base k f fd ps sp) (hr : X.A.depth < recursionLimit)
    (hg : Gl X x) (hm : X.mg x = some (.ref f)) (hk : PySem.W.keepIn X.K (.ref f) = true) (hb : Binds X.K fd ps ds) (hd : Vals dvs ds) (ha : PAm X (e :: es) t) (I : IM X pins σ H s) (h : t σ H Q) (hl : ∀ vs H1, Q vs H1 → (vs ++ dvs).length = ps.length)
    (hdb : (x == ("__debug__" : Str)) = false := by decide) (he : starEach (e :: es) X.env = (false, eval e X.env) :: starEach es X.env := by rfl) (hpl : (backTo pos (starEach es X.env)).any (·.1) = false := by rfl) :
    wpAny (MM X) X.A (eval (.Call (.Name x p) (e :: es) [] pos) X.env) (fun v z => ∃ s1 vs us H1 a g bd qual sc cd, v = .ref a ∧ IM X pins σ H1 s1 ∧ Cal s.gens s1.gens ∧ s.heap.objs.size ≤ s1.heap.objs.size ∧ Vals (vs ++ dvs) us ∧ Q vs H1 ∧ Born bd qual sc f cd (ps.zip us) s1 z a g ∧ GenOk X.prog X.w X.K X.mg X.base k bd qual sc f cd ps sp) (XM X s.gens) s := by
  obtain ⟨len, bd, qual, sc, cd, mk, ok⟩ := D
  refine wpAny_Call_Name_kw (ld_m I hg hm ?_ hdb)
  refine PySem.W.callWith_K (h₀ := X.base) I.inv.ok.mod.kin hk (any_sz (wpAny_mono (ha.run pos pins s σ H _ I h) (fun us s1 ⟨vs, H1, I1, r, q, c⟩ hsz => ⟨I1.inv.kIn, ?_⟩) fun _ _ z => z)) he hpl
  have r2 := r.append hd
  have hl2 : (us ++ ds).length = ps.length := r2.length.symm.trans (hl _ _ q)
  refine wpAny_call (mk X.A X.stack s1 H1 ⟨us, []⟩ (us ++ ds) _ hr I1.inv.env0 (hb s1 us I1.inv.kIn hl2) fun s' a g b => ?_)
  exact ⟨s1, vs, us ++ ds, H1, a, g, bd, qual, sc, cd, rfl, I1, c, hsz, r2, q, b, ok⟩
end GT

set_option Elab.async false
set_option linter.all false
set_option maxRecDepth 100000
set_option maxHeartbeats 1000000
/-! `yield from f(..)` in a generator's body. -/
namespace GT
open PySem PySem.Spec PyProof.Rows L2 GenW
open Sem (wp)
theorem push_get {G : Array GenState} {y x : GenState} {i : Nat} (h : G[i]? = some y) : (G.push x)[i]? = some y := by
  have hl := (Array.getElem?_eq_some_iff.mp h).1
  rw [Array.getElem?_push_lt hl]
  rw [Array.getElem?_eq_getElem hl] at h
  exact h
theorem push_of {G : Array GenState} {y x : GenState} {i : Nat} (h : (G.push x)[i]? = some y) : G[i]? = some y ∨ i = G.size := by
  by_cases hi : i < G.size
  · rw [Array.getElem?_push_lt hi] at h
    rw [Array.getElem?_eq_getElem hi]
    exact .inl h
  · have := (Array.getElem?_eq_some_iff.mp h).1
    rw [Array.size_push] at this
    exact .inr (by omega)
theorem wf_push {G : Array GenState} {c : Code} (h : WF G) : WF (G.push (.fresh c)) := fun i k l c' p fs cl e => by
  rcases push_of e with q | q
  · exact h i k l c' p fs cl q
  · subst q
    rw [Array.getElem?_push_size] at e
    cases e
theorem fresh_at {G : Array GenState} {c : Code} : (G.push (.fresh c))[G.size]? = some (.fresh c) := Array.getElem?_push_size
section
variable {X : Cx} {Hg : Hp} {A : Around} {c : Code} {fs : List Frame} {xs ys : List V} {O : List (Addr × Obj)} {σ : L2.St} {K : Flow → Sem PySem.Fin} {J : Value → Sem PySem.Fin}
/-- a generator was born in a frame -/
theorem born_stp {F : Foot} {s s' : Shared} {bd : List Stmt} {qual : Str} {sc : Scope} {f : Addr} {cd : Value} {bs : List (Str × Value)} {a g : Nat} {L : Addr} (B : Born bd qual sc f cd bs s s' a g) (wf : WF s.gens) (hok : HOk X.prog X.w Hg s.heap) (F' : Foot) (hO : ∀ b ∈ F'.objs, b ∈ F.objs ∨ s.heap.objs.size ≤ b) (hI : ∀ i ∈ F'.gens, i ∈ F.gens ∨ i = g) (hg : g ∈ F'.gens) (nF : ∀ i ∈ F.gens, i < s.gens.size → i ∈ F'.gens) (outer : List Env) :
    Stp0 X.prog X.w Hg L outer F F' s s' := by
  have gs : s'.gens.size = s.gens.size + 1 := by rw [B.gens, Array.size_push]
  refine ⟨B.os, ?_, Nat.le_trans (Nat.le_of_lt B.old) (Nat.le_trans (Nat.le_succ _) (Nat.le_of_eq B.size.symm)), by omega, fun b o e _ _ _ _ => B.keep b o e, hok.kept B.keep, fun b o e _ => ⟨o.slots, B.keep b o e⟩, fun i y e _ _ => ?_, fun i y e => ?_, hO, fun i hi => ?_⟩
  · rw [B.gens]; exact wf_push wf
  · rw [B.gens]; exact push_get e
  · rw [B.gens] at e
    by_cases hf : i ∈ F.gens
    · rcases push_of e with q | q
      · exact .inr (.inr (nF i hf (Array.getElem?_eq_some_iff.mp q).1))
      · rw [← B.num] at q
        exact .inr (.inr (q ▸ hg))
    · rcases push_of e with q | q
      · exact .inl ⟨q, hf⟩
      · rw [← B.num] at q
        exact .inr (.inr (q ▸ hg))
  · rcases hI i hi with q | q
    · exact .inl q
    · exact .inr (by rw [q, B.num]; exact Nat.le_refl _)
theorem n_from (G : GX X Hg) (pl : Pl X A c fs) (nx : ∀ e z, ¬ X.xe e z) (hG : X.A.guards = some []) {k : Nat} {f : Addr} {fd : FuncData} {ps : List Str} {sp : GSp} {dvs : List V} {ds : List Value} {e : Expr} {es : List Expr} {t : TA} {x : Str} {p pos yp pos2 : Pos} (D : GenD X.prog X.w X.K X.mg X.base k f fd ps sp)
    (hr : Room k X.A.in1.in1) (hg : Gl X x) (hm : X.mg x = some (.ref f)) (hk : PySem.W.keepIn X.K (.ref f) = true) (hb : Binds X.K fd ps ds) (hd : Vals dvs ds) (ha : ∀ s, PA (reb X Hg s) (e :: es) t) (ht : t σ Hg fun vs H' => H' = Hg ∧ sp (vs ++ dvs) Hg ys)
    (kn : SgN X Hg A c fs xs (K .next) O σ) (hi : interactive X.env = false := by rfl) (hdb : (x == ("__debug__" : Str)) = false := by decide) (he : starEach (e :: es) X.env = (false, eval e X.env) :: starEach es X.env := by rfl) (hpl : (backTo pos (starEach es X.env)).any (·.1) = false := by rfl) :
    SgN X Hg A c fs (ys ++ xs) ((exec (.Expr (.YieldFrom (.Call (.Name x p) (e :: es) [] pos) yp) pos2) X.env).wrap K J id id) O σ := fun F s₀ s m => by
  refine g_from ?_ hi
  rw [pl.over]
  have hr0 : X.A.depth < recursionLimit := hr.depth
  refine wpAny_mono (gen_call (X := reb X Hg s) D hr0 hg hm hk hb hd (a_m (ha s)) (mid_im (W := []) G m) ht (fun vs H1 q => D.len _ _ _ q.2) hdb he hpl) (fun v z y => ?_) fun e z y => (no_xm (X := reb X Hg s) nx y).elim
  obtain ⟨s1, vs, us, H1, a, g, bd, qual, sc, cd, rfl, I1, cal, hsz, rv, ⟨rfl, hsp⟩, B, ok⟩ := y
  refine ⟨a, g, rfl, B.isg, fun kk pp l ek => ?_⟩
  have m1 := mid_calm G m I1 cal hsz
  have noH : ∀ b, s1.heap.objs.size ≤ b → H1 b = none := fun b hb => m1.aw.hok.fresh hb
  have frL : ∀ b ∈ frs X.outer, b < X.env.locals := G.old
  have lL : X.env.locals < s1.heap.objs.size := I1.inv.lt
  have fr : frs (X.env :: X.outer) = X.env.locals :: frs X.outer := by
    unfold frs
    rw [List.filterMap_cons, G.stk.2]
  have bL : ∀ b o, X.base.get? b = some o → b < X.env.locals := fun b o q => Nat.lt_of_lt_of_le (Heap.lt_size q) G.bsz
  have hOs : ∀ q ∈ O, q.1 < s1.heap.objs.size := fun q hq => Heap.lt_size (m1.ob q hq).2.2.1
  have hob : ∀ b ∈ O.map (·.1), ∃ q ∈ O, q.1 = b := fun b hb => by
    obtain ⟨q, hq, e⟩ := List.mem_map.mp hb
    exact ⟨q, hq, e⟩
  have fc1 : Fc X H1 z := ⟨fun b o q => B.keep b o (m1.aw.bs b o q), by
    have q : s1.heap.FunFrames X.base X.stack := I1.inv.env0.funs
    rw [G.stk.1] at q
    exact frames_slot q fun b _ o e => ⟨o.slots, B.keep b o e⟩, m1.aw.hok.kept B.keep, by
    obtain ⟨_, ⟨o, es, ep, ho, r⟩, _⟩ := m1.aw.loc
    exact ⟨o, B.keep _ o ho, fun v z => by rw [r.1] at z; cases z⟩⟩
  have hist : Stp0 X.prog X.w H1 X.env.locals X.outer F (cur X ⟨O.map (·.1), []⟩ a g ⟨[s1.heap.objs.size], []⟩) s₀ z := by
    refine m1.hist.to0.trans (born_stp B m1.aw.wf m1.aw.hok _ (fun b hb => ?_) (fun i hi => .inr ?_) (List.mem_append_right _ List.mem_cons_self) (fun i hi => absurd hi (by simp [own])) _)
    · rcases List.mem_cons.mp hb with q | q
      · exact .inl (by rw [q]; exact List.mem_cons_self)
      · rcases List.mem_append.mp q with q | q
        · exact .inl (List.mem_cons_of_mem _ q)
        · rcases List.mem_cons.mp q with q | q
          · exact .inr (by rw [q]; exact Nat.le_of_lt B.old)
          · exact .inr (by rw [List.mem_singleton.mp q]; exact Nat.le_refl _)
    · simpa [cur] using hi
  have gsz : z.gens.size = s1.gens.size + 1 := by rw [B.gens, Array.size_push]
  have old := B.old
  have az : a < z.heap.objs.size := by rw [B.size]; exact Nat.lt_succ_self _
  have sep : Sep X ⟨O.map (·.1), []⟩ a g ⟨[s1.heap.objs.size], []⟩ z := by
    refine ⟨fun h => Nat.ne_of_gt old (List.mem_singleton.mp h), fun h => absurd h (by simp), fun h => ?_, fun h => absurd h (by simp), fun h => Nat.ne_of_gt (Nat.lt_trans lL old) h, fun h => Nat.lt_asymm (frL _ h) (Nat.lt_trans lL old), fun h => ?_, fun h => Nat.ne_of_lt lL (List.mem_singleton.mp h), fun b hb h => ?_, fun b hb h => ?_, fun i hi => absurd hi (by simp), fun b hb => ?_, fun i hi => absurd hi (by simp), az, by rw [gsz, B.num]; exact Nat.lt_succ_self _, Nat.lt_trans lL (Nat.lt_trans old az)⟩
    · obtain ⟨q, hq, e⟩ := hob _ h
      exact Nat.ne_of_lt (Nat.lt_trans (hOs q hq) old) e
    · obtain ⟨q, hq, e⟩ := hob _ h
      exact Nat.ne_of_gt (m1.ob q hq).1 e
    · obtain ⟨q, hq, e⟩ := hob _ hb
      exact Nat.ne_of_lt (hOs q hq) (e.trans (List.mem_singleton.mp h))
    · obtain ⟨q, hq, rfl⟩ := hob _ hb
      exact Nat.lt_asymm (frL _ h) (m1.ob q hq).1
    · obtain ⟨q, hq, rfl⟩ := hob _ hb
      exact Nat.lt_trans (hOs q hq) (Nat.lt_trans old az)
  have sep2 : Sep2 X H1 a ⟨[s1.heap.objs.size], []⟩ := by
    refine ⟨fun b o e h => Nat.ne_of_lt (Nat.lt_trans (bL b o e) lL) (List.mem_singleton.mp h), ?_, fun b o e h => ?_, noH a (Nat.le_of_lt old), fun b hb => ?_, G.bs⟩
    · cases e : X.base.get? a with
      | none => rfl
      | some o => exact absurd (bL a o e) (Nat.lt_asymm (Nat.lt_trans lL old))
    · rw [noH b (Nat.le_of_eq (List.mem_singleton.mp h).symm)] at e
      cases e
    · rw [fr] at hb
      rcases List.mem_cons.mp hb with q | q
      · rw [q]; exact G.own
      · exact G.frf b q
  have sm : SameO X ⟨O.map (·.1), []⟩ s1 z := by
    refine ⟨fun b hb => ?_, fun o e => ⟨o.slots, B.keep _ o e⟩, fun i hi => absurd hi (by simp)⟩
    obtain ⟨q, hq, rfl⟩ := hob _ hb
    rw [(m1.ob q hq).2.2.1]
    exact B.keep _ _ (m1.ob q hq).2.2.1
  have hA : (A.over (yfC a) (.ret kk none false l c pp [] :: fs)).in1 = X.A.in1.in1 := by rw [over_yf, pl.over]
  have hA1 : A.over (yfC a) (.ret kk none false l c pp [] :: fs) = X.A.in1 := by rw [over_yf, pl.over]
  have gAt : z.gens[g]? = some (.fresh (.func bd (envOfC qual sc s1.heap.objs.size f cd))) := by rw [B.gens, B.num]; exact fresh_at
  refine sg_from (X := X) (Hg := H1) (O := ⟨O.map (·.1), []⟩) (a := a) (g := g) (rest := xs) (sI := s1) (Lk := s1.heap.objs.size) G.stk.2 G.mod.nolimit (by rw [hA1]; exact G.hd) (by rw [hA1]; exact hr0) ?_ ?_ (fun i hi => absurd hi (by simp)) (fun b hb => ?_) (fun b hb => ?_) (Nat.le_of_lt lL) (Nat.le_trans G.bsz (Nat.le_of_lt lL)) (fun s₂ F2 s2 st fc sm2 => ?_)
    ys z s₀ F ⟨[s1.heap.objs.size], []⟩ _ hist sep sep2 fc1 B.isg gAt (.inl rfl) ?_ sm
  · show (splitAtGen fs).map _ = none
    rw [pl.split]; rfl
  · show (false || fs.any Frame.guarded) = false
    rw [pl.guard]; rfl
  · obtain ⟨q, hq, rfl⟩ := hob _ hb
    exact ⟨_, (m1.ob q hq).2.2.1, (m1.ob q hq).2.2.2⟩
  · obtain ⟨q, hq, rfl⟩ := hob _ hb
    exact ⟨(m1.ob q hq).2.1, hOs q hq⟩
  · refine sg_leaf (.ok (.ret .none)) ?_
    rw [ek]
    exact kn F2 s₂ s2 (mid_from G m1 st fc sm2)
  · rw [hA]
    refine ok _ _ H1 ys _ _ _ _ rv hsp hG hr (by show X.A.frames = _; rw [G.frames, G.stk.1]) G.mod (Nat.le_trans G.bsz (Nat.le_of_lt lL)) (fun b hb => ?_) (fun b o q => ⟨fc1.bs b o q, G.bs b o q⟩) fc1.funs fc1.hok (noH _ (Nat.le_refl _)) B.ns (WF.set (γ := z.gens) ?_ g .running fun _ _ _ _ _ _ q => (by cases q))
    · rw [fr] at hb
      rcases List.mem_cons.mp hb with q | q
      · rw [q]; exact ⟨lL, G.own⟩
      · exact ⟨Nat.lt_trans (frL b q) lL, G.frf b q⟩
    · rw [B.gens]; exact wf_push m1.aw.wf
end
end GT

set_option Elab.async false
set_option linter.all false
set_option maxRecDepth 100000
set_option maxHeartbeats 1000000
/-! A generator in its consumer's hands: from its birth to its end. -/
namespace GT
open PySem PySem.Spec PyProof.Rows L2 GenW
open Sem (wp)
abbrev Pn := List (Addr × Obj)
/-- a sleeper that may be left behind; what it waits for is no older than N -/
def Kept (N : Nat) (pn : Pn) (x : GenState) : Prop := ∀ k l c p fs cl, x = .suspended k l c p fs cl → splitAtGen fs = none ∧ cl = false ∧ (mk ∈ l → fs.any Frame.guarded = false ∧ ∃ a o, dOf c = some (.ref a) ∧ N ≤ a ∧ (a, o) ∈ pn ∧ o.genNumber?.isSome = true)
theorem Kept.of {N : Nat} {pn : Pn} {x : GenState} (h : Plain x) : Kept N pn x := fun k l c p fs cl e => ⟨(h k l c p fs cl e).1, (h k l c p fs cl e).2.1, fun m => absurd m (h k l c p fs cl e).2.2⟩
theorem Kept.mono {N M : Nat} {pn qn : Pn} {x : GenState} (h : Kept N pn x) (s : ∀ p ∈ pn, p ∈ qn) (n : M ≤ N) : Kept M qn x := fun k l c p fs cl e => by
  obtain ⟨h1, h2, h3⟩ := h k l c p fs cl e
  exact ⟨h1, h2, fun m => by obtain ⟨g, a, o, e1, e0, e2, e3⟩ := h3 m; exact ⟨g, a, o, e1, Nat.le_trans n e0, s _ e2, e3⟩⟩
structure CalX (N : Nat) (pn : Pn) (G0 G : Array GenState) : Prop where
  size : G0.size ≤ G.size
  keep : ∀ (i : Nat) y, G0[i]? = some y → Sus y → G[i]? = some y
  new : ∀ (i : Nat) y, G[i]? = some y → G0[i]? = some y ∨ Kept N pn y
theorem CalX.of {N : Nat} {pn : Pn} {a b : Array GenState} (h : Cal a b) : CalX N pn a b := ⟨h.size, h.keep, fun i y e => (h.new i y e).imp id Kept.of⟩
theorem CalX.refl (N : Nat) (pn : Pn) (G : Array GenState) : CalX N pn G G := .of (.refl G)
theorem CalX.mono {N M : Nat} {pn qn : Pn} {a b : Array GenState} (h : CalX N pn a b) (s : ∀ p ∈ pn, p ∈ qn) (n : M ≤ N) : CalX M qn a b := ⟨h.size, h.keep, fun i y e => (h.new i y e).imp id fun k => k.mono s n⟩
theorem CalX.trans {N : Nat} {pn qn : Pn} {a b c : Array GenState} (h : CalX N pn a b) (k : CalX N qn b c) (s : ∀ p ∈ pn, p ∈ qn) : CalX N qn a c :=
  ⟨Nat.le_trans h.size k.size, fun i y e q => k.keep i y (h.keep i y e q) q, fun i y e => (k.new i y e).elim (fun z => (h.mono s (Nat.le_refl _)).new i y z) .inr⟩
theorem Kept.plain {N : Nat} {x : GenState} (h : Kept N [] x) : Plain x := fun k l c p fs cl e => ⟨(h k l c p fs cl e).1, (h k l c p fs cl e).2.1, fun m => by
  obtain ⟨_, a, o, _, _, q, _⟩ := (h k l c p fs cl e).2.2 m
  exact absurd q (by simp)⟩
theorem CalX.cal {N : Nat} {a b : Array GenState} (h : CalX N [] a b) : Cal a b := ⟨h.size, h.keep, fun i y e => (h.new i y e).imp id Kept.plain⟩
/-- the sleepers while the generator g is held -/
structure CalF (N : Nat) (pn : Pn) (G0 : Array GenState) (g : Nat) (F : Foot) (G : Array GenState) : Prop where
  size : G0.size ≤ G.size
  keep : ∀ (i : Nat) y, G0[i]? = some y → Sus y → G[i]? = some y
  new : ∀ (i : Nat) y, G[i]? = some y → G0[i]? = some y ∨ Kept N pn y ∨ i = g ∨ i ∈ F.gens
  gN : G0.size ≤ g
  fN : ∀ i ∈ F.gens, G0.size ≤ i
/-- what is read is tracked -/
structure Sub (H Hg : Hp) : Prop where
  sub : ∀ b u, Hg b = some u → H b = some u
  cls : ∀ b c, Hg c = some (.own b) → ∃ u, Hg b = some u
  kinds : ∀ b u, Hg b = some u → (∃ xs, u = .tup xs) ∨ (∃ C d fs, u = .ins C d fs) ∨ ∃ x, u = .own x
  ins : ∀ b C d fs, Hg b = some (.ins C d fs) → Hg d = some (.own b)
theorem Sub.ok {P : Program} {w : World} {H Hg : Hp} {h : Heap} (S : Sub H Hg) (ok : HOk P w H h) : HOk P w Hg h := fun b u e => by
  have q := ok b u (S.sub b u e)
  rcases S.kinds b u e with ⟨xs, rfl⟩ | ⟨C, d, fs, rfl⟩ | ⟨x, rfl⟩
  · exact q
  · obtain ⟨_, r⟩ := q
    exact ⟨S.ins b C d fs e, r⟩
  · exact q
theorem Sub.more {H H' Hg : Hp} (S : Sub H Hg) (h : ∀ b u, Hg b = some u → H' b = some u) : Sub H' Hg := ⟨h, S.cls, S.kinds, S.ins⟩
/-- an instance's dict is its own -/
def Dk (H : Hp) : Prop := ∀ b C d fs, H b = some (.ins C d fs) → H d = some (.own b)
theorem dk_of {P : Program} {w : World} {H : Hp} {h : Heap} (ok : HOk P w H h) : Dk H := fun b C d fs e => (ok b _ e).1
/-- the tuples and the instances alone -/
def flt (H : Hp) : Hp := fun b => match H b with
  | some (.tup xs) => some (.tup xs)
  | some (.ins C d fs) => some (.ins C d fs)
  | some (.own x) => match H x with
    | some (.ins _ d _) => if d = b then some (.own x) else none
    | _ => none
  | _ => none
theorem flt_tup {H : Hp} {b : Addr} {xs : List V} (e : H b = some (.tup xs)) : flt H b = some (.tup xs) := by unfold flt; rw [e]
theorem flt_ins {H : Hp} {b C d : Addr} {fs : List (Str × V)} (e : H b = some (.ins C d fs)) : flt H b = some (.ins C d fs) := by unfold flt; rw [e]
theorem flt_own {H : Hp} {b x C : Addr} {fs : List (Str × V)} (e : H b = some (.own x)) (e2 : H x = some (.ins C b fs)) : flt H b = some (.own x) := by
  unfold flt
  rw [e]
  simp only [e2, if_true]
theorem flt_of {H : Hp} {b : Addr} {u : HO} (e : flt H b = some u) : H b = some u ∧ ((∃ xs, u = .tup xs) ∨ (∃ C d fs, u = .ins C d fs) ∨ ∃ x C fs, u = .own x ∧ H x = some (.ins C b fs)) := by
  unfold flt at e
  cases h : H b with
  | none => rw [h] at e; cases e
  | some v =>
    rw [h] at e
    cases v with
    | tup xs => cases e; exact ⟨rfl, .inl ⟨_, rfl⟩⟩
    | ins C d fs => cases e; exact ⟨rfl, .inr (.inl ⟨_, _, _, rfl⟩)⟩
    | own x =>
      simp only at e
      cases h2 : H x with
      | none => rw [h2] at e; cases e
      | some y =>
        rw [h2] at e
        cases y with
        | ins C d fs =>
          simp only at e
          split at e
          · rename_i hd
            cases e
            exact ⟨rfl, .inr (.inr ⟨_, C, fs, rfl, by rw [h2, hd]⟩)⟩
          · cases e
        | _ => cases e
    | _ => cases e
theorem flt_sub {H : Hp} (k : Dk H) : Sub H (flt H) where
  sub := fun b u e => (flt_of e).1
  cls := fun b c e => by
    rcases (flt_of e).2 with ⟨_, q⟩ | ⟨_, _, _, q⟩ | ⟨x, C, fs, q, e2⟩
    · cases q
    · cases q
    · cases q
      exact ⟨_, flt_ins e2⟩
  kinds := fun b u e => by
    rcases (flt_of e).2 with q | q | ⟨x, C, fs, q, e2⟩
    · exact .inl q
    · exact .inr (.inl q)
    · exact .inr (.inr ⟨x, q⟩)
  ins := fun b C d fs e => flt_own (k b C d fs (flt_of e).1) (flt_of e).1
/-- no cell -/
def NCell : HO → Prop
  | .lst _ | .tup _ | .ins .. => True
  | _ => False
theorem NCell.no {P : Program} {w : World} {H : Hp} {h : Heap} {b : Addr} {u : HO} (n : NCell u) (ok : ObjOk P w H h b u) {o : Obj} (e : h.get? b = some o) (v : Option Value) : o.data ≠ .cell v := fun z => by
  cases u with
  | lst xs => obtain ⟨_, its, m, _, q⟩ := ok; rw [e] at q; cases q; cases z
  | tup xs => obtain ⟨_, its, _, q⟩ := ok; obtain ⟨o', q1, _, m, q2⟩ := q; rw [e] at q1; cases q1; rw [z] at q2; cases q2
  | ins C d fs => obtain ⟨_, _, _, q, _⟩ := ok; rw [e] at q; cases q; cases z
  | _ => exact n
/-- the consumer X holds the generator -/
structure Con (N : Nat) (pn : Pn) (X : Cx) (Hg : Hp) (pins : List (Addr × Obj)) (σ : L2.St) (H : Hp) (G0 : Array GenState) (L : Addr) (A : Around) (xs : List V) (F : Foot) (a : Addr) (g : Nat) (s : Shared) : Prop where
  im : IM X pins σ H s
  hold : Hold X Hg L A xs F a g s
  cal : CalF N pn G0 g F s.gens
  fp : ∀ b ∈ F.objs, FpOk X pins H b
  sub : Sub H Hg
  aX : a ∉ frs X.stack
  aF : FpOk X pins H a
  cl : ∀ x c, X.env.cells.lookup x = some c → c < L
  h0 : X.s_0.heap.objs.size ≤ L
  hcc : ∀ b u, H b = some u → b < L ∨ NCell u
  sus : ∀ i ∈ F.gens, ∃ y, s.gens[i]? = some y ∧ Sus y ∧ Kby F.objs s.heap y
  kbg : ∃ y, s.gens[g]? = some y ∧ Kby F.objs s.heap y
  there : ∀ b ∈ F.objs, ∃ o, s.heap.get? b = some o ∧ ∀ v, o.data ≠ .cell v
section
variable {N : Nat} {pn : Pn} {X : Cx} {Hg : Hp} {pins : List (Addr × Obj)} {σ : L2.St} {H : Hp} {G0 : Array GenState} {L : Addr} {A : Around} {xs : List V} {F : Foot} {a : Addr} {g : Nat} {s : Shared}
theorem Sub.none {H Hg : Hp} (S : Sub H Hg) {b : Addr} (e : H b = none) : Hg b = none := by
  cases q : Hg b with
  | none => rfl
  | some u => rw [S.sub b u q] at e; cases e
/-- born -/
theorem con_born {bd : List Stmt} {qual : Str} {sc : Scope} {f : Addr} {cd : Value} {ps : List Str} {sp : GSp} {k : Nat} {s1 z : Shared} {vs : List V} {us : List Value} (I : IM X pins σ H s1) (cal : Cal G0 s1.gens) (B : Born bd qual sc f cd (ps.zip us) s1 z a g) (ok : GenOk X.prog X.w X.K X.mg X.base k bd qual sc f cd ps sp) (S : Sub H Hg)
    (rv : Vals vs us) (hsp : sp vs Hg xs) (hG : A.guards = some []) (hr : Room k A) (hfr : A.frames = some X.stack) : Con N pn X Hg pins σ H G0 s1.heap.objs.size A xs ⟨[s1.heap.objs.size], []⟩ a g z := by
  have e0 := I.inv.env0
  have lt : ∀ b ∈ frs X.stack, b < s1.heap.objs.size := fun b hb => let ⟨_, o, e, _⟩ := e0.funs.mem hb; Heap.lt_size e
  have J : IM X pins σ H z := by
    have q := I.inv.kept (h' := z.heap) (t' := z.toks) B.keep
    refine ⟨⟨q.ok, B.os.trans I.inv.os, bare_nil, q.base, q.loc, q.cell, q.free, q.freeC, q.pin, q.hok, q.len⟩, ?_⟩
    rw [B.gens]
    exact wf_push I.wf
  have fpn : ∀ b, s1.heap.objs.size ≤ b → FpOk X pins H b := fun b hb => I.inv.fpOk hb (I.inv.hok.fresh hb)
  have gz : g < z.gens.size := by rw [B.gens, B.num, Array.size_push]; exact Nat.lt_succ_self _
  refine ⟨J, ⟨B.isg, ⟨_, by rw [B.gens, B.num]; exact fresh_at, .inl rfl, fun z' lr => ?_⟩, by simp, fun h => Nat.ne_of_gt B.old (List.mem_singleton.mp h), gz⟩, ⟨?_, fun i y e u => ?_, fun i y e => ?_, by rw [B.num]; exact cal.size, fun i hi => absurd hi (by simp)⟩,
    fun b hb => fpn b (Nat.le_of_eq (List.mem_singleton.mp hb).symm), S, fun h => Nat.lt_asymm (lt a h) B.old, fpn a (Nat.le_of_lt B.old), fun x c e => ?_, ?_, fun b u e => .inl (I.inv.hok.lt e), fun i hi => absurd hi (by simp), ⟨_, by rw [B.gens, B.num]; exact fresh_at, fun _ _ _ _ _ _ q => by cases q⟩, fun b hb => by
      rw [List.mem_singleton.mp hb]
      obtain ⟨o, es, ep, ho, r⟩ := B.ns
      exact ⟨o, ho, fun v z => by rw [r.1] at z; cases z⟩⟩
  · have ns : z'.heap.Ns s1.heap.objs.size (bindL (envOfC qual sc s1.heap.objs.size f cd).kindOf (ps.zip us) fun _ => none) := by
      obtain ⟨o, es, ep, ho, r⟩ := B.ns
      exact ⟨o, es, ep, lr.own _ (List.mem_singleton.mpr rfl) o ho (fun v z => by rw [r.1] at z; cases z), r⟩
    exact ok vs us Hg xs A X.stack _ z' rv hsp hG hr hfr I.inv.ok.mod e0.bsz (fun b hb => ⟨lt b hb, S.none (e0.frf b hb)⟩) (fun b o e => ⟨lr.bs b o e, S.none (e0.bs b o e).2⟩) lr.funs lr.hok (S.none (I.inv.hok.fresh (Nat.le_refl _))) ns lr.wf
  · rw [B.gens, Array.size_push]; exact Nat.le_succ_of_le cal.size
  · rw [B.gens]; exact push_get (cal.keep i y e u)
  · rw [B.gens] at e
    rcases push_of e with q | q
    · exact (cal.new i y q).imp id fun z => .inl (.of z)
    · exact .inr (.inr (.inl (q.trans B.num.symm)))
  · obtain ⟨v, q⟩ := I.inv.cell x c e
    exact q.lt
  · exact Nat.le_trans I.inv.ok.above (Nat.le_of_lt I.inv.lt)
/-- it is asked for its next -/
theorem con_next {B : Around} {Q : Option Value → Shared → Prop} {E : Value → Shared → Prop} (C : Con N pn X Hg pins σ H G0 L B.in1 xs F a g s) (hh : B.handled = none) (room : B.depth < recursionLimit)
    (h0 : xs = [] → ∀ z, IM X pins σ H z → CalX N pn G0 z.gens → (∀ b o, s.heap.get? b = some o → (∀ v, o.data ≠ .cell v) → Hg b = none → b ∉ F.objs → b ∉ frs X.stack → z.heap.get? b = some o) → Q none z)
    (h1 : ∀ x ys, xs = x :: ys → ∀ v z F', RelV x v → Con N pn X Hg pins σ H G0 L B.in1 ys F' a g z → (∀ b o, s.heap.get? b = some o → (∀ v, o.data ≠ .cell v) → Hg b = none → b ∉ F.objs → b ∉ frs X.stack → z.heap.get? b = some o) → (∀ b ∈ F'.objs, b ∈ F.objs ∨ s.heap.objs.size ≤ b) → s.heap.objs.size ≤ z.heap.objs.size → (∃ y, z.gens[g]? = some y ∧ Sus y) → Q (some v) z) :
    wpAny (hm (model X.prog X.w)) B (pyNext (.ref a)) Q E s := by
  obtain ⟨gs, hgs, hst, _⟩ := id C.hold.gen
  have e0 := C.im.inv.env0
  have gz := C.hold.gS
  have szg : (s.setGen g .running).gens.size = s.gens.size := sg_size s g .running
  have I0 : IM X pins σ H (s.setGen g .running) := ⟨C.im.inv, C.im.wf.set g .running fun _ _ _ _ _ _ q => (by cases q)⟩
  have after : ∀ {F' : Foot} {s1 : Shared}, Stp X.prog X.w Hg L X.stack F F' (s.setGen g .running) s1 → IM X pins σ H s1 := fun {F' s1} st =>
    im_after I0 st C.sub.sub C.sub.cls C.fp C.cl C.h0 fun b u o v e q z => (C.hcc b u e).elim id fun n => absurd z (n.no (C.im.inv.hok b u e) q v)
  have calm : ∀ {F' : Foot} {s1 : Shared} {y : GenState}, Stp X.prog X.w Hg L X.stack F F' (s.setGen g .running) s1 → CalF N pn G0 g F' (s1.setGen g y).gens := fun {F' s1 y} st => by
    have z1 : (s1.setGen g y).gens.size = s1.gens.size := sg_size s1 g y
    have gs1 := st.gsize
    rw [szg] at gs1
    refine ⟨by rw [z1]; exact Nat.le_trans C.cal.size gs1, fun i y' e u => ?_, fun i y' e => ?_, C.cal.gN, fun i hi => ?_⟩
    · have lt := (Array.getElem?_eq_some_iff.mp e).1
      have ig : g ≠ i := fun q => absurd (q ▸ lt) (Nat.not_lt.mpr C.cal.gN)
      show (s1.gens.setIfInBounds g y)[i]? = _
      rw [get_set_ne ig]
      refine st.keepG i y' ?_ (fun q => absurd lt (Nat.not_lt.mpr (C.cal.fN i q))) u
      show (s.gens.setIfInBounds g .running)[i]? = _
      rw [get_set_ne ig]
      exact C.cal.keep i y' e u
    · by_cases ig : g = i
      · exact .inr (.inr (.inl ig.symm))
      · have e : (s1.gens.setIfInBounds g y)[i]? = some y' := e
        rw [get_set_ne ig] at e
        rcases st.newG i y' e with ⟨q, n⟩ | q | q
        · have q : (s.gens.setIfInBounds g .running)[i]? = some y' := q
          rw [get_set_ne ig] at q
          rcases C.cal.new i y' q with q | q | q | q
          · exact .inl q
          · exact .inr (.inl q)
          · exact absurd q.symm ig
          · exact absurd q n
        · exact .inr (.inl (.of q))
        · exact .inr (.inr (.inr q))
    · rcases st.newI i hi with q | q
      · exact C.cal.fN i q
      · rw [szg] at q
        exact Nat.le_trans C.cal.size q
  refine next_g (gs := gs) (Qv := fun v z => ∃ x ys s1 F' y, xs = x :: ys ∧ z = s1.setGen g y ∧ RelV x v ∧ Stp X.prog X.w Hg L X.stack F F' (s.setGen g .running) s1 ∧ Wy y ∧ Sus y ∧ Kby F'.objs s1.heap y ∧ Hold X Hg L B.in1 ys F' a g (s1.setGen g y))
    (N := fun z => xs = [] ∧ ∃ s1, z = s1.setGen g .finished ∧ Stp X.prog X.w Hg L X.stack F ⟨[], []⟩ (s.setGen g .running) s1) hh C.im.inv.nolimit room C.hold.isg hgs hst ?_ (fun v z y => ?_) fun z h' tk y hk hz => ?_
  · refine hold_next C.hold C.im.wf C.im.inv.bk e0.funs (C.sub.ok C.im.inv.hok) (C.sub.none C.aF.1) C.aX (fun ex s1 st => .inr ⟨rfl, ex, s1, rfl, st⟩) fun x ys ex v s1 F' y rv st wy su kb hd => .inl ⟨v, rfl, x, ys, s1, F', y, ex, rfl, rv, st, wy, su, kb, hd⟩
  · obtain ⟨x, ys, s1, F', y, ex, rfl, rv, st, wy, su, kb, hd⟩ := y
    have J := after st
    have yg : Stp X.prog X.w Hg L X.stack F F' (s.setGen g .running) s1 → (s1.setGen g y).gens[g]? = some y := fun st => set_at (Nat.lt_of_lt_of_le gz (by have q := st.gsize; rw [szg] at q; exact q))
    refine h1 x ys ex v _ F' rv ⟨⟨J.inv, J.wf.set g y wy⟩, hd, calm st, fun b hb => ?_, C.sub, C.aX, C.aF, C.cl, C.h0, C.hcc, fun i hi => ?_, ⟨y, yg st, kb⟩, st.there⟩ (fun b o e nc nh nf nx => st.keep b o e (fun v q => absurd q (nc v)) nh nf nx) (fun b hb => st.newO b hb) st.size ⟨y, yg st, su⟩
    rcases st.newO b hb with q | q
    · exact C.fp b q
    · exact C.im.inv.fpOk q (C.im.inv.hok.fresh q)
    · obtain ⟨y', e, u⟩ := st.susG i hi
      have ig : g ≠ i := fun q => hd.gF (q ▸ hi)
      refine ⟨y', ?_, u⟩
      show (s1.gens.setIfInBounds g y)[i]? = _
      rw [get_set_ne ig]
      exact e
  · obtain ⟨ex, s1, rfl, st⟩ := y
    have J := after st
    have K1 := J.inv.kept (h' := h') (t' := tk) hk
    have cf := calm (y := .finished) st
    refine h0 ex _ ⟨⟨K1.ok, K1.os, bare_nil, K1.base, K1.loc, K1.cell, K1.free, K1.freeC, K1.pin, K1.hok, K1.len⟩, J.wf.set g .finished fun _ _ _ _ _ _ q => (by cases q)⟩ ⟨cf.size, cf.keep, fun i y e => ?_⟩ fun b o e nc nh nf nx => hk b o (st.keep b o e (fun v q => absurd q (nc v)) nh nf nx)
    have e : (s1.setGen g .finished).gens[i]? = some y := e
    rcases cf.new i y e with q | q | q | q
    · exact .inl q
    · exact .inr q
    · subst q
      have gs1 := st.gsize
      rw [szg] at gs1
      rw [set_at (Nat.lt_of_lt_of_le gz gs1)] at e
      cases e
      exact .inr (.of fun _ _ _ _ _ _ q => by cases q)
    · exact absurd q (by simp)
end
end GT

set_option Elab.async false
set_option linter.all false
set_option maxRecDepth 100000
set_option maxHeartbeats 1000000
/-! A generator's items are collected; sep.join(f(..)). -/
namespace GT
open PySem PySem.Spec PyProof.Rows L2 GenW
open Sem (wp)
section
variable {P : Program} {w : World} {B : Around} {R : Result → Shared → Prop} {s : Shared}
theorem bi_hm {id : String} {args : Args} {b : Builtin} (hp : plainId id = true) (he : entryFor table id = some b)
    (h : wpAny (hm (model P w)) B.in1 (b args) (fun fin s' => match fin with | .done f => R (.ok f) s' | .again c' => c'.quiet = true ∧ codeAny (hm (model P w)) B c' R s') (fun e s' => R (.error e) s') s) : codeAny (hm (model P w)) B (.builtin id args) R s := by
  refine code_hm ?_
  rw [Around.under_plainId hp _]
  show wpAny _ _ (match entryFor table id with | some b => b args | none => unsupported ((withoutEnding? id "#data").getD id)) _ _ s
  rw [he]
  exact h
end
/-- the heap has grown or other things have turned -/
theorem hold_heap {X : Cx} {Hg : Hp} {L : Addr} {xs : List V} {F : Foot} {a : Addr} {g : Nat} {s z : Shared} {A : Around} (h : Hold X Hg L A xs F a g s) (os : z.os = s.os) (own : ∀ b ∈ a :: F.objs, ∀ o, s.heap.get? b = some o → (∀ v, o.data ≠ .cell v) → z.heap.get? b = some o) (gens : z.gens = s.gens) (size : s.heap.objs.size ≤ z.heap.objs.size) : Hold X Hg L A xs F a g z := by
  obtain ⟨gs, e, hst, rdy⟩ := h.gen
  exact ⟨gen_same h.isg (by
    obtain ⟨o, _, _, ho, _, hd, _⟩ := h.isg
    exact (own a List.mem_cons_self o ho (fun v z => by rw [hd] at z; cases z)).trans ho.symm), ⟨gs, by rw [gens]; exact e, hst, fun z' lt => rdy z' ⟨lt.os.trans os, lt.wf, fun b hb o e n => lt.own b hb o (own b (List.mem_cons_of_mem _ hb) o e n) n, fun i hi => by rw [lt.gens i hi, gens], Nat.le_trans size lt.size, by rw [← gens]; exact lt.gsize, lt.bs, lt.funs, lt.hok⟩⟩, h.gF, h.aF, by rw [gens]; exact h.gS⟩
section
variable {N : Nat} {pn : Pn} {X : Cx} {Hg : Hp} {pins : List (Addr × Obj)} {σ : L2.St} {H : Hp} {G0 : Array GenState} {L : Addr} {A : Around} {xs : List V} {F : Foot} {a : Addr} {g : Nat} {s : Shared}
/-- a thing of the consumer's that is not tracked turns, or is laid -/
theorem con_turn (C : Con N pn X Hg pins σ H G0 L A xs F a g s) {S : Addr} {h' : Heap} {t' : Nat} (fS : FpOk X pins H S) (nS : S ∉ a :: F.objs) (k : ∀ b, b ≠ S → h'.get? b = s.heap.get? b) (sz : s.heap.objs.size ≤ h'.objs.size) : Con N pn X Hg pins σ H G0 L A xs F a g { s with heap := h', toks := t' } := by
  obtain ⟨f0, f1, f2, f3, f4, f5⟩ := fS
  have J : IM X pins σ H { s with heap := h', toks := t' } := ⟨by
    have I := C.im.inv
    exact Inv.turned (h' := h') (t' := t') I (fun b o hb e => (k b hb).trans e) f0 f1 f3 f4 f5, C.im.wf⟩
  have km : ∀ {y : GenState}, Kby F.objs s.heap y → Kby F.objs h' y := fun q => q.mono fun b hb => ⟨hb, fun o e n => ⟨o, (k b fun z => nS (z ▸ List.mem_cons_of_mem _ hb)).trans e, n⟩⟩
  exact ⟨J, hold_heap C.hold rfl (fun b hb o e _ => (k b fun z => nS (z ▸ hb)).trans e) rfl sz, C.cal, C.fp, C.sub, C.aX, C.aF, C.cl, C.h0, C.hcc, fun i hi => let ⟨y, e, u, q⟩ := C.sus i hi; ⟨y, e, u, km q⟩, let ⟨y, e, q⟩ := C.kbg; ⟨y, e, km q⟩, fun b hb => let ⟨o, e, n⟩ := C.there b hb; ⟨o, (k b fun z => nS (z ▸ List.mem_cons_of_mem _ hb)).trans e, n⟩⟩
theorem con_ne (C : Con N pn X Hg pins σ H G0 L A xs F a g s) {S : Addr} {o : Obj} (e : s.heap.get? S = some o) (hc : o.cls ≠ .type "generator") : S ≠ a := fun z => by
  obtain ⟨o', _, _, ho, hc', _⟩ := C.hold.isg
  rw [z, ho] at e
  cases e
  exact hc hc'
/-- the list at S takes all that is still to come -/
theorem drain_hm {B : Around} {R : Result → Shared → Prop} {S : Addr} {res : Value} (hh : B.handled = none) (room : B.depth < recursionLimit) : ∀ (xs ys : List V) (F : Foot) (s : Shared) (acc : Array Value) (c : Nat), Con N pn X Hg pins σ H G0 L B.in1.in1 xs F a g s → s.heap.get? S = some (lstObj acc c) → Vals ys acc.toList → (ys ++ xs).length ≤ sizeLine →
    S ∉ F.objs → FpOk X pins H S → S ∉ frs X.stack → (∀ z acc' c', IM X pins σ H z → CalX N pn G0 z.gens → z.heap.get? S = some (lstObj acc' c') → Vals (ys ++ xs) acc'.toList → R (.ok (.ret res)) z) → codeAny (hm (model X.prog X.w)) B (.builtin "list.extend.loop" ⟨[.ref S, .ref a, res], []⟩) R s := by
  intro xs
  induction xs with
  | nil =>
    intro ys F s acc c C hS rv hz nS fS xS hR
    refine bi_hm PySem.F.plain_extend_loop PySem.F.entry_extend_loop ?_
    show wpAny _ B.in1 (pyNext (.ref a) >>= _) _ _ s
    refine wpAny_bind (con_next C hh room (fun _ z J cal kp => ?_) fun x ys' e => nomatch e)
    refine wpAny_pure (hR z acc c J cal (kp S _ hS (fun v q => by cases q) (C.sub.none fS.1) nS xS) ?_)
    rw [List.append_nil]
    exact rv
  | cons x xs ih =>
    intro ys F s acc c C hS rv hz nS fS xS hR
    refine bi_hm PySem.F.plain_extend_loop PySem.F.entry_extend_loop ?_
    show wpAny _ B.in1 (pyNext (.ref a) >>= _) _ _ s
    refine wpAny_bind (con_next C hh room (fun e => nomatch e) fun x' ys' e v z F' rx C' kp nO sz _ => ?_)
    cases e
    have hS' := kp S _ hS (fun v q => by cases q) (C.sub.none fS.1) nS xS
    have len : acc.size = ys.length := by rw [rv.length]; simp
    have hz' : ys.length + (xs.length + 1) ≤ sizeLine := by simpa using hz
    have nS' : S ∉ F'.objs := fun h => (nO S h).elim nS fun q => absurd (Heap.lt_size hS) (Nat.not_lt.mpr q)
    show wpAny _ B.in1 (updateSeq S (·.push v) >>= _) _ _ z
    refine wpAny_bind (wpAny_updateSeq hS' rfl (wpAny_pure ⟨plainId_quiet PySem.F.plain_extend_loop _, ?_⟩) (by omega) (by show (acc.push v).size ≤ sizeLine + 1; rw [Array.size_push]; omega))
    have Sa : S ≠ a := con_ne C' hS' (show Value.type "list" ≠ Value.type "generator" by decide)
    refine ih (ys ++ [x]) F' _ (acc.push v) _ (con_turn (t' := z.toks) C' fS (fun h => (List.mem_cons.mp h).elim Sa nS') (fun b hb => Heap.get?_update_other _ _ (Ne.symm hb)) (Nat.le_of_eq (upd_size ..).symm)) (Heap.get?_update_self _ hS' rfl) ?_ ?_ nS' fS xS fun z' acc' c' J cal e r => hR z' acc' c' J cal e ?_
    · rw [Array.toList_push]
      exact rv.append (.cons rx .nil)
    · simpa using hz
    · rw [List.append_assoc] at r
      exact r
/-- all of it in one list -/
theorem collect_hm {B : Around} {Q : List Value → Shared → Prop} {E : Value → Shared → Prop} (C : Con N pn X Hg pins σ H G0 L B.in1.in1 xs F a g s) (hh : B.handled = none) (room : B.depth < recursionLimit) (hz : xs.length ≤ sizeLine) (fO : ∀ b ∈ F.objs, b < s.heap.objs.size) (hQ : ∀ us z, IM X pins σ H z → CalX N pn G0 z.gens → Vals xs us → Q us z) : wpAny (hm (model X.prog X.w)) B (collect (.ref a)) Q E s := by
  have fS : FpOk X pins H s.heap.objs.size := C.im.inv.fpOk (Nat.le_refl _) (C.im.inv.hok.fresh (Nat.le_refl _))
  have xS : s.heap.objs.size ∉ frs X.stack := fun h => by
    obtain ⟨_, o, e, _⟩ := C.im.inv.env0.funs.mem h
    exact Nat.lt_irrefl _ (Heap.lt_size e)
  have nSF : s.heap.objs.size ∉ F.objs := fun h => Nat.lt_irrefl _ (fO _ h)
  have alt : a < s.heap.objs.size := let ⟨_, _, _, ho, _⟩ := C.hold.isg; Heap.lt_size ho
  have hSa : s.heap.objs.size ≠ a := Nat.ne_of_gt alt
  have nS : s.heap.objs.size ∉ a :: F.objs := fun h => (List.mem_cons.mp h).elim hSa nSF
  unfold collect
  refine wpAny_bind (wpAny_runValue (bi_hm PySem.F.plain_proto_collect PySem.F.entry_proto_collect ?_))
  show wpAny _ B.in1 (newList [] >>= fun l => again (.builtin "list.__iadd__" ⟨[l, .ref a], []⟩)) _ _ s
  refine wpAny_bind (wpAny_newObj_type ?_)
  refine wpAny_pure ⟨plainId_quiet PySem.F.plain_list_iadd _, bi_hm PySem.F.plain_list_iadd PySem.F.entry_list_iadd ?_⟩
  have push : ∀ (o : Obj) b, b ≠ s.heap.objs.size → (s.heap.push o).get? b = s.heap.get? b := fun o b hb => Heap.get?_push_ne _ _ _ hb
  have upd : ∀ (h : Heap) (f : Obj → Obj) b, b ≠ s.heap.objs.size → (h.update s.heap.objs.size f).get? b = h.get? b := fun h f b hb => Heap.get?_update_other _ _ (Ne.symm hb)
  have ty : ∀ (h : Heap), (∀ b, b ≠ s.heap.objs.size → h.get? b = s.heap.get? b) → IsG h a g := fun h k => gen_same C.hold.isg (k a (Ne.symm hSa))
  have k1 := push { cls := .type "list", data := .seq ([] : List Value).toArray }
  show wpAny _ B.in1 (Builtin.List.listExtendWith (.ref s.heap.objs.size) (.ref a) (.ref s.heap.objs.size)) _ _ _
  unfold Builtin.List.listExtendWith
  refine wpAny_bind (wpAny_typeOf (IsG.ty (s := { s with heap := _ }) (ty _ k1)) ?_)
  have h1 : Builtin.List.listSameRef (.ref s.heap.objs.size) (.ref a) = false := by simp [Builtin.List.listSameRef, hSa]
  have h2 : (Value.type "generator" == Value.type "list") = false := by decide
  have h3 : (Value.type "generator" == Value.type "tuple") = false := by decide
  simp only [h1, h2, h3, Bool.or_false, Bool.false_eq_true, if_false]
  refine wpAny_bind (iter_g (s := { s with heap := _ }) (ty _ k1) ?_)
  refine wpAny_bind (wpAny_holding ?_)
  unfold Builtin.List.listLengthHint
  refine wpAny_bind (wpAny_specialOf (IsG.ty (s := { s with heap := _ }) (ty _ k1)) PySem.F.gen_no_len ?_)
  show wpAny _ B.in1 (specialOf (Value.ref a) (Str.ofString "__length_hint__") >>= _) _ _ _
  refine wpAny_bind (wpAny_specialOf (IsG.ty (s := { s with heap := _ }) (ty _ k1)) PySem.F.gen_no_hint ?_)
  refine wpAny_pure ?_
  show wpAny _ B.in1 (rule "list.extend.makes-room" >>= fun _ => Builtin.List.listTouch (.ref s.heap.objs.size) >>= fun _ =>
    again (.builtin "list.extend.loop" ⟨[.ref s.heap.objs.size, .ref a, .ref s.heap.objs.size], []⟩)) _ _ _
  refine wpAny_bind (wpAny_rule ?_)
  have hS₁ : (s.heap.push { cls := .type "list", data := .seq ([] : List Value).toArray }).get? s.heap.objs.size = some { cls := .type "list", data := .seq ([] : List Value).toArray } := Heap.get?_push_size _ rfl
  refine wpAny_bind ?_
  show wpAny _ B.in1 (updateSeq s.heap.objs.size (·.push .none) >>= fun _ => updateSeq s.heap.objs.size (·.pop)) _ _ _
  refine wpAny_bind (wpAny_updateSeq hS₁ rfl ?_)
  have hS₂ := Heap.get?_update_self (Obj.mapSeq (·.push Value.none)) hS₁ rfl
  refine wpAny_updateSeq hS₂ rfl ?_
  have hS₃ := Heap.get?_update_self (Obj.mapSeq (·.pop)) hS₂ rfl
  refine wpAny_pure ⟨plainId_quiet PySem.F.plain_extend_loop _, ?_⟩
  refine drain_hm hh room xs [] F _ _ _ (con_turn (t' := s.toks) C fS nS (fun b hb => (upd _ _ b hb).trans ((upd _ _ b hb).trans (k1 b hb))) (by rw [upd_size, upd_size, Heap.size_push]; exact Nat.le_succ _)) hS₃ .nil (by simpa using hz) nSF fS xS fun z acc' c' J cal e r => ?_
  show wpAny _ B (load s.heap.objs.size >>= _) _ _ z
  refine wpAny_bind (wpAny_load e ?_)
  exact wpAny_pure (hQ acc'.toList z J cal (by simpa using r))
end
end GT

set_option Elab.async false
set_option linter.all false
set_option maxRecDepth 100000
set_option maxHeartbeats 1000000
/-! sep.join(f(..)) over a def that yields texts. -/
namespace GT
open PySem PySem.Spec PyProof.Rows L2 GenW
open PySem.Builtin PySem.Builtin.Str
open Sem (wp)
theorem join_any {M : Model} {A : Around} {s : Shared} {sep : Str} {Q : PySem.Fin → Shared → Prop} {E : Value → Shared → Prop} (l : List (Str × Tok)) (h : tooLong ((l.map (·.1)).toArray.foldl (· + ·.length + sep.length) 0) = false) (hz : (Txt.join sep (l.map (·.1))).length ≤ sizeLine)
    (hq : ∀ t' k, Q (.done (.ret (.str (Txt.join sep (l.map (·.1))) t'))) { s with toks := k }) : wpAny M A (joinTail sep (strValues l)) Q E s := by
  have hp := post_join (Q := fun v s' => Q (.done (.ret v)) s') l ⟨hz, hq⟩
  have rest : ∀ l : List (Str × Tok), tooLong ((l.map (·.1)).toArray.foldl (· + ·.length + sep.length) 0) = false → (Made.str (glued sep (l.map (·.1)))).post (fun v s' => Q (.done (.ret v)) s') s → wpAny M A (joinRest sep (strValues l)) Q E s := fun l h hp => by
    unfold joinRest
    rw [join_loop]
    show wpAny M A (if tooLong ((#[] ++ (l.map fun (p : Str × Tok) => p.1).toArray).foldl (fun (n : Nat) (s : Str) => n + s.length + sep.length) 0) = true then _ else retStr (glued sep (#[] ++ (l.map fun (p : Str × Tok) => p.1).toArray).toList)) _ _ _
    rw [Array.empty_append, h]
    exact wpAny_bind (wpAny_mkStr (wpAny_pure hp.2) hp.1)
  match l, h, hp with
  | [], h, hp => exact rest [] h hp
  | [p], _, hp => exact wpAny_bind (wpAny_rule (wpAny_pure hp))
  | p :: q :: r, h, hp => exact rest (p :: q :: r) h hp
theorem strs_of : ∀ {ws : List Str} {us : List Value}, Vals (ws.map V.str) us → ∃ l : List (Str × Tok), strValues l = us ∧ l.map (·.1) = ws
  | [], _, r => by cases r; exact ⟨[], rfl, rfl⟩
  | w :: ws, _, r => by
    cases r with
    | cons h t =>
      obtain ⟨l, rfl, rfl⟩ := strs_of t
      obtain ⟨tk, rfl⟩ := h
      exact ⟨(w, tk) :: l, rfl, rfl⟩
/-- sep.join(f(..)) -/
def tJoinM (to : TE) (t : TA) (sp : GSp) (dvs : List V) : TE := fun σ H Q => to σ H fun v H1 => ∃ sep : Str, v = .str sep ∧ t σ H1 fun vs H2 => ∃ Hg ws, (Dk H2 → Sub H2 Hg) ∧ sp (vs ++ dvs) Hg (ws.map V.str) ∧ ws.length ≤ sizeLine ∧ JoinOk sep ws = true ∧ Q (.str (Txt.join sep ws)) H2
section
variable {X : Cx} {k : Nat} {f : Addr} {fd : FuncData} {ps : List Str} {sp : GSp} {dvs : List V} {ds : List Value} {o e : Expr} {es : List Expr} {to : TE} {t : TA} {x : Str} {p pos apos cpos : Pos}
theorem room3 {k : Nat} {A : Around} (r : Room (k + 1) A) : Room k A.in1.in1.in1 := ⟨r.hd, by have := r.dp; show A.depth + 3 * k + 5 < _; omega, by have := r.un; show A.units + 1 + 1 + 1 + 16 * k + 200 < _; omega⟩
theorem e_joinM (D : GenD X.prog X.w X.K X.mg X.base k f fd ps sp) (hG : X.A.guards = some []) (hr : Room (k + 1) X.A) (hg : Gl X x) (hm : X.mg x = some (.ref f)) (hk : PySem.W.keepIn X.K (.ref f) = true) (hb : Binds X.K fd ps ds) (hd : Vals dvs ds) (ho : PE X o to) (ha : PA X (e :: es) t)
    (hbase : attributeBase o "join" X.env (eval o X.env) = eval o X.env := by rfl)
    (hfew : ((backTo cpos (starEach [.Call (.Name x p) (e :: es) [] pos] X.env)).all (fun x => !x.1) && (backToKw cpos (keywordEach [] X.env)).all (fun x => x.1.isSome)
      && decide (([.Call (.Name x p) (e :: es) [] pos] : List Expr).length + ([] : List Keyword).length + (if ([] : List Keyword).isEmpty then 0 else 1) < 30)) = true := by rfl)
    (hline : (apos.endLine == cpos.line) = true := by rfl) (hs : starEach [.Call (.Name x p) (e :: es) [] pos] X.env = (false, eval (.Call (.Name x p) (e :: es) [] pos) X.env) :: starEach [] X.env := by rfl) (hplain : (backTo cpos (starEach [] X.env)).any (·.1) = false := by rfl)
    (hdb : (x == ("__debug__" : Str)) = false := by decide) (he : starEach (e :: es) X.env = (false, eval e X.env) :: starEach es X.env := by rfl) (hpl : (backTo pos (starEach es X.env)).any (·.1) = false := by rfl) :
    PEm X (.Call (.Attribute o "join" apos) [.Call (.Name x p) (e :: es) [] pos] [] cpos) (tJoinM to t sp dvs) := by
  refine ⟨fun pins s σ H Q I h => ?_⟩
  rw [arm_eval_Call, hbase]
  refine wpAny_bind (wpAny_mono ((e_m ho).run pins s σ H _ I h) (fun ov s1 ⟨v, H1, I1, r1, q1, c1⟩ => ?_) fun _ _ y => y)
  obtain ⟨sep, rfl, q1⟩ := q1
  obtain ⟨tk, rfl⟩ := (show ∃ t, ov = Value.str sep t from r1)
  refine wpAny_bind (wpAny_standAt ?_)
  have hform : methodCallForm (([.Call (.Name x p) (e :: es) [] pos] : List Expr).length + ([] : List Keyword).length) (backTo cpos (starEach [.Call (.Name x p) (e :: es) [] pos] X.env)) (backToKw cpos (keywordEach [] X.env)) = true := hfew
  have hpos : methodCallPos true o X.env apos cpos = pure cpos := by unfold methodCallPos; simp [hline]
  unfold methodCall
  rw [hform]
  refine wpAny_bind (wpAny_holding (getMethod_builtin (typeIs_str _ _ _) PySem.F.plainAttrs_str PySem.F.slot_str_join PySem.F.type_str_join (fun _ e => nomatch e) ?_))
  refine wpAny_bind (wpAny_of_eq hpos ?_)
  rw [hs]
  refine Calls.callWith_builtin (by show (false || (backTo cpos (starEach [] X.env)).any (·.1)) = false; rw [hplain] <;> rfl) (Calls.evalArgs_plain ?_)
  refine Calls.spliced_cons (wpAny_mono (gen_call D hr.depth hg hm hk hb hd (a_m ha) I1 q1 (fun vs H1 ⟨_, _, _, q, _⟩ => D.len _ _ _ q) hdb he hpl) (fun v z y => ?_) fun e z y => pb_older c1 y)
  obtain ⟨s2, vs, us, H2, a, g, bd, qual, sc, cd, rfl, I2, c2, _, rv, ⟨Hg, ws, sub, hsp, hz, jok, q⟩, B, ok⟩ := y
  have sub := sub (dk_of I2.inv.hok)
  have C := con_born (N := 0) (pn := []) (A := X.A.in1.in1.in1) (G0 := s.gens) I2 (c1.trans c2) B ok sub rv hsp hG (room3 hr) I2.inv.ok.frames
  refine Calls.spliced_nil ?_
  refine wpAny_call (code_hm ?_)
  show wpAny _ X.A.in1 (checkBuiltinCall "str.join" ⟨[.str sep tk, .ref a], []⟩ >>= fun _ => again (.builtin "str.join" ⟨[.str sep tk, .ref a], []⟩)) _ _ z
  refine wpAny_bind (PySem.F.slot_str_join.check _ _ _ _ _ _ _ _ (typeIs_str _ _ _) (PySem.F.args_str_join_2 _ _) ?_)
  refine wpAny_pure ⟨plainId_quiet PySem.F.slot_str_join.plain _, bi_hm PySem.F.slot_str_join.plain PySem.F.entry_str_join ?_⟩
  rw [join_tree_other]
  refine wpAny_bind (wpAny_typeOf C.hold.isg.ty ?_)
  show wpAny _ X.A.in1 ((pyIter (.ref a)).tryCatch _ >>= fun it => collect it >>= fun items => joinTail sep items) _ _ z
  refine wpAny_bind (wpAny_tryCatch (iter_g C.hold.isg ?_))
  refine wpAny_bind (collect_hm (B := X.A.in1) C hr.hd hr.depth (by simpa using hz) (fun b hb => ?_) fun us' z2 J2 cal2 rv2 => ?_)
  · rw [List.mem_singleton.mp hb, B.size]
    exact Nat.lt_succ_of_lt B.old
  obtain ⟨l, rfl, rfl⟩ := strs_of rv2
  have jok' := jok
  unfold JoinOk at jok'
  rw [Bool.not_eq_true'] at jok'
  exact join_any l jok' (joinFit_length jok') fun t' k => ⟨.str _, H2, ⟨J2.inv.tok k, J2.wf⟩, ⟨t', rfl⟩, q, cal2.cal⟩
end
end GT

set_option linter.all false
set_option maxRecDepth 100000
set_option maxHeartbeats 4000000
/-! the steps of a tree -/
namespace WM
open PySem PySem.Spec PyProof.Rows L2 TL
def Ps.steps : Ps → List Nat
  | .nil => []
  | .lf c n r => List.replicate n c ++ r.steps
  | .rp b n r => (List.replicate n b.steps).flatten ++ r.steps
theorem steps_len (p : Ps) : p.steps.length = p.size := by
  induction p with
  | nil => rfl
  | lf c n r ih => simp [Ps.steps, Ps.size, ih]
  | rp b n r ihb ih => simp [Ps.steps, Ps.size, ih, ihb, Nat.mul_comm]
theorem app_steps (p q : Ps) : (p.app q).steps = p.steps ++ q.steps := by
  induction p with
  | nil => rfl
  | lf c n r ih => simp [Ps.app, Ps.steps, ih]
  | rp b n r _ ih => simp [Ps.app, Ps.steps, ih]
theorem size_pos {p : Ps} (h : p.ok) (hn : p ≠ .nil) : 1 ≤ p.size := by
  induction p with
  | nil => exact absurd rfl hn
  | lf c n r ih =>
    have := h.1.2.1
    simp only [Ps.size]
    omega
  | rp b n r ihb ih =>
    have h1 := ihb h.2.1 h.1
    have h2 := h.2.2.1.1
    have : 1 * 2 ≤ b.size * n := Nat.mul_le_mul h1 h2
    simp only [Ps.size]
    omega
/-- not many words for so many steps -/
theorem words_few {p : Ps} (h : p.ok) : p.words.length + 1 ≤ 2 * p.size ∨ p = .nil := by
  induction p with
  | nil => exact .inr rfl
  | lf c n r ih =>
    refine .inl ?_
    have h2 := h.1.2.1
    have e1 : (Ps.lf c n r).words.length = r.words.length + 1 := rfl
    have e2 : (Ps.lf c n r).size = n + r.size := rfl
    rcases ih h.2 with h1 | rfl
    · omega
    · have e3 : Ps.nil.words.length = 0 := rfl
      have e4 : Ps.nil.size = 0 := rfl
      omega
  | rp b n r ihb ih =>
    refine .inl ?_
    have h3 := h.2.2.1.1
    have h4 := size_pos h.2.1 h.1
    have h5 : b.size * 2 ≤ b.size * n := Nat.mul_le_mul_left _ h3
    have e1 : (Ps.rp b n r).words.length = b.words.length + (r.words.length + 1) + 1 := by
      simp only [Ps.words, List.length_cons, List.length_append]
    have e2 : (Ps.rp b n r).size = b.size * n + r.size := rfl
    have h1 : b.words.length + 1 ≤ 2 * b.size := (ihb h.2.1).resolve_right h.1
    rcases ih h.2.2.2 with h2 | rfl
    · omega
    · have e3 : Ps.nil.words.length = 0 := rfl
      have e4 : Ps.nil.size = 0 := rfl
      omega
theorem mul_ok {x : Str} {n : Int} (hx : x.length ≤ 5000) (h0 : 0 ≤ n) (h1 : n ≤ 20) : MulOk x n := by
  refine ⟨?_, fun hn _ => ?_, fun hn _ => ?_⟩
  · rw [decide_eq_false (by omega), decide_eq_false (by omega)]
    rfl
  · intro h
    have : (2 ^ 63 - 1 : Int) / n ≥ 5000 := by
      rw [ge_iff_le, Int.le_ediv_iff_mul_le (by omega)]
      omega
    omega
  · show decide (x.length * n.toNat > sizeLine) = false
    refine decide_eq_false ?_
    have h2 : x.length * n.toNat ≤ 5000 * 20 := Nat.mul_le_mul hx (by omega)
    have h3 : 5000 * 20 ≤ sizeLine := by decide
    omega
theorem foldl_any (x : Array Nat) : ∀ (k : Nat) (acc : Array Nat), ((List.replicate k x).foldl (· ++ ·) acc).toList = acc.toList ++ (List.replicate k x.toList).flatten
  | 0, acc => by simp
  | k + 1, acc => by
    rw [List.replicate_succ, List.foldl_cons, foldl_any x k]
    simp [List.replicate_succ]
theorem tl_mul (x : Str) (n : Nat) : tl (Txt.mul x (n : Int)) = (List.replicate n (tl x)).flatten := by
  unfold Txt.mul
  by_cases h1 : (n : Int) < 1
  · rw [if_pos h1]
    have e : n = 0 := by omega
    subst e
    rfl
  · rw [if_neg h1]
    by_cases h2 : n = 1
    · subst h2
      rw [if_pos (by rfl)]
      simp
    · by_cases h3 : x.length = 0
      · rw [if_pos (by rw [h3]; simp)]
        have e : tl x = [] := by
          rw [WM.len_tl] at h3
          exact List.length_eq_zero_iff.mp h3
        rw [e]
        simp
      · have e : ((n : Int) == 1 || x.length == 0) = false := by
          have a1 : ((n : Int) == 1) = false := by simpa using (by omega : ¬ (n : Int) = 1)
          have a2 : (x.length == 0) = false := by simpa using h3
          rw [a1, a2]
          rfl
        rw [if_neg (by rw [e]; decide)]
        show ((List.replicate ((n : Int)).toNat x.cps).foldl (· ++ ·) #[]).toList = _
        rw [foldl_any]
        simp
def stS (p : Ps) : Str := ⟨p.steps.toArray⟩
theorem st_len (p : Ps) : (stS p).length = p.size := by
  rw [WM.len_tl]
  exact steps_len p
theorem st_lf (p : Ps) (c n : Nat) : stS p ++ Txt.mul ⟨#[c]⟩ (n : Int) = stS (p.app (.lf c n .nil)) := by
  refine ext_tl ?_
  rw [tl_append, tl_mul]
  show p.steps ++ (List.replicate n [c]).flatten = (p.app (.lf c n .nil)).steps
  rw [app_steps]
  show _ = p.steps ++ (List.replicate n c ++ [])
  rw [List.append_nil]
  congr 1
  induction n with
  | zero => rfl
  | succ n ih => simp [List.replicate_succ, ih]
theorem st_rp (p b : Ps) (n : Nat) : stS p ++ Txt.mul (stS b) (n : Int) = stS (p.app (.rp b n .nil)) := by
  refine ext_tl ?_
  rw [tl_append, tl_mul]
  show p.steps ++ (List.replicate n b.steps).flatten = (p.app (.rp b n .nil)).steps
  rw [app_steps]
  show _ = p.steps ++ ((List.replicate n b.steps).flatten ++ [])
  rw [List.append_nil]
theorem word_lf (c n : Nat) (h : 1 ≤ n) : (⟨#[c]⟩ : Str) ++ Txt.mul (Str.ofString (toString ((n : Nat) : Int))) (if decide ((n : Int) > 1) = true then 1 else 0) = (Wd.lt c n).str := by
  refine ext_tl ?_
  rw [tl_append]
  by_cases h1 : n = 1
  · subst h1
    rfl
  · rw [decide_eq_true (show (n : Int) > 1 by omega), if_pos rfl]
    have e := tl_mul (Str.ofString (toString ((n : Nat) : Int))) 1
    rw [show ((1 : Nat) : Int) = 1 from rfl] at e
    rw [e, tl_num]
    show [c] ++ (List.replicate 1 (numL n)).flatten = if n = 1 then [c] else c :: numL n
    rw [if_neg h1]
    simp
theorem word_cl (n : Nat) : (")" : Str) ++ Str.ofString (toString ((n : Nat) : Int)) = (Wd.cl n).str := by
  refine ext_tl ?_
  rw [tl_append, tl_num]
  rfl
end WM

set_option Elab.async false
set_option linter.all false
set_option maxRecDepth 100000
set_option maxHeartbeats 4000000
set_option exponentiation.threshold 3000
namespace K05P
open PySem PySem.Spec PyProof.Rows L2 RT WM K05 TL GT GenW
theorem size_top {p : Ps} (ok : p.ok) (hl : p.lev ≤ 12) (hw : p.words.length ≤ 1000) : p.size < 2 ^ 1400 := by
  have h1 := size_le p ok
  have h2 : (2 : Nat) ^ (100 * (p.lev + 1)) ≤ 2 ^ 1300 := Nat.pow_le_pow_right (by decide) (by omega)
  have h3 : p.words.length * 2 ^ (100 * (p.lev + 1)) ≤ 1000 * 2 ^ 1300 := Nat.mul_le_mul hw h2
  have h4 : 1000 * 2 ^ 1300 < 2 ^ 1400 := by decide
  omega
abbrev cS (c : Nat) : V := .str ⟨#[c]⟩
/-- so many rounds, the first one from rest on -/
def loopS (l : List Nat) : Nat → Nat → List Nat
  | 0, _ => []
  | r + 1, rest => l.drop rest ++ loopS l r 0
theorem loop_zero (l : List Nat) : ∀ r, loopS l r 0 = (List.replicate r l).flatten
  | 0 => rfl
  | r + 1 => by
    show l.drop 0 ++ loopS l r 0 = _
    rw [loop_zero l r, List.replicate_succ, List.flatten_cons, List.drop_zero]
theorem rep_drop (l : List Nat) (m : Nat) (hm : l.length = m) (h0 : 0 < m) : ∀ (n i : Nat), i < m * n → ((List.replicate n l).flatten).drop i = loopS l (n - i / m) (i % m)
  | 0, i, h => absurd h (by simp)
  | n + 1, i, h => by
    rw [List.replicate_succ, List.flatten_cons]
    by_cases hi : i < m
    · rw [Nat.div_eq_of_lt hi, Nat.mod_eq_of_lt hi, List.drop_append_of_le_length (by omega), Nat.sub_zero]
      show _ = l.drop i ++ loopS l n 0
      rw [loop_zero]
    · have hi : m ≤ i := Nat.not_lt.mp hi
      obtain ⟨j, rfl⟩ : ∃ j, i = m + j := ⟨i - m, by omega⟩
      have hj : j < m * n := by rw [Nat.mul_succ] at h; omega
      rw [Nat.add_mod_left, Nat.add_div_left _ h0, List.drop_append, hm, List.drop_eq_nil_of_le (by omega), List.nil_append, Nat.add_sub_cancel_left, rep_drop l m hm h0 n j hj]
      have e : n + 1 - (j / m).succ = n - j / m := by omega
      rw [e]
def spSin (K : PySem.W.Frag) (d : Nat) : GSp := fun vs Hg xs => ∃ (t : Addr) (us : List V) (p : Ps) (i : Nat), vs = [.ref t, .int (i : Int)] ∧ Hg t = some (.tup us) ∧ PartsAt (He.ga K "Part") Hg us p ∧ p.ok ∧ p.lev ≤ 12 ∧ p.words.length ≤ 1000 ∧ p.lev < d ∧ i < 2 ^ 1400 ∧ xs = (p.steps.drop i).map cS
def spOne (K : PySem.W.Frag) (d : Nat) : GSp := fun vs Hg xs => ∃ (a : Addr) (p : Ps) (i : Nat), vs = [.ref a, .int (i : Int)] ∧ PartsAt (He.ga K "Part") Hg [.ref a] p ∧ p.ok ∧ p.lev ≤ 12 ∧ p.words.length ≤ 1000 ∧ p.lev < d ∧ i < p.size ∧ xs = (p.steps.drop i).map cS
def spRep (K : PySem.W.Frag) (d : Nat) : GSp := fun vs Hg xs => ∃ (a : Addr) (b : Ps) (n i : Nat), vs = [.ref a, .int (i : Int)] ∧ PartsAt (He.ga K "Part") Hg [.ref a] (.rp b n .nil) ∧ (Ps.rp b n .nil).ok ∧ b.lev ≤ 12 ∧ b.words.length ≤ 1000 ∧ b.lev < d ∧ i < b.size * n ∧ b.size < 2 ^ 1400 ∧ b.size * n < 2 ^ 1400 ∧ xs = ((Ps.rp b n .nil).steps.drop i).map cS
theorem gsc_rep : GScope N_steps_of_repeat ["part", "index"] (defScope s_steps_of_repeat) := ⟨rfl, rfl, rfl, by decide +kernel, rfl, by decide +kernel, by decide +kernel⟩
abbrev fl (K : PySem.W.Frag) (i : Nat) (f : Str) : TE := tFld K (tVar i) f
section
variable {P : Program} {w : World} {K : PySem.W.Frag} {mg : Str → Option Value} {base : Heap}
theorem gen_rep (D : Ds K) (T : Tx K mg) {d k : Nat} (GI : GenD P w K mg base k (dsteps_in.adr K) D.fd_steps_in ["parts", "index"] (spSin K d)) : GenD P w K mg base (k + 1) (d_steps_of_repeat.adr K) D.fd__steps_of_repeat ["part", "index"] (spRep K d) := by
  refine genD_of D.F__steps_of_repeat gsc_rep (by intro n; rfl) (by decide +kernel) (fun vs H xs h => ?_) (fun cd A outer L s vs Hg xs hG hr1 hr2 h G pl => ?_)
  · obtain ⟨a, b, n, i, rfl, _⟩ := h
    rfl
  · obtain ⟨a, b, n, i, rfl, hp, ok, hl, hw, hd, hi, hb1, hb2, rfl⟩ := h
    have nd := gsc_rep.nd
    have nx : ∀ (e : Value) (z : Shared), ¬ (fun (_ : Value) (_ : Shared) => False) e z := fun _ _ h => h
    obtain ⟨hbn, okb, hn, _⟩ := ok
    have bp := WM.size_pos okb hbn
    cases hp with
    | rp h1 h2 h3 h4 =>
    rename_i d1 e us
    have hT : (T30 : Nat) = 1000000000000000000000000000000 := by decide
    have hq : i / b.size < n := Nat.div_lt_of_lt_mul hi
    have hmod : i % b.size < b.size := Nat.mod_lt _ bp
    have ex : (Ps.rp b n .nil).steps.drop i = loopS b.steps (n - i / b.size) (i % b.size) := by
      show ((List.replicate n b.steps).flatten ++ ([] : List Nat)).drop i = _
      rw [List.append_nil, rep_drop b.steps b.size (steps_len b) bp n i hi]
    rw [ex]
    refine n_cons (n_ps G pl nx (R := fun σ => σ = [some (.ref a), some (.int (i : Int)), some (.int ((n - i / b.size : Nat) : Int)), none]) (ts := tAsg (tOp (rI0 fun i j => .int (i - j)) (fl K 0 "times") (tOp (rI CDivW fun i j => .int (i / j)) (tVar 1) (fl K 0 "unit"))) (gName 2))
      (fun s => ps_set (i := 2) nd rfl (.inl rfl) (pe_op op_sub (pe_fld (pv 0) rfl) (pe_op op_fdivW (pv 1) (pe_fld (pv 0) rfl)))) ?_ fun σ hσ => ?_)
    · refine ⟨_, rfl, a, _, d1, _, _, rfl, h1, T.c_Part, T.n_Part_times, rfl, _, rfl, _, rfl, a, _, d1, _, _, rfl, h1, T.c_Part, T.n_Part_unit, rfl, _, _, rfl, rfl, wide_div (b := 1400) (by omega) (by show ((b.size : Int)).natAbs < _; omega) (by decide) (by decide), _, _, rfl, rfl, rfl, ?_⟩
      have e : (n : Int) - (i : Int) / (b.size : Int) = ((n - i / b.size : Nat) : Int) := by
        rw [Int.natCast_sub (Nat.le_of_lt hq)]
        rfl
      show [some (V.ref a), some (V.int (i : Int)), some (V.int ((n : Int) - (i : Int) / (b.size : Int))), none] = _
      rw [e]
    subst hσ
    refine n_cons (n_ps G pl nx (R := fun σ => σ = [some (.ref a), some (.int (i : Int)), some (.int ((n - i / b.size : Nat) : Int)), some (.int ((i % b.size : Nat) : Int))]) (ts := tAsg (tOp (rI (fun _ j => 0 < j) fun i j => .int (i % j)) (tVar 1) (fl K 0 "unit")) (gName 3))
      (fun s => ps_set (i := 3) nd rfl (.inl rfl) (pe_op op_mod (pv 1) (pe_fld (pv 0) rfl))) ?_ fun σ hσ => ?_)
    · exact ⟨_, rfl, _, rfl, a, _, d1, _, _, rfl, h1, T.c_Part, T.n_Part_unit, rfl, _, _, rfl, rfl, by show (0 : Int) < (b.size : Int); omega, rfl, rfl⟩
    subst hσ
    refine n_cons (n_while fun fs' bk => ?_)
    have hr3 : i % b.size < 2 ^ 1400 := Nat.lt_trans hmod hb1
    generalize n - i / b.size = r at *
    generalize i % b.size = rest at *
    have pl' : ∀ c' : Code, c'.weight = 0 → c'.cUnits = 0 → Pl _ A c' fs' := fun c' h1 h2 => pl_back pl bk h1 h2
    clear hmod ex
    induction r generalizing rest with
    | zero =>
      refine n_turn G nx (pl' _ rfl rfl) (fun s => pt_cmpR op_gt (pv 2) pe_int (nomark _)) ⟨_, rfl, _, _, rfl, rfl, false, rfl, rfl, (fun z => nomatch z), fun _ => ?_⟩
      exact n_leaf bk (n_nil n_end)
    | succ r ih =>
      have hlt : decide ((0 : Int) < ((r + 1 : Nat) : Int)) = true := decide_eq_true (by omega)
      refine n_turn G nx (pl' _ rfl rfl) (fun s => pt_cmpR op_gt (pv 2) pe_int (nomark _)) ⟨_, rfl, _, _, rfl, rfl, true, congrArg V.bl hlt, rfl, (fun _ => ?_), fun z => nomatch z⟩
      rw [show loopS b.steps (r + 1) rest = b.steps.drop rest ++ loopS b.steps r 0 from rfl, List.map_append]
      refine n_cons (n_from (t := tCons (fl K 0 "inner") (tCons (tVar 3) tNil)) G (pl' _ rfl rfl) nx hG GI hr1 (by rfl) T.g_steps_in D.F_steps_in.kp (b_steps_in D) .nil (fun s => pa_cons (pe_fld (pv 0) rfl) (pa_cons (pv 3) pa_nil)) ?_ ?_)
      · exact ⟨_, rfl, a, _, d1, _, _, rfl, h1, T.c_Part, T.n_Part_inner, rfl, _, rfl, rfl, e, us, b, rest, rfl, h2, h3, okb, hl, hw, hd, hr3, rfl⟩
      refine n_cons (n_ps G (pl' _ rfl rfl) nx (R := fun σ => σ = [some (.ref a), some (.int (i : Int)), some (.int ((r + 1 : Nat) : Int)), some (.int ((0 : Nat) : Int))]) (fun s => ps_set (i := 3) nd rfl (.inl rfl) pe_int) ⟨rfl, rfl⟩ fun σ hσ => ?_)
      subst hσ
      refine n_cons (n_ps G (pl' _ rfl rfl) nx (R := fun σ => σ = [some (.ref a), some (.int (i : Int)), some (.int (r : Int)), some (.int ((0 : Nat) : Int))]) (fun s => ps_set (i := 2) nd rfl (.inl rfl) (pe_op op_sub (pv 2) pe_int)) ⟨_, rfl, _, _, rfl, rfl, rfl, ?_⟩ fun σ hσ => ?_)
      · have e1 : ((r + 1 : Nat) : Int) - 1 = (r : Int) := by omega
        show [some (V.ref a), some (V.int (i : Int)), some (V.int (((r + 1 : Nat) : Int) - 1)), some (V.int ((0 : Nat) : Int))] = _
        rw [e1]
      subst hσ
      exact n_nil (n_again rfl (ih 0 (by decide)))
theorem gsc_one : GScope N_steps_of_part ["part", "index"] (defScope s_steps_of_part) := ⟨rfl, rfl, rfl, by decide +kernel, rfl, by decide +kernel, by decide +kernel⟩
theorem gsc_in : GScope Nsteps_in ["parts", "index"] (defScope ssteps_in) := ⟨rfl, rfl, rfl, by decide +kernel, rfl, by decide +kernel, by decide +kernel⟩
theorem gen_one (D : Ds K) (T : Tx K mg) {d k : Nat} (GR : ∀ d', d = d' + 1 → GenD P w K mg base k (d_steps_of_repeat.adr K) D.fd__steps_of_repeat ["part", "index"] (spRep K d')) : GenD P w K mg base (k + 1) (d_steps_of_part.adr K) D.fd__steps_of_part ["part", "index"] (spOne K d) := by
  refine genD_of D.F__steps_of_part gsc_one (by intro n; rfl) (by decide +kernel) (fun vs H xs h => ?_) (fun cd A outer L s vs Hg xs hG hr1 hr2 h G pl => ?_)
  · obtain ⟨a, p, i, rfl, _⟩ := h
    rfl
  · obtain ⟨a, p, i, rfl, hp, ok, hl, hw, hd, hi, rfl⟩ := h
    have nd := gsc_one.nd
    have nx : ∀ (e : Value) (z : Shared), ¬ (fun (_ : Value) (_ : Shared) => False) e z := fun _ _ h => h
    cases hp with
    | lf h1 h2 h3 =>
      rename_i d1 e c n r
      cases h3
      have hi : i < n := hi
      have ex : (Ps.lf c n .nil).steps.drop i = List.replicate (n - i) c := by
        show (List.replicate n c ++ ([] : List Nat)).drop i = _
        rw [List.append_nil, List.drop_replicate]
      rw [ex]
      refine n_cons (n_if G pl nx (tt := fun σ H Q => fl K 0 "inner" σ H fun x H' => ∃ k, TruV K x H' k ∧ Q k H') (fun s => pt_truth (pe_fld (pv 0) rfl) (by intro _; rfl)) ⟨_, rfl, a, _, d1, _, .ref e, rfl, h1, T.c_Part, T.n_Part_inner, rfl, false, .inr (.inl ⟨[], tupT h2, rfl⟩), rfl, (fun z => nomatch z), fun _ => ?_⟩)
      refine n_cons (n_ps G pl nx (R := fun σ => σ = [some (.ref a), some (.int (i : Int)), some (.int ((n - i : Nat) : Int))]) (ts := tAsg (tOp (rI0 fun i j => .int (i - j)) (fl K 0 "times") (tVar 1)) (gName 2))
        (fun s => ps_set (i := 2) nd rfl (.inl rfl) (pe_op op_sub (pe_fld (pv 0) rfl) (pv 1))) ⟨_, rfl, a, _, d1, _, _, rfl, h1, T.c_Part, T.n_Part_times, rfl, _, rfl, _, _, rfl, rfl, rfl, ?_⟩ fun σ hσ => ?_)
      · have e : (n : Int) - (i : Int) = ((n - i : Nat) : Int) := (Int.natCast_sub (Nat.le_of_lt hi)).symm
        show [some (V.ref a), some (V.int (i : Int)), some (V.int ((n : Int) - (i : Int)))] = _
        rw [e]
      subst hσ
      refine n_cons (n_while fun fs' bk => ?_)
      have pl' : ∀ c' : Code, c'.weight = 0 → c'.cUnits = 0 → Pl _ A c' fs' := fun c' h1 h2 => pl_back pl bk h1 h2
      clear ex
      generalize n - i = r at *
      induction r with
      | zero =>
        refine n_turn G nx (pl' _ rfl rfl) (fun s => pt_cmpR op_gt (pv 2) pe_int (nomark _)) ⟨_, rfl, _, _, rfl, rfl, false, rfl, rfl, (fun z => nomatch z), fun _ => ?_⟩
        exact n_leaf bk (n_nil (n_nil n_end))
      | succ r ih =>
        have hlt : decide ((0 : Int) < ((r + 1 : Nat) : Int)) = true := decide_eq_true (by omega)
        refine n_turn G nx (pl' _ rfl rfl) (fun s => pt_cmpR op_gt (pv 2) pe_int (nomark _)) ⟨_, rfl, _, _, rfl, rfl, true, congrArg V.bl hlt, rfl, (fun _ => ?_), fun z => nomatch z⟩
        rw [List.replicate_succ, List.map_cons]
        refine n_cons (n_yield G (pl' _ rfl rfl) nx rfl (te := fl K 0 "letter") (fun s => pe_fld (pv 0) rfl) ⟨_, rfl, a, _, d1, _, _, rfl, h1, T.c_Part, T.n_Part_letter, rfl, rfl, rfl⟩ ?_)
        refine n_cons (n_ps G (pl' _ rfl rfl) nx (R := fun σ => σ = [some (.ref a), some (.int (i : Int)), some (.int (r : Int))]) (fun s => ps_set (i := 2) nd rfl (.inl rfl) (pe_op op_sub (pv 2) pe_int)) ⟨_, rfl, _, _, rfl, rfl, rfl, ?_⟩ fun σ hσ => ?_)
        · have e1 : ((r + 1 : Nat) : Int) - 1 = (r : Int) := by omega
          show [some (V.ref a), some (V.int (i : Int)), some (V.int (((r + 1 : Nat) : Int) - 1))] = _
          rw [e1]
        subst hσ
        exact n_nil (n_again rfl ih)
    | rp h1 h2 h3 h4 =>
      rename_i d1 e n us b r
      cases h4
      obtain ⟨hbn, okb, hn, okr⟩ := id ok
      have ne : us ≠ [] := by
        intro z
        subst z
        cases h3
        exact hbn rfl
      obtain ⟨d', rfl⟩ : ∃ d', d = d' + 1 := ⟨d - 1, by omega⟩
      have hlb : b.lev < d' := by
        have h : max (1 + b.lev) 0 < d' + 1 := hd
        omega
      have hl12 : b.lev ≤ 12 := by
        have h : max (1 + b.lev) 0 ≤ 12 := hl
        omega
      have hwb : b.words.length ≤ 1000 := by
        have h : (Wd.op :: (b.words ++ Wd.cl n :: ([] : List Wd))).length ≤ 1000 := hw
        rw [List.length_cons, List.length_append] at h
        omega
      have hs : b.size * n < 2 ^ 1400 := by
        have h1 := size_top ok hl hw
        exact h1
      have hn1 : 1 ≤ n := by omega
      have hb1 : b.size < 2 ^ 1400 := Nat.lt_of_le_of_lt (Nat.le_mul_of_pos_right _ hn1) hs
      have hsp : spRep K d' [.ref a, .int (i : Int)] Hg (((Ps.rp b n .nil).steps.drop i).map cS) := ⟨a, b, n, i, rfl, .rp h1 h2 h3 .nil, ok, hl12, hwb, hlb, hi, hb1, hs, rfl⟩
      rw [← List.append_nil (((Ps.rp b n .nil).steps.drop i).map cS)]
      refine n_cons (n_if G pl nx (tt := fun σ H Q => fl K 0 "inner" σ H fun x H' => ∃ k, TruV K x H' k ∧ Q k H') (fun s => pt_truth (pe_fld (pv 0) rfl) (by intro _; rfl)) ⟨_, rfl, a, _, d1, _, .ref e, rfl, h1, T.c_Part, T.n_Part_inner, rfl, true, .inr (.inl ⟨us, tupT h2, by cases us with | nil => exact absurd rfl ne | cons y us => rfl⟩), rfl, (fun _ => ?_), fun z => nomatch z⟩)
      exact n_cons (n_from G pl nx hG (GR d' rfl) hr1 (by rfl) T.g__steps_of_repeat D.F__steps_of_repeat.kp (b__steps_of_repeat D) .nil (fun s => pa_cons (pv 0) (pa_cons (pv 1) pa_nil)) ⟨_, rfl, _, rfl, rfl, hsp⟩ (n_nil (n_nil n_end)))
theorem parts_head {C : Addr} {H : Hp} {v : V} {vs : List V} {r : Ps} (h : PartsAt C H (v :: vs) r) (ok : r.ok) : ∃ a p1 r' d fs, v = .ref a ∧ H a = some (.ins C d fs) ∧ fs.lookup ("size" : Str) = some (.int ((p1.size : Nat) : Int)) ∧ PartsAt C H [.ref a] p1 ∧ p1.ok ∧ p1.lev ≤ r.lev ∧ p1.words.length ≤ r.words.length ∧
    PartsAt C H vs r' ∧ r'.ok ∧ r'.lev ≤ r.lev ∧ r'.words.length ≤ r.words.length ∧ r.steps = p1.steps ++ r'.steps := by
  cases h with
  | lf h1 h2 h3 =>
    rename_i d a e c n r'
    refine ⟨_, .lf c n .nil, r', _, _, rfl, h1, rfl, .lf h1 h2 .nil, ⟨ok.1, trivial⟩, Nat.zero_le _, ?_, h3, ok.2, Nat.le_refl _, Nat.le_succ _, ?_⟩
    · show 1 ≤ (Wd.lt c n :: r'.words).length
      rw [List.length_cons]
      omega
    · show List.replicate n c ++ r'.steps = (List.replicate n c ++ []) ++ r'.steps
      rw [List.append_nil]
  | rp h1 h2 h3 h4 =>
    rename_i d a e n us b r'
    refine ⟨_, .rp b n .nil, r', _, _, rfl, h1, rfl, .rp h1 h2 h3 .nil, ⟨ok.1, ok.2.1, ok.2.2.1, trivial⟩, ?_, ?_, h4, ok.2.2.2, ?_, ?_, ?_⟩
    · show max (1 + b.lev) 0 ≤ max (1 + b.lev) r'.lev
      omega
    · show (Wd.op :: (b.words ++ Wd.cl n :: ([] : List Wd))).length ≤ (Wd.op :: (b.words ++ Wd.cl n :: r'.words)).length
      simp only [List.length_cons, List.length_append, List.length_nil]
      omega
    · show r'.lev ≤ max (1 + b.lev) r'.lev
      omega
    · show r'.words.length ≤ (Wd.op :: (b.words ++ Wd.cl n :: r'.words)).length
      simp only [List.length_cons, List.length_append, List.length_nil]
      omega
    · show (List.replicate n b.steps).flatten ++ r'.steps = ((List.replicate n b.steps).flatten ++ []) ++ r'.steps
      rw [List.append_nil]
theorem max_sub (i m : Nat) : (if (0 : Int) > (i : Int) - (m : Int) then (0 : Int) else (i : Int) - (m : Int)) = ((i - m : Nat) : Int) := by
  split <;> omega
theorem gen_in (D : Ds K) (T : Tx K mg) {d k : Nat} (GO : GenD P w K mg base k (d_steps_of_part.adr K) D.fd__steps_of_part ["part", "index"] (spOne K d)) : GenD P w K mg base (k + 1) (dsteps_in.adr K) D.fd_steps_in ["parts", "index"] (spSin K d) := by
  refine genD_of D.F_steps_in gsc_in (by intro n; rfl) (by decide +kernel) (fun vs H xs h => ?_) (fun cd A outer L s vs Hg xs hG hr1 hr2 h G pl => ?_)
  · obtain ⟨t, us, p, i, rfl, _⟩ := h
    rfl
  · obtain ⟨t, us, p, i, rfl, ht, hp, ok, hl, hw, hd, hi, rfl⟩ := h
    have nd := gsc_in.nd
    have nx : ∀ (e : Value) (z : Shared), ¬ (fun (_ : Value) (_ : Shared) => False) e z := fun _ _ h => h
    refine n_cons (n_for G pl nx (fun s => pv 0) ⟨_, rfl, rfl, rfl⟩ ht fun fs' bk it o ho nO => ?_)
    have pl' : ∀ c' : Code, c'.weight = 0 → c'.cUnits = 0 → Pl _ A c' fs' := fun c' h1 h2 => pl_back pl bk h1 h2
    obtain ⟨j, hj⟩ : ∃ j, j = 0 := ⟨0, rfl⟩
    rw [← hj] at ho
    obtain ⟨l, hu⟩ : ∃ l, us.drop j = l := ⟨_, rfl⟩
    rw [show us = us.drop j by rw [hj]; rfl, hu] at hp
    clear hj
    show SgD _ _ _ _ _ _ _ [some (V.ref t), some (V.int (i : Int)), none]
    obtain ⟨z, hz⟩ : ∃ z : Option V, z = none := ⟨none, rfl⟩
    rw [← hz]
    clear hz
    induction l generalizing j i p o z with
    | nil =>
      cases hp
      have hlen : us.length ≤ j := List.drop_eq_nil_iff.mp hu
      show SgD _ _ _ _ _ ((([] : List Nat).drop i).map cS) _ _
      rw [List.drop_nil]
      exact n_fdone G nx rfl (pl' _ rfl rfl) ht ho hlen nO (n_leaf bk (n_nil n_end))
    | cons v l ih =>
      obtain ⟨a, p1, r', d1, fs, rfl, h1, hsz, hp1, ok1, l1, w1, hp', ok', l2, w2, es⟩ := parts_head hp ok
      have hx : us[j]? = some (.ref a) := by
        have q := congrArg List.head? hu
        rw [List.head?_drop] at q
        exact q
      have hu' : us.drop (j + 1) = l := by
        have q := congrArg List.tail hu
        rw [List.tail_drop] at q
        exact q
      rw [es, List.drop_append, steps_len, List.map_append]
      refine n_fturn G nx rfl (pl' _ rfl rfl) ht ho nO hx (R := fun σ => σ = [some (V.ref t), some (V.int (i : Int)), some (V.ref a)]) (fun s => pg_name (i := 2) nd rfl (.inl rfl)) ⟨rfl, rfl⟩ fun σ hσ o' ho' => ?_
      subst hσ
      have nxt := ih (p := r') (i := i - p1.size) ok' (by omega) (by omega) (by omega) (by omega) (o := o') (j := j + 1) ho' hp' hu' (z := some (.ref a))
      refine n_cons (n_if G (pl' _ rfl rfl) nx (tt := tTest (tOp (rI0 fun i j => .bl (decide (i < j))) (tVar 1) (fl K 2 "size"))) (fun s => pt_cmpR op_lt (pv 1) (pe_fld (pv 2) rfl) (nomark _))
        ⟨_, rfl, _, rfl, a, _, d1, fs, _, rfl, h1, T.c_Part, T.n_Part_size, hsz, _, _, rfl, rfl, decide ((i : Int) < ((p1.size : Nat) : Int)), rfl, rfl, fun q => ?_, fun q => ?_⟩)
      · have hlt : i < p1.size := by have := of_decide_eq_true q; omega
        refine n_cons (n_from G (pl' _ rfl rfl) nx hG GO hr1 (by rfl) T.g__steps_of_part D.F__steps_of_part.kp (b__steps_of_part D) .nil (fun s => pa_cons (pv 2) (pa_cons (pv 1) pa_nil)) ⟨_, rfl, _, rfl, rfl, a, p1, i, rfl, hp1, ok1, by omega, by omega, by omega, hlt, rfl⟩ ?_)
        refine n_nil (n_cons (n_ps G (pl' _ rfl rfl) nx (R := fun σ => σ = [some (V.ref t), some (V.int ((i - p1.size : Nat) : Int)), some (V.ref a)])
          (ts := tAsg (tCB (fun xs H Q => ∃ i j, xs = [.int i, .int j] ∧ Q (.int (if j > i then j else i)) H) (tCons (tOp (rI0 fun i j => .int (i - j)) (tVar 1) (fl K 2 "size")) (tCons (tC (.int 0)) tNil))) (gName 1))
          (fun s => ps_set (i := 1) nd rfl (.inl rfl) (pe_callB (call_max2 rfl) (by rfl) T.z_max (by decide +kernel) (pa_cons (pe_op op_sub (pv 1) (pe_fld (pv 2) rfl)) (pa_cons pe_int pa_nil))))
          ⟨_, rfl, _, rfl, a, _, d1, fs, _, rfl, h1, T.c_Part, T.n_Part_size, hsz, _, _, rfl, rfl, _, _, rfl, rfl, ?_⟩ fun σ hσ => ?_))
        · show [some (V.ref t), some (V.int (if (0 : Int) > (i : Int) - (p1.size : Int) then (0 : Int) else (i : Int) - (p1.size : Int))), some (V.ref a)] = _
          rw [max_sub]
        · subst hσ
          exact n_nil (n_again rfl nxt)
      · have hge : p1.size ≤ i := by have := of_decide_eq_false q; omega
        rw [List.drop_eq_nil_of_le (by rw [steps_len]; exact hge), List.map_nil, List.nil_append]
        refine n_nil (n_cons (n_ps G (pl' _ rfl rfl) nx (R := fun σ => σ = [some (V.ref t), some (V.int ((i - p1.size : Nat) : Int)), some (V.ref a)])
          (ts := tAsg (tCB (fun xs H Q => ∃ i j, xs = [.int i, .int j] ∧ Q (.int (if j > i then j else i)) H) (tCons (tOp (rI0 fun i j => .int (i - j)) (tVar 1) (fl K 2 "size")) (tCons (tC (.int 0)) tNil))) (gName 1))
          (fun s => ps_set (i := 1) nd rfl (.inl rfl) (pe_callB (call_max2 rfl) (by rfl) T.z_max (by decide +kernel) (pa_cons (pe_op op_sub (pv 1) (pe_fld (pv 2) rfl)) (pa_cons pe_int pa_nil))))
          ⟨_, rfl, _, rfl, a, _, d1, fs, _, rfl, h1, T.c_Part, T.n_Part_size, hsz, _, _, rfl, rfl, _, _, rfl, rfl, ?_⟩ fun σ hσ => ?_))
        · show [some (V.ref t), some (V.int (if (0 : Int) > (i : Int) - (p1.size : Int) then (0 : Int) else (i : Int) - (p1.size : Int))), some (V.ref a)] = _
          rw [max_sub]
        · subst hσ
          exact n_nil (n_again rfl nxt)
/-- steps_in, by the depth of the tree -/
theorem gen_steps (D : Ds K) (T : Tx K mg) : ∀ d, GenD P w K mg base (3 + 3 * d) (dsteps_in.adr K) D.fd_steps_in ["parts", "index"] (spSin K d)
  | 0 => gen_in D T (gen_one (k := 1) D T fun d' h => nomatch h)
  | d + 1 => gen_in D T (gen_one D T fun d' h => by
      obtain rfl : d = d' := Nat.succ.inj h
      exact gen_rep D T (gen_steps D T d))
end
end K05P

set_option linter.all false
set_option maxRecDepth 100000
set_option maxHeartbeats 4000000
/-! programs taken back; how often a letter stands in one -/
namespace WM
open PySem PySem.Spec PyProof.Rows L2 TL
def undo (c : Nat) : Nat := if c = 102 then 98 else if c = 98 then 102 else if c = 108 then 114 else if c = 114 then 108 else c
def four : List Nat := [102, 98, 108, 114]
def Ps.back : Ps → Ps
  | .nil => .nil
  | .lf c n r => r.back.app (.lf (undo c) n .nil)
  | .rp b n r => r.back.app (.rp b.back n .nil)
/-- no letter but these four -/
def Ps.plain : Ps → Prop
  | .nil => True
  | .lf c _ r => c ∈ four ∧ r.plain
  | .rp b _ r => b.plain ∧ r.plain
def bst (st : List Wd × List Nat) : Wd → List Wd × List Nat
  | .op => match st.2 with | n :: s => (st.1 ++ [.cl n], s) | [] => (st.1, [])
  | .cl n => (st.1 ++ [.op], n :: st.2)
  | .lt c n => (st.1 ++ [.lt (undo c) n], st.2)
theorem back_fold : ∀ (p : Ps) (st : List Wd × List Nat), p.words.reverse.foldl bst st = (st.1 ++ p.back.words, st.2)
  | .nil, st => by simp [Ps.words, Ps.back]
  | .lf c n r, st => by
    show ((.lt c n :: r.words).reverse).foldl bst st = _
    rw [List.reverse_cons, List.foldl_append, back_fold r st]
    show (st.1 ++ r.back.words ++ [.lt (undo c) n], st.2) = (st.1 ++ (r.back.app (.lf (undo c) n .nil)).words, st.2)
    rw [app_words, List.append_assoc]
    rfl
  | .rp b n r, st => by
    show ((.op :: (b.words ++ .cl n :: r.words)).reverse).foldl bst st = _
    rw [List.reverse_cons, List.reverse_append, List.reverse_cons, List.foldl_append, List.foldl_append, List.foldl_append, back_fold r st]
    show [Wd.op].foldl bst (b.words.reverse.foldl bst (st.1 ++ r.back.words ++ [.op], n :: st.2)) = _
    rw [back_fold b]
    show (st.1 ++ r.back.words ++ [.op] ++ b.back.words ++ [.cl n], st.2) = (st.1 ++ (r.back.app (.rp b.back n .nil)).words, st.2)
    rw [app_words]
    show _ = (st.1 ++ (r.back.words ++ (.op :: (b.back.words ++ .cl n :: []))), st.2)
    simp [List.append_assoc]
/-- an opened repeat has its number waiting -/
theorem back_ready : ∀ (p : Ps) (st : List Wd × List Nat) (i : Nat), p.words.reverse[i]? = some .op → ((p.words.reverse.take i).foldl bst st).2 ≠ []
  | .nil, st, i, h => by simp [Ps.words] at h
  | .lf c n r, st, i, h => by
    have e : (Ps.lf c n r).words.reverse = r.words.reverse ++ [.lt c n] := by show ((.lt c n :: r.words).reverse) = _; rw [List.reverse_cons]
    rw [e] at h ⊢
    by_cases hi : i < r.words.reverse.length
    · rw [List.getElem?_append_left hi] at h
      rw [List.take_append_of_le_length (Nat.le_of_lt hi)]
      exact back_ready r st i h
    · rw [List.getElem?_append_right (by omega)] at h
      cases hk : i - r.words.reverse.length with
      | zero => rw [hk] at h; cases h
      | succ k => rw [hk] at h; cases h
  | .rp b n r, st, i, h => by
    have e : (Ps.rp b n r).words.reverse = r.words.reverse ++ (.cl n :: (b.words.reverse ++ [.op])) := by
      show ((.op :: (b.words ++ .cl n :: r.words)).reverse) = _
      simp
    rw [e] at h ⊢
    by_cases hi : i < r.words.reverse.length
    · rw [List.getElem?_append_left hi] at h
      rw [List.take_append_of_le_length (Nat.le_of_lt hi)]
      exact back_ready r st i h
    · obtain ⟨k, rfl⟩ : ∃ k, i = r.words.reverse.length + k := ⟨i - r.words.reverse.length, by omega⟩
      rw [List.getElem?_append_right (by omega), Nat.add_sub_cancel_left] at h
      rw [List.take_append, List.take_of_length_le (by omega), Nat.add_sub_cancel_left, List.foldl_append, back_fold r st]
      cases k with
      | zero => cases h
      | succ k =>
        rw [List.getElem?_cons_succ] at h
        rw [List.take_succ_cons, List.foldl_cons]
        show ((List.take k (b.words.reverse ++ [Wd.op])).foldl bst (st.1 ++ r.back.words ++ [.op], n :: st.2)).2 ≠ []
        by_cases hk : k < b.words.reverse.length
        · rw [List.getElem?_append_left hk] at h
          rw [List.take_append_of_le_length (Nat.le_of_lt hk)]
          exact back_ready b _ k h
        · obtain ⟨m, rfl⟩ : ∃ m, k = b.words.reverse.length + m := ⟨k - b.words.reverse.length, by omega⟩
          rw [List.getElem?_append_right (by omega), Nat.add_sub_cancel_left] at h
          cases m with
          | zero =>
            rw [Nat.add_zero, List.take_append_of_le_length (Nat.le_refl _), List.take_length, back_fold b]
            exact List.cons_ne_nil _ _
          | succ m => cases h
theorem app_ok' : ∀ {p q : Ps}, p.ok → q.ok → (p.app q).ok
  | .nil, _, _, h => h
  | .lf c n r, q, h, k => ⟨h.1, app_ok' h.2 k⟩
  | .rp b n r, q, h, k => ⟨h.1, h.2.1, h.2.2.1, app_ok' h.2.2.2 k⟩
theorem app_lev' : ∀ (p q : Ps), (p.app q).lev = max p.lev q.lev
  | .nil, q => by show q.lev = max 0 q.lev; omega
  | .lf c n r, q => app_lev' r q
  | .rp b n r, q => by
    show max (1 + b.lev) (r.app q).lev = max (max (1 + b.lev) r.lev) q.lev
    rw [app_lev' r q]; omega
theorem undo_six {c : Nat} (h : c ∈ six) : undo c ∈ six := by
  revert c
  decide
theorem back_ne : ∀ {p : Ps}, p ≠ .nil → p.back ≠ .nil := by
  intro p
  have key : ∀ (q r : Ps), r ≠ .nil → q.app r ≠ .nil := by
    intro q r h
    cases q with
    | nil => exact h
    | lf c n q => exact nofun
    | rp b n q => exact nofun
  cases p with
  | nil => intro h; exact absurd rfl h
  | lf c n r => intro _; exact key _ _ nofun
  | rp b n r => intro _; exact key _ _ nofun
theorem back_ok : ∀ {p : Ps}, p.ok → p.back.ok
  | .nil, _ => trivial
  | .lf c n r, h => app_ok' (back_ok h.2) ⟨⟨undo_six h.1.1, h.1.2⟩, trivial⟩
  | .rp b n r, h => app_ok' (back_ok h.2.2.2) ⟨back_ne h.1, back_ok h.2.1, h.2.2.1, trivial⟩
theorem back_lev : ∀ (p : Ps), p.back.lev = p.lev
  | .nil => rfl
  | .lf c n r => by
    show (r.back.app (.lf (undo c) n .nil)).lev = r.lev
    rw [app_lev', back_lev r]
    show max r.lev 0 = r.lev
    omega
  | .rp b n r => by
    show (r.back.app (.rp b.back n .nil)).lev = max (1 + b.lev) r.lev
    rw [app_lev', back_lev r]
    show max r.lev (max (1 + b.back.lev) 0) = _
    rw [back_lev b]; omega
theorem back_len (p : Ps) : p.back.words.length = p.words.length := by
  have bl : ∀ (ws : List Wd) (st : List Wd × List Nat), (∀ i, ws[i]? = some .op → ((ws.take i).foldl bst st).2 ≠ []) → (ws.foldl bst st).1.length = st.1.length + ws.length := by
    intro ws
    induction ws with
    | nil => intro st _; rfl
    | cons x ws ih =>
      intro st h
      rw [List.foldl_cons, ih (bst st x) (fun i hi => by
        have := h (i + 1) (by rw [List.getElem?_cons_succ]; exact hi)
        rw [List.take_succ_cons, List.foldl_cons] at this
        exact this)]
      have e : (bst st x).1.length = st.1.length + 1 := by
        cases x with
        | op =>
          have := h 0 rfl
          obtain ⟨f, s⟩ := st
          cases s with
          | nil => exact absurd rfl this
          | cons n s => show (f ++ [Wd.cl n]).length = _; rw [List.length_append]; rfl
        | cl n => show (st.1 ++ [Wd.op]).length = _; rw [List.length_append]; rfl
        | lt c n => show (st.1 ++ [Wd.lt (undo c) n]).length = _; rw [List.length_append]; rfl
      rw [e, List.length_cons]; omega
  have h := bl p.words.reverse ([], []) (fun i hi => back_ready p _ i hi)
  rw [back_fold p, List.length_reverse] at h
  simpa using h
/-- how often a letter stands in it -/
def Ps.cnt (c : Nat) : Ps → Nat
  | .nil => 0
  | .lf k n r => n * (if k = c then 1 else 0) + r.cnt c
  | .rp b n r => n * b.cnt c + r.cnt c
def Ps.cnts (c : Nat) : Ps → List Nat
  | .nil => []
  | .lf k n r => n * (if k = c then 1 else 0) :: r.cnts c
  | .rp b n r => n * b.cnt c :: r.cnts c
theorem cnts_sum (c : Nat) : ∀ p : Ps, (p.cnts c).sum = p.cnt c
  | .nil => rfl
  | .lf k n r => by show _ + (r.cnts c).sum = _; rw [cnts_sum c r]; rfl
  | .rp b n r => by show _ + (r.cnts c).sum = _; rw [cnts_sum c r]; rfl
theorem cnt_le (c : Nat) : ∀ p : Ps, p.cnt c ≤ p.size
  | .nil => Nat.le_refl _
  | .lf k n r => by
    have := cnt_le c r
    show n * (if k = c then 1 else 0) + r.cnt c ≤ n + r.size
    split <;> omega
  | .rp b n r => by
    have h1 := cnt_le c r
    have h2 : n * b.cnt c ≤ n * b.size := Nat.mul_le_mul_left _ (cnt_le c b)
    show n * b.cnt c + r.cnt c ≤ b.size * n + r.size
    rw [Nat.mul_comm b.size n]; omega
theorem cnt_zero {c : Nat} : ∀ {p : Ps}, p.ok → (p.cnt c = 0 ↔ ∀ n, Wd.lt c n ∉ p.words)
  | .nil, _ => by simp [Ps.cnt, Ps.words]
  | .lf k n r, h => by
    have ih := cnt_zero (c := c) h.2
    have hn := h.1.2.1
    show n * (if k = c then 1 else 0) + r.cnt c = 0 ↔ ∀ m, Wd.lt c m ∉ (Wd.lt k n :: r.words)
    by_cases hk : k = c
    · subst hk
      rw [if_pos rfl]
      refine ⟨fun z => by omega, fun z => absurd (List.mem_cons_self ..) (z n)⟩
    · rw [if_neg hk, Nat.mul_zero, Nat.zero_add, ih]
      refine ⟨fun z m hm => ?_, fun z m hm => z m (List.mem_cons_of_mem _ hm)⟩
      rcases List.mem_cons.mp hm with e | hm
      · injection e with e1 e2
        exact hk e1.symm
      · exact z m hm
  | .rp b n r, h => by
    have i1 := cnt_zero (c := c) h.2.1
    have i2 := cnt_zero (c := c) h.2.2.2
    have hn := h.2.2.1.1
    show n * b.cnt c + r.cnt c = 0 ↔ ∀ m, Wd.lt c m ∉ (Wd.op :: (b.words ++ Wd.cl n :: r.words))
    have e : n * b.cnt c + r.cnt c = 0 ↔ b.cnt c = 0 ∧ r.cnt c = 0 := by
      refine ⟨fun z => ?_, fun z => by rw [z.1, z.2, Nat.mul_zero]⟩
      have : n * b.cnt c = 0 := by omega
      rcases Nat.mul_eq_zero.mp this with z1 | z1
      · omega
      · exact ⟨z1, by omega⟩
    rw [e, i1, i2]
    refine ⟨fun z m hm => ?_, fun z => ⟨fun m hm => z m (List.mem_cons_of_mem _ (List.mem_append_left _ hm)), fun m hm => z m (List.mem_cons_of_mem _ (List.mem_append_right _ (List.mem_cons_of_mem _ hm)))⟩⟩
    rcases List.mem_cons.mp hm with e | hm
    · cases e
    · rcases List.mem_append.mp hm with hm | hm
      · exact z.1 m hm
      · rcases List.mem_cons.mp hm with e | hm
        · cases e
        · exact z.2 m hm
theorem plain_of {p : Ps} (ok : p.ok) (hu : p.cnt 117 = 0) (hd : p.cnt 100 = 0) : ∀ c n, Wd.lt c n ∈ p.words → c ∈ four := by
  intro c n h
  have h6 := (words_ok p ok _ h).1
  have u := (cnt_zero ok).mp hu
  have d := (cnt_zero ok).mp hd
  unfold six at h6
  unfold four
  simp only [List.mem_cons, List.not_mem_nil, or_false] at h6 ⊢
  rcases h6 with rfl | rfl | rfl | rfl | rfl | rfl
  · exact .inl rfl
  · exact .inr (.inl rfl)
  · exact .inr (.inr (.inl rfl))
  · exact .inr (.inr (.inr rfl))
  · exact absurd h (u n)
  · exact absurd h (d n)
end WM

set_option Elab.async false
set_option linter.all false
set_option maxRecDepth 100000
set_option maxHeartbeats 4000000
set_option exponentiation.threshold 3000
namespace K05P
open PySem PySem.Spec PyProof.Rows L2 RT WM K05 TL
/-- what a part is, for the count -/
theorem partsCnt {C : Addr} {H : Hp} {vs : List V} {p : Ps} (c : Nat) (h : PartsAt C H vs p) (ok : p.ok) : ∀ (i : Nat) (x : V), vs[i]? = some x → ∃ a d fs e n, x = .ref a ∧ H a = some (.ins C d fs) ∧ fs.lookup ("times" : Str) = some (.int ((n : Nat) : Int)) ∧ fs.lookup ("inner" : Str) = some (.ref e) ∧ n ≤ T30 ∧
    ((∃ k, fs.lookup ("letter" : Str) = some (.str ⟨#[k]⟩) ∧ H e = some (.tup []) ∧ (p.cnts c)[i]? = some (n * (if k = c then 1 else 0))) ∨
     (∃ us b, us ≠ [] ∧ H e = some (.tup us) ∧ PartsAt C H us b ∧ b.ok ∧ b.lev < p.lev ∧ b.words.length ≤ p.words.length ∧ (p.cnts c)[i]? = some (n * b.cnt c))) := by
  induction h with
  | nil => intro i x e; cases e
  | @lf a d e k n vs r h1 h2 h3 ih =>
    intro i x ex
    cases i with
    | zero => cases ex; exact ⟨a, d, _, e, n, rfl, h1, rfl, rfl, ok.1.2.2, .inl ⟨k, rfl, h2, rfl⟩⟩
    | succ i =>
      obtain ⟨a', d', fs', e', n', q1, q2, q3, q4, q5, q⟩ := ih ok.2 i x ex
      refine ⟨a', d', fs', e', n', q1, q2, q3, q4, q5, ?_⟩
      rcases q with ⟨k', g1, g2, g3⟩ | ⟨us', b', g0, g1, g2, g3, g4, g5, g6⟩
      · exact .inl ⟨k', g1, g2, g3⟩
      · exact .inr ⟨us', b', g0, g1, g2, g3, g4, Nat.le_trans g5 (Nat.le_succ _), g6⟩
  | @rp a d e n us vs b r h1 h2 h3 h4 ih1 ih2 =>
    intro i x ex
    cases i with
    | zero =>
      cases ex
      refine ⟨a, d, _, e, n, rfl, h1, rfl, rfl, ok.2.2.1.2, .inr ⟨us, b, ?_, h2, h3, ok.2.1, ?_, ?_, rfl⟩⟩
      · intro z
        subst z
        cases h3
        exact ok.1 rfl
      · show b.lev < max (1 + b.lev) r.lev
        omega
      · show _ ≤ (Wd.op :: (b.words ++ Wd.cl n :: r.words)).length
        rw [List.length_cons, List.length_append]
        omega
    | succ i =>
      obtain ⟨a', d', fs', e', n', q1, q2, q3, q4, q5, q⟩ := ih2 ok.2.2.2 i x ex
      refine ⟨a', d', fs', e', n', q1, q2, q3, q4, q5, ?_⟩
      rcases q with ⟨k', g1, g2, g3⟩ | ⟨us', b', g0, g1, g2, g3, g4, g5, g6⟩
      · exact .inl ⟨k', g1, g2, g3⟩
      · refine .inr ⟨us', b', g0, g1, g2, g3, ?_, ?_, g6⟩
        · show _ < max (1 + b.lev) r.lev
          omega
        · show _ ≤ (Wd.op :: (b.words ++ Wd.cl n :: r.words)).length
          rw [List.length_cons, List.length_append, List.length_cons]
          omega
theorem cnts_len {C : Addr} {H : Hp} {vs : List V} {p : Ps} (c : Nat) (h : PartsAt C H vs p) : (p.cnts c).length = vs.length := by
  induction h with
  | nil => rfl
  | lf _ _ _ ih => simp [Ps.cnts, ih]
  | rp _ _ _ _ _ ih => simp [Ps.cnts, ih]
theorem seq_via {A B : TS} {D : Ends} {σ : L2.St} {H : Hp} (Good : L2.St → Hp → Prop) (h1 : ∀ D' : Ends, (∀ σ' H', Good σ' H' → D'.nx σ' H') → A D' σ H) (h2 : ∀ σ' H', Good σ' H' → B D σ' H') : tSeq A B D σ H := h1 _ h2
section
variable {P : Program} {w : World} {K : PySem.W.Frag} {mg : Str → Option Value} {base : Heap}
theorem kit_ii {K : PySem.W.Frag} : PySem.W.kitOne K (.type "int") (.type "int") = some true := kit_ty (by decide +kernel)
theorem kit_ib {K : PySem.W.Frag} : PySem.W.kitOne K (.type "int") (.type "bool") = some false := kit_ty (by decide +kernel)
def spIsInt : Sp := fun vs H Q _ => ∃ v : Int, vs = [.int v] ∧ Q (.bl true) H
theorem ok_isint (D : Ds K) (T : Tx K mg) : FnOk P w K mg base CX0 1 (dis_integer.adr K) D.fd_is_integer ["value"] spIsInt := by
  refine D.F_is_integer.ok scis_integer (fun vs H Q E h => ?_) (fun cdv A outer s H vs Q E hr h => ?_)
  · obtain ⟨v, rfl, _⟩ := h
    rfl
  · obtain ⟨v, rfl, q⟩ := h
    refine ⟨_, PSs.nox (pss_one (ps_ret (pe_and (pe_callB call_isiY (by rfl) T.z_isinstance (by decide +kernel) (pa_cons (pv 0) (pa_cons (pe_bltn (v := .ty "int") (by rfl) T.z_int (by decide +kernel) rfl) pa_nil)))
      (pe_one (pe_not (pe_callB call_isiY (by rfl) T.z_isinstance (by decide +kernel) (pa_cons (pv 0) (pa_cons (pe_bltn (v := .ty "bool") (by rfl) T.z_bool (by decide +kernel) rfl) pa_nil)))))))), ?_⟩
    refine ⟨_, rfl, _, .ty "int", _, _, true, rfl, .ty "int", .base (.base (.int v)), kit_ii, true, rfl, iteT ?_⟩
    exact ⟨_, rfl, _, .ty "bool", _, _, false, rfl, .ty "bool", .base (.base (.int v)), kit_ib, false, rfl, q⟩
def spWithin : Sp := fun vs H Q _ => ∃ v l m : Int, vs = [.int v, .int l, .int m] ∧ Q (.bl (decide (l ≤ v) && decide (v ≤ m))) H
theorem ok_within (D : Ds K) (T : Tx K mg) : FnOk P w K mg base CX0 2 (dis_integer_within.adr K) D.fd_is_integer_within ["value", "least", "most"] spWithin := by
  have G1 : FnOk P w K mg base CX0 1 _ _ _ spIsInt := ok_isint D T
  refine D.F_is_integer_within.ok scis_integer_within (fun vs H Q E h => ?_) (fun cdv A outer s H vs Q E hr h => ?_)
  · obtain ⟨v, l, m, rfl, _⟩ := h
    rfl
  · obtain ⟨v, l, m, rfl, q⟩ := h
    refine ⟨_, PSs.nox (pss_one (ps_ret (pe_and (pe_call G1 hr (by rfl) T.g_is_integer D.F_is_integer.kp (b_is_integer D) .nil pass0 (pa_cons (pv 0) pa_nil))
      (pe_one (pe_chain op_le op_le (pv 1) (pv 0) (pv 2)))))), ?_⟩
    refine ⟨_, rfl, v, rfl, true, rfl, iteT ?_⟩
    refine ⟨_, rfl, _, rfl, l, v, rfl, rfl, _, rfl, ?_⟩
    by_cases h1 : l ≤ v
    · rw [decide_eq_true h1] at q ⊢
      exact iteT ⟨_, rfl, v, m, rfl, rfl, q⟩
    · rw [decide_eq_false h1] at q ⊢
      exact iteF q
def spIdx : Sp := fun vs H Q _ => ∃ v m : Int, vs = [.int v, .int m] ∧ 0 ≤ v ∧ v ≤ m ∧ Q .non H
theorem ok_idx (D : Ds K) (T : Tx K mg) : FnOk P w K mg base CX0 3 (dcheck_index.adr K) D.fd_check_index ["index", "most"] spIdx := by
  have G1 : FnOk P w K mg base CX0 2 _ _ _ spWithin := ok_within D T
  refine D.F_check_index.ok sccheck_index (fun vs H Q E h => ?_) (fun cdv A outer s H vs Q E hr h => ?_)
  · obtain ⟨v, m, rfl, _⟩ := h
    rfl
  · obtain ⟨v, m, rfl, h1, h2, q⟩ := h
    refine ⟨_, PSs.nox (pss_one (ps_if (pt_not (pt_val (pe_call G1 hr (by rfl) T.g_is_integer_within D.F_is_integer_within.kp (b_is_integer_within D) .nil pass0 (pa_cons (pv 0) (pa_cons pe_int (pa_cons (pv 1) pa_nil)))))) (pss_one ps_never) pss_nil)), ?_⟩
    refine ⟨_, rfl, _, rfl, v, 0, m, rfl, true, ?_, iteF q⟩
    rw [show (decide ((0 : Int) ≤ v) && decide (v ≤ m)) = true by rw [decide_eq_true h1, decide_eq_true h2]; rfl]
def spCount (K : PySem.W.Frag) (d : Nat) : Sp := fun vs H Q _ => ∃ (t : Addr) (us : List V) (p : Ps) (c : Nat), vs = [.ref t, .str ⟨#[c]⟩] ∧ H t = some (.tup us) ∧ PartsAt (He.ga K "Part") H us p ∧ p.ok ∧ p.lev ≤ 12 ∧ p.words.length ≤ 1000 ∧ p.lev < d ∧ ∀ H', Same H H' → Q (.int (p.cnt c : Int)) H'
theorem ok_count (D : Ds K) (T : Tx K mg) : ∀ d, FnOk P w K mg base CX0 (1 + d) (dcount_in.adr K) D.fd_count_in ["parts", "letter"] (spCount K d) := by
  intro d
  induction d with
  | zero =>
    refine D.F_count_in.ok sccount_in (fun vs H Q E h => ?_) (fun cdv A outer s H vs Q E hr h => ?_)
    · obtain ⟨t, us, p, c, rfl, _⟩ := h
      rfl
    · obtain ⟨t, us, p, c, rfl, _, _, _, _, _, h0, _⟩ := h
      exact absurd h0 (Nat.not_lt_zero _)
  | succ d ih =>
  refine D.F_count_in.ok sccount_in (fun vs H Q E h => ?_) (fun cdv A outer s H vs Q E hr h => ?_)
  · obtain ⟨t, us, p, c, rfl, _⟩ := h
    rfl
  · obtain ⟨t, us, p, c, rfl, et, hp, ok, hl, hw, hd, q⟩ := h
    have nd := sccount_in.nd
    have hr' : Room (1 + d) _ := hr
    refine ⟨_, PSs.nox (pss_cons (ps_set (i := 2) nd rfl (.inl rfl) pe_int)
      (pss_cons (ps_for PassesOwn.never rfl (pi_tup (pv 0)) (pg_name (i := 3) nd rfl (.inl rfl))
        (pss_cons (ps_set (i := 4) nd rfl (.inl rfl) (pe_ifExp (pt_truth (pe_fld (pv 3) rfl) (by intro _; rfl)) (pe_call ih hr' (by rfl) T.g_count_in D.F_count_in.kp (b_count_in D) .nil pass0 (pa_cons (pe_fld (pv 3) rfl) (pa_cons (pv 1) pa_nil))) (pe_callTy call_int1 (by rfl) T.z_int (by decide +kernel) (pa_cons (pe_cmpR op_eq (pe_fld (pv 3) rfl) (pv 1) (nomark _)) pa_nil))))
        (pss_one (ps_set (i := 2) nd rfl (.inl rfl) (pe_op op_add (pv 2) (pe_op op_mulW (pe_fld (pv 3) rfl) (pv 4)))))))
      (pss_one (ps_ret (pv 2))))), ?_⟩
    refine ⟨_, rfl, t, rfl, ⟨_, tupT et⟩, ?_⟩
    refine for_tup (xs := us) (fun i σ H' => ∃ z3 z4, σ = [some (.ref t), some (.str ⟨#[c]⟩), some (.int (((p.cnts c).take i).sum : Int)), z3, z4] ∧ Same H H') ⟨none, none, rfl, fun _ _ e => e⟩ (fun i σ H' _ hp' => ?_) (fun i x σ H' hx hp' => ?_) fun σ H' hp' => ?_
    · obtain ⟨_, _, _, s⟩ := hp'
      exact tupT (s _ _ et)
    · obtain ⟨z3, z4, rfl, s⟩ := hp'
      obtain ⟨a, dd, fs, e, n, rfl, ea, ft, fi, hn, h⟩ := partsCnt c hp ok i x hx
      have ea' := s _ _ ea
      show tSeq _ _ _ [some (.ref t), some (.str ⟨#[c]⟩), some (.int (((p.cnts c).take i).sum : Int)), some (.ref a), z4] H'
      refine seq_via (Good := fun σ H2 => ∃ m : Nat, σ = [some (.ref t), some (.str ⟨#[c]⟩), some (.int (((p.cnts c).take i).sum : Int)), some (.ref a), some (.int (m : Int))] ∧ Same H H2 ∧ (p.cnts c)[i]? = some (n * m) ∧ m < 2 ^ 1400) (fun D' hD => ?_) (fun σ H2 g => ?_)
      · rcases h with ⟨k, fl, ee, hc⟩ | ⟨us', b, g0, ee, hb, okb, lvb, lnb, hc⟩
        · refine ⟨_, rfl, a, _, dd, fs, .ref e, rfl, ea', T.c_Part, T.n_Part_inner, fi, false, .inr (.inl ⟨[], tupT (s _ _ ee), rfl⟩), iteF ?_⟩
          refine ⟨_, rfl, a, _, dd, fs, _, rfl, ea', T.c_Part, T.n_Part_letter, fl, _, rfl, rfl, .inr ⟨_, rfl, ?_⟩⟩
          by_cases hk : k = c
          · subst hk
            rw [if_pos rfl] at hc
            rw [show decide (V.str ⟨#[k]⟩ = V.str ⟨#[k]⟩) = true from decide_eq_true rfl]
            exact hD _ _ ⟨1, rfl, s, hc, by decide⟩
          · rw [if_neg hk] at hc
            rw [show decide (V.str ⟨#[k]⟩ = V.str ⟨#[c]⟩) = false from decide_eq_false (fun z => hk (by injection z with z; injection z with z; injection z with z; injection z))]
            exact hD _ _ ⟨0, rfl, s, hc, by decide⟩
        · refine ⟨_, rfl, a, _, dd, fs, .ref e, rfl, ea', T.c_Part, T.n_Part_inner, fi, true, .inr (.inl ⟨us', tupT (s _ _ ee), ?_⟩), iteT ?_⟩
          · cases us' with
            | nil => exact absurd rfl g0
            | cons y us' => rfl
          refine ⟨_, rfl, a, _, dd, fs, .ref e, rfl, ea', T.c_Part, T.n_Part_inner, fi, _, rfl, e, us', b, c, rfl, s _ _ ee, hb.same s, okb, by omega, by omega, by omega, fun H2 s2 => hD _ _ ⟨b.cnt c, rfl, s.trans s2, hc, ?_⟩⟩
          exact Nat.lt_of_le_of_lt (cnt_le c b) (size_top okb (by omega) (by omega))
      · obtain ⟨m, rfl, s2, hc, hm⟩ := g
        refine ⟨_, rfl, _, rfl, a, _, dd, fs, _, rfl, s2 _ _ ea, T.c_Part, T.n_Part_times, ft, _, rfl, n, m, rfl, rfl, wide_mul (a := 101) (b := 1400) ?_ ?_ (by decide) (by decide) (by decide), _, _, rfl, rfl, ?_⟩
        · have : T30 < 2 ^ 101 := by decide
          omega
        · rw [Int.natAbs_natCast]; exact hm
        refine ⟨some (.ref a), some (.int (m : Int)), ?_, s2⟩
        rw [List.take_succ, hc, List.sum_append]
        show [some (V.ref t), some (V.str ⟨#[c]⟩), some (V.int (((List.take i (p.cnts c)).sum : Int) + (n : Int) * (m : Int))), some (V.ref a), some (V.int (m : Int))] = _
        have e1 : (((List.take i (p.cnts c)).sum + (some (n * m)).toList.sum : Nat) : Int) = ((List.take i (p.cnts c)).sum : Int) + (n : Int) * (m : Int) := by
          show (((List.take i (p.cnts c)).sum + (n * m + 0) : Nat) : Int) = _
          rw [Nat.add_zero, Int.natCast_add, Int.natCast_mul]
        rw [e1]
    · obtain ⟨z3, z4, rfl, s⟩ := hp'
      refine ⟨_, rfl, ?_⟩
      rw [← cnts_len c hp, List.take_length, cnts_sum]
      exact q _ s
def spLen (K : PySem.W.Frag) : Sp := fun vs H Q _ => ∃ (a : Addr) (p : Ps) (m : Nat), vs = [.ref a, .int (m : Int)] ∧ IsP K H a p ∧ p.size ≤ m ∧ Q .non H
theorem ok_len (D : Ds K) (T : Tx K mg) : FnOk P w K mg base CX0 3 (dcheck_length.adr K) D.fd_check_length ["program", "most"] (spLen K) := by
  have GL : FnOk P w K mg base CX0 1 _ _ _ (spLength K) := ok_length D T
  refine D.F_check_length.ok sccheck_length (fun vs H Q E h => ?_) (fun cdv A outer s H vs Q E hr h => ?_)
  · obtain ⟨a, p, m, rfl, _⟩ := h
    rfl
  · obtain ⟨a, p, m, rfl, hp, hm, q⟩ := h
    refine ⟨_, PSs.nox (pss_one (ps_if (pt_cmpR op_gt (pe_prop (pv 0) T.c_Program T.p_Program_length GL hr (b_Program_length D) .nil pass0 rfl) (pv 1) (nomark _)) (pss_one ps_never) pss_nil)), ?_⟩
    obtain ⟨_, _, _, d, wd, t, us, e1, e2, e3, e4⟩ := id hp
    refine ⟨_, rfl, a, d, _, rfl, e1, a, p, rfl, hp, _, rfl, _, _, rfl, rfl, false, ?_, iteF q⟩
    exact congrArg V.bl (decide_eq_false (by omega))
def spCS (K : PySem.W.Frag) : Sp := fun vs H Q _ => ∃ (a : Addr) (p : Ps) (c : Nat), vs = [.ref a, .str ⟨#[c]⟩] ∧ IsP K H a p ∧ c ∈ six ∧ ∀ H', Same H H' → Q (.int (p.cnt c : Int)) H'
theorem ok_cs (D : Ds K) (T : Tx K mg) : FnOk P w K mg base CX0 15 (dcount_steps.adr K) D.fd_count_steps ["program", "letter"] (spCS K) := by
  have GC : FnOk P w K mg base CX0 1 _ _ _ (spCheckP K) := ok_checkP D T
  have GL : FnOk P w K mg base CX0 1 _ _ _ spLetter := ok_letter D T
  have GN : FnOk P w K mg base CX0 14 _ _ _ (spCount K 13) := ok_count D T 13
  refine D.F_count_steps.ok sccount_steps (fun vs H Q E h => ?_) (fun cdv A outer s H vs Q E hr h => ?_)
  · obtain ⟨a, p, c, rfl, _⟩ := h
    rfl
  · obtain ⟨a, p, c, rfl, hp, hc, q⟩ := h
    refine ⟨_, PSs.nox (pss_cons (ps_expr (pe_call GC (hr.mono (by decide)) (by rfl) T.g_check_program D.F_check_program.kp (b_check_program D) .nil pass0 (pa_cons (pv 0) pa_nil)))
      (pss_cons (ps_if (pt_not (pt_val (pe_call GL (hr.mono (by decide)) (by rfl) T.g_is_letter D.F_is_letter.kp (b_is_letter D) .nil pass0 (pa_cons (pv 1) pa_nil)))) (pss_one ps_never) pss_nil)
      (pss_one (ps_ret (pe_call GN hr (by rfl) T.g_count_in D.F_count_in.kp (b_count_in D) .nil pass0 (pa_cons (pe_fld (pv 0) rfl) (pa_cons (pv 1) pa_nil))))))), ?_⟩
    obtain ⟨ok, hl, hw, d, wd, t, us, e1, e2, e3, e4⟩ := id hp
    refine ⟨_, rfl, a, p, rfl, hp, _, rfl, ⟨#[c]⟩, rfl, true, congrArg V.bl (six_one hc), iteF ?_⟩
    exact ⟨_, rfl, a, _, d, _, .ref t, rfl, e1, T.c_Program, T.n_Program__parts, rfl, _, rfl, t, us, p, c, rfl, e3, e4, ok, hl, hw, by omega, q⟩
end
end K05P

set_option Elab.async false
set_option linter.all false
set_option maxRecDepth 100000
/-! A law's head over the marked model. -/
namespace GT
open PySem PySem.W PySem.Calls PyProof.Rows
open Sem (wp)
/-- what is left at the end -/
def Left (s : Shared) : Prop := leftWithCleanup s.gens = false ∧ ∀ x ∈ s.gens, Fine s.heap x
theorem tS_nil {s : Shared} (h : s.gens = #[]) : tS s = s := by
  have e : s.gens.map tG = #[] := by simp [h]
  show ({ s with gens := s.gens.map tG } : Shared) = s
  rw [e, ← h]
theorem ends_hm {P : Program} {w : World} {t : Sem Fin} {s : Shared} {R : Result → Shared → Prop} (hz : s.asleep) (hg : s.gens = #[])
    (h : wpAny (hm (model P w)) callerA t (fun f s' => ∃ x, f = .done x ∧ (R (.ok x) s' ∧ Left s')) (fun e s' => R (.error e) s' ∧ Left s') s) :
    ∃ n r s' z, schedN (denote table) P w n (.single s ⟨t, .builtin "claim.caller" {}, default, []⟩) = .halted (outcomeOf r) z ∧ z.heap = s'.heap ∧ z.os = s'.os ∧ R r s' ∧ s'.heap.life = s.heap.life := by
  have h2 := wp_of_wpAny_done (R := fun r s' => (R r s' ∧ Left s') ∧ leftWithCleanup s'.gens = false) caller_in (wpAny_mono (any_tau (d := none).mpr h) (fun _ _ ⟨f, e, a, b⟩ => ⟨f, e, ⟨a, b⟩, b.1⟩) fun _ _ ⟨a, b⟩ => ⟨⟨a, b⟩, b.1⟩) default
  obtain ⟨n, r, s', hn, hR, hL⟩ := (wp_iff_halts (M := hm (model P w)) (R := fun r s' => R r s' ∧ Left s') ..).mp h2
  obtain ⟨m, z, q1, q2, q3⟩ := sim_all (M := model P w) (r := r) n s ⟨t, .builtin "claim.caller" {}, default, []⟩ s' (by rw [tS_nil hg]; exact hn) hz hL.2
  obtain ⟨y, e1, e2, _⟩ := runNI_real _ _ _ hn (outcomeOf_ends r)
  obtain ⟨eh, _⟩ := Shared.forget_eq e2
  exact ⟨m, r, s', z, q1, q2, q3, hR, by rw [← eh]; exact runN_life _ _ _ e1⟩
theorem from_hm {c : ClaimW} {tree : List Value → Sem Fin} {w : World} {s : Shared} {free : Addr → Prop} {gens : Prop} {kept : Heap → Prop} (hz : s.asleep) (hg : s.gens = #[])
    (spec : ∀ args, c.pre args = true → WData.layableAll args = true → ∀ ord : List DictEntry → List DictEntry, (∀ l, (ord l).Perm l) → ∃ vs s1, layAllW c.records (classAt s.heap) w.params ord args s = some (vs, s1) ∧
      wpAny (hm (model c.prog w)) callerA (tree vs) (fun f s' => ∃ x, f = .done x ∧ ((c.Ends s args vs s1 (.ok x) s' ∧ s'.os = s.os ∧ kept s'.heap) ∧ Left s')) (fun e s' => (c.Ends s args vs s1 (.error e) s' ∧ s'.os = s.os ∧ kept s'.heap) ∧ Left s') s1) :
    c.CallFrom (fun vs => ⟨tree vs, .builtin "claim.caller" {}, default, []⟩) w free gens kept s := by
  intro args p1 p2 ord p3
  obtain ⟨vs, s1, laid, run⟩ := spec args p1 p2 ord p3
  have al := layAllW_rest _ _ _ laid
  obtain ⟨n, r, s', z, q1, q2, q3, ⟨he, ho, hk⟩, hl⟩ := ends_hm (P := c.prog) (w := w) (t := tree vs) (s := s1) (R := fun r s' => c.Ends s args vs s1 r s' ∧ s'.os = s.os ∧ kept s'.heap) (Shared.asleep_of_life al.2.2.2 hz) (al.1.trans hg) run
  have he := he.congr q2
  have hk : kept z.heap := by rw [q2]; exact hk
  refine ⟨vs, s1, laid, n, _, z, q1, ?_, (fun _ i x hx => by rw [hg] at hx; simp at hx), hk, by rw [q2, hl, al.2.2.2], Shared.rest_eq (q3.trans ho)⟩
  rcases he with ⟨v, rfl, d1, d2, d3, d4, d5⟩ | ⟨e, ob, cls, rfl, d1, d2, d3, d4, d5⟩
  · refine .inl ⟨v, rfl, d1, d2, d3, fun b o y _ => ?_, d5⟩
    exact d4 b o y
  · refine .inr ⟨e, ob, cls, rfl, d1, d2, d3, d4, fun b o y _ => ?_⟩
    exact d5 b o y
/-- the law's call over the marked model -/
abbrev WalkM (q : Program) (loose : List Str) (XP : (Str → Option Value) → Heap → Prop) (YP : World → Heap → Prop) (r : RowW) (d : DefRec) (kwd : List (Str × Expr)) : Prop :=
  ∀ (w : World) (s0 s1 : Shared) (mg mb : Str → Option Value), Ground q loose r.records XP w s0 mg mb s1.heap → YP w s1.heap → ∀ (a : Addr) (o : Obj) (pm cd doc dV kV : Value), s1.heap.get? a = some o →
    o.data = .func { docDef d.name d.params d.body d.scope pm cd doc with defaults := dV, kwdefaults := kV } → s1.heap.CodeRec cd d.name → Dflts mg s1.heap d.params kwd dV kV → mg d.name = some (.ref a) → s1.gens = #[] →
    ∀ (args : List WData) (vals : List Value) (as : List Addr), r.claim.pre args = true → WData.layableAll args = true → ReadsAllW r.records (classAt s0.heap) s1.heap vals args as → WellAll w.params s1.heap vals args → (∀ a ∈ as, (a == sysModules) = false) →
      wpAny (hm (model r.prog w)) callerA (PySem.call (.ref a) vals) (fun v s' => GoodWG r.claim (classAt s0.heap) (ExcName.means s0.heap) args s1 (.ok (.ret v)) s' ∧ Left s')
        (fun e s' => GoodWG r.claim (classAt s0.heap) (ExcName.means s0.heap) args s1 (.error e) s' ∧ Left s') s1
theorem open_hm {r : OpenRow} {q : Program} {loose : List Str} {Xt : Shared → Bool} {XP : (Str → Option Value) → Heap → Prop} {α : Type} {Yf : Shared → α} {Ya : World → α} {YP : World → Heap → Prop} {d : DefRec} {kwd : List (Str × Expr)} {N : Nat}
    (left : LeftO r.prog q loose Xt Yf Ya N) (y1 : ∀ w s, Yf s = Ya w → YP w s.heap) (y2 : ∀ w h h', YP w h → (∀ b o, h.get? b = some o → h'.get? b = some o) → YP w h')
    (x1 : ∀ s, Xt s = true → XP (s.heap.nsMap mainGlobals) s.heap) (x2 : ∀ mg h h', XP mg h → (∀ b o, h.get? b = some o → h'.get? b = some o) → XP mg h')
    (d1 : defOf q r.name = some (d, kwd)) (hp : r.prog.theDef r.name = some (d.params, d.body, d.scope)) (hk : kwWritten? d.params.kwonlyargs d.params.kw_defaults = some kwd) (rf : ∀ s, Xt s = true → RecFacts r.records s.heap) (nw : (!r.writes || r.records.isEmpty) = true)
    (k1 : r.wellSaid = true) (ok : (chainsOk q && opensWell r.prog && (frees r.toRowW && r.within.isEmpty)) = true) (hb : r.prog.bare) (hw : r.toRowW.promised)
    (call : WalkM q loose XP YP r.toRowW d kwd) : r.Holds := by
  obtain ⟨ok1, ok2⟩ := Bool.and_eq_true_iff.mp ok
  obtain ⟨ch, o1⟩ := Bool.and_eq_true_iff.mp ok1
  obtain ⟨k5, k6⟩ := Bool.and_eq_true_iff.mp ok2
  obtain ⟨sm, hu, ha, hap, mk0⟩ := frees_parts k5
  have ident := ident_freeW hu ha hap
  have wi : r.toRowW.claim.within = [] := List.isEmpty_iff.mp k6
  refine ⟨k1, hw, ⟨hb, o1, by show r.toRowW.makers.map _ = []; rw [mk0]; rfl⟩, hw.witness, fun w => ⟨(left.behind x1 ch w).1, fun s' hs' => ?_⟩⟩
  obtain ⟨s0, hf, hg0, s, hT, hz, hgn, hg, Gx, y⟩ := (left.behind (XP := fun mg h => XP mg h ∧ RecFacts r.records h) (fun s hs => ⟨x1 s hs, rf s hs⟩) ch w).2 s' hs'
  have G0 : Ground q loose [] XP w s (s.heap.nsMap mainGlobals) (s.heap.nsMap builtinsNs) s.heap := ⟨Gx.T, Gx.B, Gx.D, Gx.TE, Gx.TD, Gx.W, Gx.X.1, Gx.cls, Gx.has, Gx.apart, Gx.once, Gx.K⟩
  have RF := Gx.X.2
  have hgn : s.gens = #[] := Array.eq_empty_of_size_eq_zero (beq_iff_eq.mp hgn)
  have G : Ground q loose r.records XP w s _ _ s.heap := RF.ground G0
  refine ⟨s0, hf, hg0, s, hT, (fun n hn => ?_), RF.1, RF.2.1, ?_⟩
  · obtain rfl : n = r.name := by split at hn <;> simp_all
    exact pinned_of_view hg G0 d1 hp hk
  · refine from_hm (c := r.toRowW.claim) hz hgn fun args p1 p2 ord p3 => ?_
    obtain ⟨⟨vs, s1⟩, laid⟩ := Option.isSome_iff_exists.mp (layAllW_isSome (P := w.params) (ord := ord) G.has args r.args s (pre_splitW p1).1)
    have keeps := layAllW_keeps _ _ _ laid
    have al := layAllW_rest _ _ _ laid
    obtain ⟨as, hrd, hin, hold⟩ := reads_layAllW p3 _ _ _ laid p2 s1.heap (fun _ _ e => e)
    have L : Laid r.records w s s1 args vs as := ⟨⟨ord, p3, laid⟩, hrd, hin, hold, keeps, al.1.trans hgn, al.2.2.1⟩
    have G1 := G.keeps x2 keeps
    obtain ⟨a, o, pm, cd, doc, dV, kV, h1, h2, h3, h4, h5⟩ := G1.fn d1
    have run := call w s s1 _ _ G1 (y2 _ _ _ (y1 w s y) keeps) a o pm cd doc dV kV h2 h3 h4 h5 (defOf_name d1 ▸ h1) L.gens args vs as p1 p2 L.reads L.well (L.low G.low)
    refine ⟨vs, s1, laid, wpAny_bind (wpAny_nsGet G1.T.g ?_)⟩
    rw [h1]
    refine wpAny_bind (wpAny_mono run (fun v z ⟨g, hl⟩ => wpAny_pure ⟨_, rfl, ?_⟩) fun e z ⟨g, hl⟩ => ?_)
    · have e := g.laid (c := r.toRowW.claim) sm wi ident L
      exact ⟨⟨e.1, e.2.1, fun q => ⟨namesKept_of hT hg r.keeps keeps g.2.1.old, noTable nw q⟩⟩, hl⟩
    · have e := g.laid (c := r.toRowW.claim) sm wi ident L
      exact ⟨⟨e.1, e.2.1, fun q => ⟨namesKept_of hT hg r.keeps keeps g.2.1.old, noTable nw q⟩⟩, hl⟩
end GT

set_option Elab.async false
set_option linter.all false
set_option maxRecDepth 100000
namespace GT
open PySem PySem.Spec PyProof.Rows L2
open Sem (wp)
theorem cal_bare {G : Array GenState} (h : Cal #[] G) : AllBare G := fun y hy => by
  obtain ⟨i, hi, rfl⟩ := Array.mem_iff_getElem.mp hy
  have q := h.new i _ (Array.getElem?_eq_getElem hi)
  rcases q with q | q
  · simp at q
  · cases hx : G[i] with
    | suspended k l c p fs cl =>
      have e := (q k l c p fs cl hx).2.1
      subst e
      rfl
    | _ => rfl
theorem cal_left {s : Shared} (h : Cal #[] s.gens) : Left s := by
  refine ⟨leftWithCleanup_false_of_bare (cal_bare h), fun x hx k l c p fs cl e hm => ?_⟩
  obtain ⟨i, hi, rfl⟩ := Array.mem_iff_getElem.mp hx
  rcases h.new i _ (Array.getElem?_eq_getElem hi) with q | q
  · simp at q
  · exact absurd hm (q k l c p fs cl e).2.2
section
variable {P : Program} {w : World} {K : PySem.W.Frag} {mg mb : Str → Option Value} {CX : CXT} {k : Nat} {fa a : Addr} {fd : FuncData} {x : Str} {sp : Sp} {s : Shared} {vs : List Value} {ns : List Int}
theorem enterM (H : Hp) (alone : ∀ b u, H b = some u → b = a ∧ ∃ o xs, u = .frz o (.lst xs)) (free : ∀ b, H b ≠ none → K.lookup b = none) (hok : HOk P w H s.heap)
    (KX : K.In s.heap) (gl : s.heap.Ns mainGlobals mg) (bl : s.heap.Ns builtinsNs mb) (bb : ∀ x : Str, x ≠ "__name__" → mb x = bootBuiltins x) (lim : s.heap.NoLimit) (gn : s.gens = #[]) (room : Room k callerA)
    (F : ∀ base : Heap, K.In base → base.Ns mainGlobals mg → FnM P w K mg base CX k fa fd [x] sp) (binds : ∀ (s : Shared) (u : Value), BindsTo s fd ⟨[u], []⟩ [(x, u)]) (said : sp [.ref a] H (fun v _ => v = .bl true) fun _ _ _ => False)
    (noX : ∀ e s' G, CX [] H (gw s #[]) (fun _ _ _ => False) e (gw s' G) → False) :
    codeAny (hm (model P w)) callerA (.call (.ref fa) ⟨[.ref a], []⟩) (fun r s' => r = .ok (.ret (.bool true)) ∧ OldK s.heap s'.heap ∧ s'.os = s.os ∧ AllBare s'.gens ∧ Left s') s := by
  have notD : ∀ {b : Addr} {o : Obj} {es : Array DictEntry} {n : Nat}, s.heap.get? b = some o → o.data = .dict es n → H b = none := fun {b o es n} e d => by
    cases q : H b with
    | none => rfl
    | some u =>
      obtain ⟨_, ob, xs, rfl⟩ := alone b u q
      obtain ⟨e1, _, its, m, _, e2⟩ := (show ObjOk P w H s.heap b (.frz ob (.lst xs)) from hok b _ q)
      rw [e] at e2
      cases e2
      cases d
  have space : ∀ {b : Addr} {m : Str → Option Value}, s.heap.Ns b m → (hidT s.heap H).Ns b m := fun {b m} ⟨o, es, n, e, d, r⟩ => ⟨o, es, n, hidT_get e (notD e d), d, r⟩
  have kb : K.In (hidT s.heap H) := fun b o e => hidT_get (KX b o e) (by
    cases q : H b with
    | none => rfl
    | some u =>
      have z := free b (by rw [q]; exact fun z => nomatch z)
      rw [e] at z
      cases z)
  have md : Mod K mg (hidT s.heap H) := ⟨kb, space gl, ⟨mb, space bl, bb⟩, by
    obtain ⟨mc, h1, h2⟩ := lim
    exact ⟨mc, space h1, h2⟩⟩
  have env : Env0 P w K mg (hidT s.heap H) callerA [] (gw s #[]) H := ⟨rfl, md, fun b o e => of_hidT e, Nat.le_of_eq (hidT_size _ _), trivial, (fun b hb => absurd (show b ∈ ([] : List Addr) from hb) (by simp)), hok, bare_nil⟩
  have wf : WF s.gens := fun i k l c p fs cl e => by rw [gn] at e; simp at e
  refine codeAny_mono ((F _ kb (space gl)).go callerA [] s H ⟨[.ref a], []⟩ [.ref a] [.ref a] _ _ rfl room env wf (binds s (.ref a)) (.cons rfl .nil) said) fun r s' h => ?_
  match r, h with
  | .error e, ⟨_, γ, _, h⟩ => exact (noX e s' γ h).elim
  | .ok (.ret u), ⟨cal, _, v, H', os, bare, un, hok', rv, q⟩ =>
    have ev : v = .bl true := q
    subst ev
    obtain rfl : u = Value.bool true := rv
    rw [gn] at cal
    refine ⟨rfl, OldK.of_keep fun b o e => ?_, os, cal_bare cal, cal_left cal⟩
    cases q : H b with
    | none => exact un.keep b o e q (fun z => nomatch z) (fun z => nomatch z)
    | some u =>
      obtain ⟨_, ob, xs, rfl⟩ := alone b u q
      obtain ⟨e1, _⟩ := hok b _ q
      obtain ⟨e2, _⟩ := hok' b _ (un.frzs b ob _ q)
      have e : s.heap.get? b = some o := e
      rw [e] at e1
      cases e1
      exact e2
theorem law_callM (KX : K.In s.heap) (gl : s.heap.Ns mainGlobals mg) (bl : s.heap.Ns builtinsNs mb) (bb : ∀ x : Str, x ≠ "__name__" → mb x = bootBuiltins x) (lim : s.heap.NoLimit) (gn : s.gens = #[])
    (obj : s.heap.get? a = some { cls := .type "list", data := .seq vs.toArray }) (hi : IntsAre vs ns) (hl : ns.length ≤ sizeLine) (room : Room k callerA)
    (F : ∀ base : Heap, K.In base → base.Ns mainGlobals mg → FnM P w K mg base CX k fa fd [x] sp) (binds : ∀ (s : Shared) (u : Value), BindsTo s fd ⟨[u], []⟩ [(x, u)])
    (said : ∀ H : Hp, SqL K H a (ns.map V.int) → sp [.ref a] H (fun v _ => v = .bl true) fun _ _ _ => False) (noX : ∀ H e s' G, CX [] H (gw s #[]) (fun _ _ _ => False) e (gw s' G) → False) :
    codeAny (hm (model P w)) callerA (.call (.ref fa) ⟨[.ref a], []⟩) (fun r s' => r = .ok (.ret (.bool true)) ∧ OldK s.heap s'.heap ∧ s'.os = s.os ∧ AllBare s'.gens ∧ Left s') s := by
  have rv := vals_ints hi
  cases hk : K.lookup a with
  | some o =>
    have e := KX a o hk
    rw [obj] at e
    cases e
    exact enterM (fun _ => none) (fun b u z => nomatch z) (fun b z => (z rfl).elim) (fun b u z => nomatch z) KX gl bl bb lim gn room F binds
      (said _ (.inr ⟨_, vs.toArray, _, hk, rfl, rfl, rfl, by rw [List.size_toArray, hi.length]; exact hl, by simpa using rv⟩)) (noX _)
  | none =>
    have at_ : ∀ b u, RT.scriptH a vs ns b = some u → b = a ∧ u = .frz { cls := .type "list", data := .seq vs.toArray } (.lst (ns.map V.int)) := fun b u z => by
      unfold RT.scriptH at z
      by_cases hb : b = a
      · rw [if_pos hb] at z
        exact ⟨hb, (Option.some.inj z).symm⟩
      · rw [if_neg hb] at z
        cases z
    refine enterM (RT.scriptH a vs ns) (fun b u z => ?_) (fun b z => ?_) (fun b u z => ?_) KX gl bl bb lim gn room F binds (said _ (.inl (.inr ⟨{ cls := .type "list", data := .seq vs.toArray }, by unfold RT.scriptH; rw [if_pos rfl]⟩))) (noX _)
    · obtain ⟨e, rfl⟩ := at_ b u z
      exact ⟨e, _, _, rfl⟩
    · cases q : RT.scriptH a vs ns b with
      | none => exact (z q).elim
      | some u =>
        rw [(at_ b u q).1]
        exact hk
    · obtain ⟨rfl, rfl⟩ := at_ b u z
      exact ⟨obj, by rw [List.length_map]; exact hl, vs, _, rv, obj⟩
end
/-- the end of a law's proof over the marked model -/
theorem walk_ofM {l : PySem.W.OpenLaw} {n k : Nat} {q : Program} {loose : List Str} {XP : (Str → Option Value) → Heap → Prop} {YP : World → Heap → Prop} {d : DefRec} {CX : World → CXT} {x : Str}
    (hn : l.most = some n) (hn2 : n ≤ sizeLine) (hdf : d.params.defaults = []) (room : Room k callerA)
    (F : ∀ (w : World) (mg : Str → Option Value) (fa : Addr) (h : Heap), YP w h → h.Ns mainGlobals mg → mg d.name = some (.ref fa) →
      ∃ (K : PySem.W.Frag) (fd : FuncData) (sp : Sp), K.In h ∧ (∀ (s : Shared) (u : Value), BindsTo s fd ⟨[u], []⟩ [(x, u)]) ∧
        (∀ (H : Hp) (a : Addr) (ns : List Int), ns.length ≤ n → (∀ z ∈ ns, Builtin.Int.intBits z ≤ 1048576) → SqL K H a (ns.map V.int) → sp [.ref a] H (fun v _ => v = .bl true) fun _ _ _ => False) ∧
        ∀ base : Heap, K.In base → base.Ns mainGlobals mg → FnM l.prog w K mg base (CX w) k fa fd [x] sp)
    (noX : ∀ (w : World) (H : Hp) (s : Shared) (e : Value) (s' : Shared), CX w [] H s (fun _ _ _ => False) e s' → False) : WalkM q loose XP YP l.row.toRowW d [] := by
  intro w s0 s1 mg mb G Y fa o pm cd doc dV kV ho hd hcd hD hmg hg args vals as hpre hlay hrd hwl hlo
  obtain rfl : dV = .none := PySem.W.Dflts.none hD hdf
  obtain rfl : kV = .none := PySem.W.Dflts.noKw hD
  obtain ⟨a, vs, ns, rfl, rfl, hobj, hints, hlen⟩ := Att.script_of hn hpre hwl
  obtain ⟨K, fd, sp, KX, hb, said, hF⟩ := F w mg fa _ Y G.T.g hmg
  refine wpAny_call (codeAny_mono (law_callM KX G.T.g G.T.b G.T.builtins G.T.nolimit hg hobj hints (Nat.le_trans hlen hn2) room hF hb (fun H hS => said H a ns hlen (Att.script_bits hlay) hS) fun H e s' _ => noX w H _ e _) fun r s' hq => ?_)
  obtain ⟨rfl, h2, h3, h4, h5⟩ := hq
  exact ⟨⟨.inl ⟨.bool true, .bool true, [], rfl, fun _ => rfl, .bool true, Att.post_true l _, fun _ => ⟨List.Pairwise.nil, fun _ hm => (nomatch hm)⟩⟩, h2, h3, h4⟩, h5⟩
open PySem.W HandSHeadRun in
theorem head_M {r : OpenRow} {q : Program} {H : Hook} {ob : SharedT → H.α} {M : Nat} {loose : List PySem.Str} {d : DefRec} {kwd : List (PySem.Str × PySem.Expr)} (q0 : ∀ s : SharedT, ob s = H.obs s.abs)
    (e : opening r.prog = plainProg r.prog.main.scope.names) (f : ∀ s, fenceModules? r.prog s = some s) (run : ∀ w, RunEq r q H ob M loose w)
    (q1 : defOf q r.name = some (d, kwd)) (q2 : r.prog.theDef r.name = some (d.params, d.body, d.scope)) (q3 : kwWritten? d.params.kwonlyargs d.params.kw_defaults = some kwd)
    (q4 : (!r.writes || r.records.isEmpty) = true) (k1 : r.wellSaid = true) (ok : (chainsOk q && opensWell r.prog && (frees r.toRowW && r.within.isEmpty)) = true) (q5 : r.prog.bare) (q6 : r.toRowW.promised)
    (call : WalkM q loose (XL q []) H.says r.toRowW d kwd) : r.Holds := by
  have lf : LeftO r.prog q loose (fun s => xlAt q [] s && recOk r.toRowW.records s) H.obs H.val (M + 600) true :=
    left_one (M := M) e (Nat.ble_eq_true_of_le (by omega)) f (Nat.ble_eq_true_of_le (by omega)) fun w os => by
      have z := run w os
      have q7 : ob = fun s => H.obs s.abs := funext q0
      rw [q7] at z
      simp only [endQ_eq, seenQ_eq]
      exact z
  exact open_hm (r := r) (q := q) (loose := loose) (XP := XL q []) (YP := H.says) (d := d) (kwd := kwd) lf H.of H.keeps (fun s z => xl_of s (Bool.and_eq_true_iff.mp z).1) XL.keeps q1 q2 q3 (fun s z => recFacts_of (Bool.and_eq_true_iff.mp z).2) q4 k1 ok q5 q6 call
end GT

set_option Elab.async false
set_option linter.all false
set_option maxRecDepth 100000
set_option maxHeartbeats 1000000
/-! Promises over the marked model where sleepers may be left behind: what these wait for stays pinned. -/
namespace GT
open PySem PySem.Spec PyProof.Rows L2
open Sem (wp)
abbrev Sb (a b : Pn) : Prop := ∀ p ∈ a, p ∈ b
/-- what is pinned has grown; the sleepers; the heap -/
structure Gr (a b : Pn) (s s' : Shared) : Prop where
  sb : Sb a b
  fr : ∀ p ∈ b, p ∈ a ∨ s.heap.objs.size ≤ p.1
  sz : s.heap.objs.size ≤ s'.heap.objs.size
  cal : CalX s.heap.objs.size b s.gens s'.gens
theorem Gr.refl (a : Pn) (s : Shared) : Gr a a s s := ⟨fun _ h => h, fun _ h => .inl h, Nat.le_refl _, .refl _ _ _⟩
theorem Gr.of {a : Pn} {s s' : Shared} (c : Cal s.gens s'.gens) (z : s.heap.objs.size ≤ s'.heap.objs.size) : Gr a a s s' := ⟨fun _ h => h, fun _ h => .inl h, z, .of c⟩
theorem Gr.trans {a b c : Pn} {s s1 s2 : Shared} (h : Gr a b s s1) (k : Gr b c s1 s2) : Gr a c s s2 :=
  ⟨fun p q => k.sb p (h.sb p q), fun p q => (k.fr p q).elim (h.fr p) fun z => .inr (Nat.le_trans h.sz z), Nat.le_trans h.sz k.sz, h.cal.trans (k.cal.mono (fun _ q => q) h.sz) k.sb⟩
/-- an exception, behind some veil -/
def XX (X : Cx) (e : Value) (s' : Shared) : Prop := ∃ G, PB G (X.xe e) s'
def EX (X : Cx) (pins : Pn) (σ : L2.St) (Q : VK) (s₀ : Shared) (u : Value) (s' : Shared) : Prop := ∃ pn v H', Gr pins pn s₀ s' ∧ IM X pn σ H' s' ∧ RelV v u ∧ Q v H'
def TX (X : Cx) (pins : Pn) (σ : L2.St) (Q : Bool → Hp → Prop) (s₀ : Shared) (b : Bool) (s' : Shared) : Prop := ∃ pn H', Gr pins pn s₀ s' ∧ IM X pn σ H' s' ∧ Q b H'
def AX (X : Cx) (pins : Pn) (σ : L2.St) (Q : List V → Hp → Prop) (s₀ : Shared) (us : List Value) (s' : Shared) : Prop := ∃ pn vs H', Gr pins pn s₀ s' ∧ IM X pn σ H' s' ∧ Vals vs us ∧ Q vs H'
def FX (X : Cx) (pins : Pn) (D : Ends) (s₀ : Shared) (f : Flow) (s' : Shared) : Prop := ∃ pn, Gr pins pn s₀ s' ∧ match f with
  | .next => ∃ σ' H', IM X pn σ' H' s' ∧ D.nx σ' H'
  | .brk => ∃ σ' H', IM X pn σ' H' s' ∧ D.bk σ' H'
  | .cont => ∃ σ' H', IM X pn σ' H' s' ∧ D.ct σ' H'
  | .ret u => ∃ v σ' H', IM X pn σ' H' s' ∧ RelV v u ∧ D.rt v H'
structure PEx (X : Cx) (e : Expr) (t : TE) : Prop where
  run : ∀ (pins : Pn) (s : Shared) (σ : L2.St) (H : Hp) (Q : VK), IM X pins σ H s → t σ H Q → wpAny (MM X) X.A (eval e X.env) (EX X pins σ Q s) (XX X) s
structure PTx (X : Cx) (e : Expr) (t : TT) : Prop where
  run : ∀ (pins : Pn) (s : Shared) (σ : L2.St) (H : Hp) (Q : Bool → Hp → Prop), IM X pins σ H s → t σ H Q → wpAny (MM X) X.A (isTrue e X.env (eval e X.env)) (TX X pins σ Q s) (XX X) s
structure PAx (X : Cx) (es : List Expr) (t : TA) : Prop where
  run : ∀ (pos : Pos) (pins : Pn) (s : Shared) (σ : L2.St) (H : Hp) (Q : List V → Hp → Prop), IM X pins σ H s → t σ H Q → wpAny (MM X) X.A (spliced (backTo pos (starEach es X.env))) (AX X pins σ Q s) (XX X) s
structure PSx (X : Cx) (st : Stmt) (t : TS) : Prop where
  run : ∀ (pins : Pn) (s : Shared) (σ : L2.St) (H : Hp) (D : Ends), IM X pins σ H s → t D σ H → wpAny (MM X) X.A (exec st X.env) (FX X pins D s) (XX X) s
structure PBx (X : Cx) (st : List Stmt) (t : TS) : Prop where
  run : ∀ (pins : Pn) (s : Shared) (σ : L2.St) (H : Hp) (D : Ends), IM X pins σ H s → t D σ H → wpAny (MM X) X.A (execs st X.env) (FX X pins D s) (XX X) s
section
variable {X : Cx}
theorem XM.x {G : Array GenState} {e : Value} {s : Shared} (h : XM X G e s) : XX X e s := ⟨G, h⟩
theorem EX.older {p q : Pn} {σ : L2.St} {Q : VK} {s0 s1 : Shared} {u : Value} {s : Shared} (g : Gr p q s0 s1) (h : EX X q σ Q s1 u s) : EX X p σ Q s0 u s := let ⟨pn, v, H', g1, J, r, z⟩ := h; ⟨pn, v, H', g.trans g1, J, r, z⟩
theorem TX.older {p q : Pn} {σ : L2.St} {Q : Bool → Hp → Prop} {s0 s1 : Shared} {b : Bool} {s : Shared} (g : Gr p q s0 s1) (h : TX X q σ Q s1 b s) : TX X p σ Q s0 b s := let ⟨pn, H', g1, J, z⟩ := h; ⟨pn, H', g.trans g1, J, z⟩
theorem FX.older {p q : Pn} {D : Ends} {s0 s1 : Shared} {f : Flow} {s : Shared} (g : Gr p q s0 s1) (h : FX X q D s1 f s) : FX X p D s0 f s := let ⟨pn, g1, z⟩ := h; ⟨pn, g.trans g1, z⟩
theorem e_x {e : Expr} {t : TE} (h : PEm X e t) : PEx X e t := ⟨fun pins s σ H Q I ht => any_sz (wpAny_mono (h.run pins s σ H Q I ht) (fun _ _ ⟨v, H', J, r, q, c⟩ z => ⟨pins, v, H', .of c z, J, r, q⟩) fun _ _ z => XM.x z)⟩
theorem t_x {e : Expr} {t : TT} (h : PTm X e t) : PTx X e t := ⟨fun pins s σ H Q I ht => any_sz (wpAny_mono (h.run pins s σ H Q I ht) (fun _ _ ⟨H', J, q, c⟩ z => ⟨pins, H', .of c z, J, q⟩) fun _ _ z => XM.x z)⟩
theorem a_x {es : List Expr} {t : TA} (h : PAm X es t) : PAx X es t := ⟨fun pos pins s σ H Q I ht => any_sz (wpAny_mono (h.run pos pins s σ H Q I ht) (fun _ _ ⟨v, H', J, r, q, c⟩ z => ⟨pins, v, H', .of c z, J, r, q⟩) fun _ _ z => XM.x z)⟩
theorem s_x {st : Stmt} {t : TS} (h : PSm X st t) : PSx X st t := ⟨fun pins s σ H D I ht => any_sz (wpAny_mono (h.run pins s σ H D I ht) (fun _ _ ⟨c, q⟩ z => ⟨pins, .of c z, q⟩) fun _ _ z => XM.x z)⟩
theorem b_x {st : List Stmt} {t : TS} (h : PBm X st t) : PBx X st t := ⟨fun pins s σ H D I ht => any_sz (wpAny_mono (h.run pins s σ H D I ht) (fun _ _ ⟨c, q⟩ z => ⟨pins, .of c z, q⟩) fun _ _ z => XM.x z)⟩
/-- calm ones -/
theorem e_c {e : Expr} {t : TE} (h : PE X e t) : PEx X e t := e_x (e_m h)
theorem t_c {e : Expr} {t : TT} (h : PT X e t) : PTx X e t := t_x (t_m h)
theorem a_c {es : List Expr} {t : TA} (h : PA X es t) : PAx X es t := a_x (a_m h)
theorem s_c {st : Stmt} {t : TS} (h : PS X st t) : PSx X st t := s_x (s_m h)
theorem b_c {st : List Stmt} {t : TS} (h : PSs X st t) : PBx X st t := b_x (b_m h)
/-- and go on -/
theorem nxt {α : Type} {M : Model} {A : Around} {t : Sem α} {Q Q' : α → Shared → Prop} {E : Value → Shared → Prop} {s : Shared} (h : wpAny M A t Q E s) (hq : ∀ a s', Q a s' → Q' a s') : wpAny M A t Q' E s := wpAny_mono h hq fun _ _ z => z
theorem xb_nil : PBx X [] tNext := b_c pss_nil
theorem xb_cons {st : Stmt} {rest : List Stmt} {t u : TS} (a : PSx X st t) (b : PBx X rest u) : PBx X (st :: rest) (tSeq t u) := by
  refine ⟨fun pins s σ H D I ht => wpAny_execs_cons (nxt (a.run pins s σ H { D with nx := u D } I ht) fun f s1 z => ?_)⟩
  obtain ⟨pn, g, z⟩ := z
  match f, z with
  | .next, ⟨σ', H', J, q⟩ => exact nxt (b.run pn s1 σ' H' D J q) fun f s2 y => FX.older g y
  | .ret v, z => exact ⟨pn, g, z⟩
  | .brk, z => exact ⟨pn, g, z⟩
  | .cont, z => exact ⟨pn, g, z⟩
theorem xb_one {st : Stmt} {t : TS} (a : PSx X st t) : PBx X [st] t := by
  refine ⟨fun pins s σ H D I ht => wpAny_execs_cons (nxt (a.run pins s σ H D I ht) fun f s1 z => ?_)⟩
  obtain ⟨pn, g, z⟩ := z
  match f, z with
  | .next, z => exact wpAny_execs_nil ⟨pn, g, z⟩
  | .ret v, z => exact ⟨pn, g, z⟩
  | .brk, z => exact ⟨pn, g, z⟩
  | .cont, z => exact ⟨pn, g, z⟩
theorem xs_ret {e : Expr} {te : TE} {pos : Pos} (he : PEx X e te) : PSx X (.Return (some e) pos) (tRet te) :=
  ⟨fun pins s σ H D I ht => wpAny_Return_some (nxt (he.run pins s σ H _ I ht) fun u s1 ⟨pn, v, H', g, J, r, q⟩ => ⟨pn, g, v, σ, H', J, r, q⟩)⟩
end
end GT

set_option Elab.async false
set_option linter.all false
set_option maxRecDepth 100000
set_option maxHeartbeats 1000000
namespace GT
open PySem PySem.Spec PyProof.Rows L2
open Sem (wp)
/-- a call's end -/
def CMX (CX : CXT) (outer : List Env) (P : Program) (w : World) (H : Hp) (s : Shared) (Q : VK) (E : XK) (r : Result) (s' : Shared) : Prop :=
  match r with
  | .ok (.ret u) => ∃ pn : Pn, CalX s.heap.objs.size pn s.gens s'.gens ∧ WF s'.gens ∧ s.heap.objs.size ≤ s'.heap.objs.size ∧ (∀ p ∈ pn, s'.heap.get? p.1 = some p.2 ∧ p.2.genNumber?.isSome = true ∧ s.heap.objs.size ≤ p.1) ∧ CE outer P w H (gw s #[]) (fun v H' => Q v H' ∧ ∀ p ∈ pn, H' p.1 = none) u (gw s' #[])
  | .ok _ => False
  | .error e => ∃ G, PB G (CX outer H (gw s #[]) E e) s'
structure FnX (P : Program) (w : World) (K : PySem.W.Frag) (mg : Str → Option Value) (base : Heap) (CX : CXT) (k : Nat) (f : Addr) (fd : FuncData) (ps : List Str) (sp : Sp) : Prop where
  len : ∀ vs H Q E, sp vs H Q E → vs.length = ps.length
  go : ∀ (A : Around) (outer : List Env) (s : Shared) (H : Hp) (args : Args) (us : List Value) (vs : List V) (Q : VK) (E : XK), A.guards = some [] → Room k A → Env0 P w K mg base A outer (gw s #[]) H → WF s.gens → BindsTo s fd args (ps.zip us) → Vals vs us → sp vs H Q E →
    codeAny (hm (model P w)) A (.call (.ref f) args) (CMX CX outer P w H s Q E) s
theorem FnX.mono {P : Program} {w : World} {K : PySem.W.Frag} {mg : Str → Option Value} {base : Heap} {CX : CXT} {j k : Nat} {f : Addr} {fd : FuncData} {ps : List Str} {sp : Sp} (F : FnX P w K mg base CX j f fd ps sp) (h : j ≤ k) : FnX P w K mg base CX k f fd ps sp :=
  ⟨F.len, fun A outer s H args us vs Q E hG hr => F.go A outer s H args us vs Q E hG (hr.mono h)⟩
theorem gen_nodict {o : Obj} (h : o.genNumber?.isSome = true) {es : Array DictEntry} {n : Nat} : o.data ≠ .dict es n := fun e => by
  unfold Obj.genNumber? at h
  rw [e] at h
  revert h
  cases o.cls <;> simp
theorem gen_fields {o : Obj} (h : o.genNumber?.isSome = true) : ∃ vs, o.data = .fields vs := by
  unfold Obj.genNumber? at h
  revert h
  cases o.data <;> cases o.cls <;> simp
section
variable {P : Program} {w : World} {K : PySem.W.Frag} {mg : Str → Option Value} {base : Heap} {CX : CXT}
theorem code_sz {M : Model} {A : Around} {c : Code} {R : Result → Shared → Prop} {s : Shared} (h : codeAny M A c (fun r s' => s.heap.objs.size ≤ s'.heap.objs.size → R r s') s) : codeAny M A c R s := fun Γ p e hB => by
  obtain ⟨r, s', q, z⟩ := h Γ p e hB
  exact ⟨r, s', q, z (runs_size q).1⟩
theorem FnM.x {k : Nat} {f : Addr} {fd : FuncData} {ps : List Str} {sp : Sp} (F : FnM P w K mg base CX k f fd ps sp) : FnX P w K mg base CX k f fd ps sp :=
  ⟨F.len, fun A outer s H args us vs Q E hG hr env wf hb hv h => code_sz (codeAny_mono (F.go A outer s H args us vs Q E hG hr env wf hb hv h) fun r s' z sz => by
    match r, z with
    | .error e, z => exact ⟨_, z⟩
    | .ok (.ret u), ⟨c, wf, v, H', os, bare, un, hok, rv, q⟩ => exact ⟨[], .of c, wf, sz, fun p hp => absurd hp (by simp), v, H', os, bare, un, hok, rv, q, fun p hp => absurd hp (by simp)⟩)⟩
theorem fx_of {k : Nat} {f : Addr} {name qual : Str} {params : Arguments} {body : List Stmt} {scope : Scope} {dV kV doc pm cdv ct oc : Value} {an od : Option Addr} {osl : Array (Option Value)} {N ps : List Str} {sp : Sp}
    (at_ : K.lookup f = some ⟨oc, od, .func (PySem.W.fnOf name qual params body scope dV kV doc pm an cdv ct), osl⟩) (code : PySem.W.codeIn K cdv qual = true) (S : FnScope N ps scope) (len : ∀ vs H Q E, sp vs H Q E → vs.length = ps.length)
    (walk : ∀ (A : Around) (outer : List Env) (s : Shared) (H : Hp) (vs : List V) (Q : VK) (E : XK), A.guards = some [] → Room k (A.deeper (envOfC qual scope s.heap.objs.size f cdv)) → sp vs H Q E →
      ∃ t, PBx (cxOf CX P w K mg base N qual scope f cdv A outer s H E) body t ∧ t { nx := fun _ H' => Q .non H', rt := Q } (start N vs) H) :
    FnX P w K mg base CX (k + 1) f (PySem.W.fnOf name qual params body scope dV kV doc pm an cdv ct) ps sp where
  len := len
  go := fun A outer s H args us vs Q E hg room env wf binds vals said => by
    have size := len _ _ _ _ said
    have here : K.In s.heap := env.mod.kin.keeps fun b o e => (env.bs b o e).1
    have free : s.heap.NoLimit := env.mod.nolimit.keeps fun b o e => (env.bs b o e).1
    have kinds : ∀ y ∈ ps.zip us, scope.names.lookup y.1 = some .local ∨ (scope.names.lookup y.1 = some .cell ∧ ((cellsFrom (s.heap.objs.size + 1) scope.names []).lookup y.1).isSome = true) := by
      rintro ⟨n, v⟩ hy
      exact (S.par n (List.of_mem_zip hy).1).imp id fun q => ⟨q, PySem.W.cellsFrom_some _ _ _ (.inl q)⟩
    refine fun_hm room.depth (here _ _ at_) rfl S.co S.gen rfl (PySem.W.codeRec_of here code) (binds _ _ _ _ ?_)
    refine wpAny_newFunctionEnv_cells S.kind kinds fun e1 he s1 x => ?_
    subst he
    obtain ⟨t, ht, hq⟩ := walk A outer (gw s #[]) H vs Q E hg (room.deeper _) said
    obtain ⟨h1, tk, rfl, hk⟩ := x.done
    refine ⟨free.keeps hk, body_hm ?_⟩
    have J := inv_start (CX := CX) (E := E) S room.hd env size vals (call_z x)
    have up : s.heap.objs.size ≤ h1.objs.size := by
      have q := J.sz
      exact q
    refine wpAny_mono (ht.run [] { s with heap := h1, toks := tk } (start N vs) H _ ⟨J, wf⟩ hq) (fun fl s' done => ?_) fun e s' ⟨G, y⟩ => wpAny_mono (any_veil y) (fun _ _ z => ⟨G, z⟩) fun _ _ z => ⟨G, z⟩
    obtain ⟨pn, g, done⟩ := done
    have cal : CalX s.heap.objs.size pn s.gens s'.gens := g.cal.mono (fun _ q => q) up
    have hsz : s.heap.objs.size ≤ s'.heap.objs.size := Nat.le_trans up g.sz
    -- only what is waited for is told
    have few : ∀ {σ' : L2.St} {H' : Hp}, IM (cxOf CX P w K mg base N qual scope f cdv A outer (gw s #[]) H E) pn σ' H' s' → CalX s.heap.objs.size (pn.filter fun p => p.2.genNumber?.isSome) s.gens s'.gens ∧ (∀ p ∈ pn.filter fun p => p.2.genNumber?.isSome, s'.heap.get? p.1 = some p.2 ∧ p.2.genNumber?.isSome = true ∧ s.heap.objs.size ≤ p.1) ∧ ∀ p ∈ pn.filter fun p => p.2.genNumber?.isSome, H' p.1 = none := fun {σ' H'} J => by
      refine ⟨⟨cal.size, cal.keep, fun i y e => (cal.new i y e).imp id fun z k l c p fs cl e => ?_⟩, fun p hp => ?_, fun p hp => ?_⟩
      · obtain ⟨h1, h2, h3⟩ := z k l c p fs cl e
        exact ⟨h1, h2, fun m => by obtain ⟨g, a, o, e1, e0, e2, e3⟩ := h3 m; exact ⟨g, a, o, e1, e0, List.mem_filter.mpr ⟨e2, e3⟩, e3⟩⟩
      · obtain ⟨h1, h2⟩ := List.mem_filter.mp hp
        refine ⟨(J.inv.pin p (List.mem_append_right _ h1)).1, h2, ?_⟩
        rcases g.fr p h1 with q | q
        · exact absurd q (by simp)
        · exact Nat.le_trans up q
      · exact (J.inv.pin p (List.mem_append_right _ (List.mem_filter.mp hp).1)).2.1
    match fl, done with
    | .ret u, ⟨v, _, H', J, rv, q⟩ =>
      obtain ⟨c1, c2, c3⟩ := few J
      exact ⟨_, c1, J.wf, hsz, c2, v, H', J.inv.os, J.inv.bare, J.inv.base, J.inv.hok, rv, q, c3⟩
    | .next, ⟨_, H', J, q⟩ =>
      obtain ⟨c1, c2, c3⟩ := few J
      exact ⟨_, c1, J.wf, hsz, c2, V.non, H', J.inv.os, J.inv.bare, J.inv.base, J.inv.hok, rfl, q, c3⟩
    | .brk, ⟨_, _, _, q⟩ => exact q.elim
    | .cont, ⟨_, _, _, q⟩ => exact q.elim
theorem okX {x qual : Str} {pa : Arguments} {bd : List Stmt} {sc : Scope} {dvs : List V} {kws : List (Str × V)} {f : Addr} {fd : FuncData} {N ps : List Str} {k : Nat} {sp : Sp} (F : FunD K x qual pa bd sc dvs kws f fd) (S : FnScope N ps sc) (len : ∀ vs H Q E, sp vs H Q E → vs.length = ps.length)
    (walk : ∀ (cdv : Value) (A : Around) (outer : List Env) (s : Shared) (H : Hp) (vs : List V) (Q : VK) (E : XK), A.guards = some [] → Room k (A.deeper (envOfC qual sc s.heap.objs.size f cdv)) → sp vs H Q E →
      ∃ t, PBx (cxOf CX P w K mg base N qual sc f cdv A outer s H E) bd t ∧ t { nx := fun _ H' => Q .non H', rt := Q } (start N vs) H) : FnX P w K mg base CX (k + 1) f fd ps sp := by
  obtain ⟨oc, od, dV, kV, doc, pm, an, cdv, ct, osl, rfl, lk, hcd, _, _⟩ := F.ex
  exact fx_of lk hcd S len fun A outer s H vs Q E hg hr h => walk cdv A outer s H vs Q E hg hr h
end
section
variable {X : Cx} {CX : CXT} {k : Nat} {f : Addr} {fd : FuncData} {ps : List Str} {sp : Sp} {dvs : List V} {ds : List Value} {E : XK} {e : Expr} {es : List Expr} {t : TA} {x : Str} {p pos : Pos}
/-- behind a call -/
theorem after_x {pins pn : Pn} {σ : L2.St} {H : Hp} {s s' : Shared} {Q : VK} {u : Value} (I : IM X pins σ H s) (c : CalX s.heap.objs.size pn s.gens s'.gens) (wf : WF s'.gens) (sz : s.heap.objs.size ≤ s'.heap.objs.size) (hp : ∀ p ∈ pn, s'.heap.get? p.1 = some p.2 ∧ p.2.genNumber?.isSome = true ∧ s.heap.objs.size ≤ p.1)
    (h : CE X.stack X.prog X.w H (gw s #[]) (fun v H' => Q v H' ∧ ∀ p ∈ pn, H' p.1 = none) u (gw s' #[])) : EX X pins σ Q s u s' := by
  obtain ⟨v, H', J, r, q, hn⟩ := I.inv.after h
  have J2 : Inv X (pins ++ pn) σ H' (gw s' #[]) := J.pins_of fun p hm => by
    rcases List.mem_append.mp hm with z | z
    · exact J.pin p (List.mem_append_right _ z)
    · obtain ⟨e, g, _⟩ := hp p z
      refine ⟨e, hn p z, fun q => ?_, fun q => ?_, gen_none g⟩
      · obtain ⟨m, ⟨o, es, ep, ho, hd, _⟩, _⟩ := J.loc
        have e : (gw s' #[]).heap.get? p.1 = some p.2 := e
        rw [q, ho] at e
        cases e
        exact gen_nodict g hd
      · have fu : (gw s' #[]).heap.FunFrames X.base X.stack := J.env0.funs
        have hs : X.fs = frs X.outer := rfl
        have : p.1 ∈ frs X.stack := by
          rcases J.ok.stk with e1 | ⟨e1, e2⟩
          · rw [e1]; exact q
          · rw [e1]
            unfold frs
            rw [List.filterMap_cons, e2]
            exact List.mem_cons_of_mem _ q
        obtain ⟨_, o, ho, hd⟩ := fu.mem this
        have e : (gw s' #[]).heap.get? p.1 = some p.2 := e
        rw [ho] at e
        cases e
        obtain ⟨vs, e⟩ := gen_fields g
        exact hd vs e
  exact ⟨pins ++ pn, v, H', ⟨fun p z => List.mem_append_left _ z, fun p z => (List.mem_append.mp z).imp id fun z => (hp p z).2.2, sz, c.mono (fun p z => List.mem_append_right _ z) (Nat.le_refl _)⟩, ⟨J2, wf⟩, r, q⟩
theorem xe_call (F : FnX X.prog X.w X.K X.mg X.base CX k f fd ps sp) (hG : X.A.guards = some []) (hr : Room k X.A) (hg : Gl X x) (hm : X.mg x = some (.ref f)) (hk : PySem.W.keepIn X.K (.ref f) = true) (hb : Binds X.K fd ps ds) (hd : Vals dvs ds) (hx : Passes CX X E)
    (ha : PAx X (e :: es) t) (hdb : (x == ("__debug__" : Str)) = false := by decide) (he : starEach (e :: es) X.env = (false, eval e X.env) :: starEach es X.env := by rfl) (hpl : (backTo pos (starEach es X.env)).any (·.1) = false := by rfl) :
    PEx X (.Call (.Name x p) (e :: es) [] pos) (tCall sp dvs E t) := by
  refine ⟨fun pins s σ H Q I h => wpAny_Call_Name_kw (ld_m I hg hm ?_ hdb)⟩
  refine PySem.W.callWith_K (h₀ := X.base) I.inv.ok.mod.kin hk (nxt (ha.run pos pins s σ H _ I h) fun us s1 ⟨pn, vs, H1, g1, I1, r, q⟩ => ⟨I1.inv.kIn, ?_⟩) he hpl
  have r2 := r.append hd
  have hl : (us ++ ds).length = ps.length := r2.length.symm.trans (F.len _ _ _ _ q)
  refine wpAny_call (codeAny_mono (F.go X.A X.stack s1 H1 ⟨us, []⟩ (us ++ ds) (vs ++ dvs) Q E hG hr I1.inv.env0 I1.wf (hb s1 us I1.inv.kIn hl) r2 q) fun r s' hq => ?_)
  match r, hq with
  | .error e, ⟨G, hq⟩ => exact ⟨G, pb_mono (fun γ y => hx pn σ H1 (gw s1 #[]) e (gw s' γ) I1.inv y) hq⟩
  | .ok (.ret u), ⟨qn, c2, wf, sz, hp, hq⟩ => exact EX.older g1 (after_x I1 c2 wf sz hp hq)
theorem xa_nil : PAx X [] tNil := a_c pa_nil
theorem xa_cons {te : TE} (ha : PEx X e te) (hr : PAx X es t) (hs : starEach (e :: es) X.env = (false, eval e X.env) :: starEach es X.env := by rfl) : PAx X (e :: es) (tCons te t) := by
  refine ⟨fun pos pins s σ H Q I h => ?_⟩
  rw [hs]
  refine Calls.spliced_cons (rest := backTo pos (starEach es X.env)) (nxt (ha.run pins s σ H _ I h) fun u s1 ⟨pn, y, H1, g1, I1, r1, q1⟩ => ?_)
  exact nxt (hr.run pos pn s1 σ H1 _ I1 q1) fun us s2 ⟨qn, ys, H2, g2, I2, r2, q2⟩ => ⟨qn, y :: ys, H2, g1.trans g2, I2, .cons r1 r2, q2⟩
end
section
variable {X : Cx} {a b e : Expr} {ta tb te : TE} {pos : Pos}
theorem two_x (ha : PEx X a ta) (hb : PEx X b tb) {pins : Pn} {s : Shared} {σ : L2.St} {H : Hp} {R : V → V → Hp → Prop} (I : IM X pins σ H s) (h : ta σ H fun x H1 => tb σ H1 fun y H2 => R x y H2) {Q : Value → Shared → Prop} {f : Value → Value → Sem Value}
    (hf : ∀ v u s2 x y H2 pn, Gr pins pn s s2 → IM X pn σ H2 s2 → RelV x v → RelV y u → R x y H2 → wpAny (MM X) X.A (f v u) Q (XX X) s2) :
    wpAny (MM X) X.A (eval a X.env) (fun v s1 => wpAny (MM X) X.A (eval b X.env) (fun u s2 => wpAny (MM X) X.A (f v u) Q (XX X) s2) (XX X) s1) (XX X) s := by
  refine nxt (ha.run pins s σ H _ I h) fun v s1 ⟨pn, x, H1, g1, I1, r1, q1⟩ => ?_
  exact nxt (hb.run pn s1 σ H1 _ I1 q1) fun u s2 ⟨qn, y, H2, g2, I2, r2, q2⟩ => hf v u s2 x y H2 qn (g1.trans g2) I2 r1 r2 q2
theorem op_x {f : Value → Value → Sem Value} {r : R2} (ho : OpR X f r) {pins : Pn} {s : Shared} {σ : L2.St} {H : Hp} {x y : V} {v u : Value} {Q : VK} (I : IM X pins σ H s) (rx : RelV x v) (ry : RelV y u) (q : r x y H Q) : wpAny (MM X) X.A (f v u) (EX X pins σ Q s) (XX X) s :=
  any_sz (wpAny_mono (op_m ho I rx ry q) (fun _ _ ⟨v, H', J, r, q, c⟩ z => ⟨pins, v, H', .of c z, J, r, q⟩) fun _ _ z => XM.x z)
theorem xe_op {op : Operator} {r : R2} (ho : OpR X (binaryOp op) r) (ha : PEx X a ta) (hb : PEx X b tb) : PEx X (.BinOp a op b pos) (tOp r ta tb) :=
  ⟨fun pins s σ H Q I h => wpAny_BinOp (two_x ha hb I h fun v u s2 x y H2 pn g I2 rx ry q => nxt (op_x ho I2 rx ry q) fun u s3 z => z.older g)⟩
theorem xe_cmp {op : CmpOp} {r : R2} (ho : OpR X (compareOp op) r) (ha : PEx X a ta) (hb : PEx X b tb) (hk : behindInMarks op b = false) : PEx X (.Compare a [op] [b] pos) (tOp r ta tb) :=
  ⟨fun pins s σ H Q I h => wpAny_Compare1 (two_x ha hb I h fun v u s2 x y H2 pn g I2 rx ry q => nxt (op_x ho I2 rx ry q) fun u s3 z => z.older g) hk⟩
theorem xt_cmp {op : CmpOp} {r : R2} (ho : OpR X (compareOp op) r) (ha : PEx X a ta) (hb : PEx X b tb) (hk : behindInMarks op b = false) : PTx X (.Compare a [op] [b] pos) (tTest (tOp r ta tb)) :=
  ⟨fun pins s σ H Q I h => wpAny_isTrue_Compare1 (two_x ha hb I h fun v u s2 x y H2 pn g I2 rx ry q => nxt (op_x ho I2 rx ry q) fun u s3 ⟨qn, z, H3, g3, I3, r3, q3⟩ => by
    obtain ⟨k, rfl, q3⟩ := q3
    cases r3
    exact wpAny_truthy_bool ⟨qn, H3, g.trans g3, I3, q3⟩) hk⟩
theorem xt_val (h : PEx X e te) (he : ∀ whole, isTrue e X.env whole = (do let v ← whole; standAt e.pos; holding [v] (truthy v)) := by intro _; rfl) : PTx X e (tB te) :=
  ⟨fun pins s σ H Q I hw => isTrue_plain (nxt (h.run pins s σ H _ I hw) fun v s1 ⟨pn, z, H1, g1, I1, r1, q1⟩ => by
    obtain ⟨d, rfl, q⟩ := q1
    cases r1
    exact wpAny_truthy_bool ⟨pn, H1, g1, I1, q⟩) (he _)⟩
theorem xt_not {tA : TT} (ha : PTx X a tA) : PTx X (.UnaryOp .Not a pos) (tNot tA) :=
  ⟨fun pins s σ H Q I h => isTrue_not (nxt (ha.run pins s σ H _ I h) fun c s1 z => z)⟩
theorem xs_if {c : Expr} {p q : List Stmt} {tc : TT} {t u : TS} (hc : PTx X c tc) (hp : PBx X p t) (hq : PBx X q u) : PSx X (.If c p q pos) (tIfS tc t u) := by
  refine ⟨fun pins s σ H D I h => wpAny_If (nxt (hc.run pins s σ H _ I h) fun d s1 ⟨pn, H1, g1, I1, q1⟩ => ?_)⟩
  cases d with
  | true => exact nxt (hp.run pn s1 σ H1 D I1 q1) fun f s2 z => z.older g1
  | false => exact nxt (hq.run pn s1 σ H1 D I1 q1) fun f s2 z => z.older g1
theorem xs_drop (he : PEx X e te) (hs : swapsWith e none pos.line X.env = pure false := by rfl) : PSx X (.Expr e pos) (tDrop te) := by
  refine ⟨fun pins s σ H D I h => ?_⟩
  rw [exec_Expr X.env e pos I.inv.quiet hs]
  refine wpAny_bind (wpAny_standAt (wpAny_bind (nxt (he.run pins s σ H _ I h) fun v s1 ⟨pn, x, H1, g1, I1, r1, q1⟩ => ?_)))
  exact any_sz (wpAny_mono (lift I1 (P := fun f s2 => f = .next ∧ Inv X pn σ H1 s2) (R := fun f s2 => FM X pn D s1.gens f s2) (wpAny_dropValue ⟨rfl, I1.calm⟩) fun f γ s' ⟨e, J⟩ => ⟨J.bare, fun w c => by subst e; exact ⟨c, σ, H1, .of J w, q1⟩⟩) (fun f s2 ⟨c, z⟩ sz => FX.older g1 ⟨pn, .of c sz, z⟩) fun _ _ z => XM.x z)
theorem xs_asg {tg : Expr} {g : TG} (he : PEx X e te) (hg : PG X tg g) (hs : swapsWithSole [tg] e pos.line X.env = pure false := by rfl) (hw : swappedStores [tg] e X.env = pure none := by rfl)
    (h1 : (assignEach [tg] X.env).map (·.2) = [assign tg X.env] := by rfl) : PSx X (.Assign [tg] e pos) (tAsg te g) := by
  refine ⟨fun pins s σ H D I h => wpAny_Assign_stores (nxt (he.run pins s σ H _ I h) fun v s1 ⟨pn, x, H1, g1, I1, r1, q1⟩ => ?_) hs hw⟩
  rw [h1]
  exact any_sz (wpAny_mono (asg_m hg I1 r1 q1) (fun _ s2 ⟨σ', H', J, q, c2⟩ sz => ⟨pn, g1.trans (.of c2 sz), σ', H', J, q⟩) fun _ _ z => XM.x z)
theorem xs_set {i : Nat} {x : Str} {p' : Pos} (hN : X.N.Nodup) (hi : X.N[i]? = some x) (hx : Loc X.env.scope x) (he : PEx X e te) (hs : swapsWith e (some (.Name x p')) pos.line X.env = pure false := by rfl) (hf : X.fn x = true ∨ X.env.scope.names.lookup x = some .local := by first | exact .inl rfl | exact .inr rfl | assumption) :
    PSx X (.Assign [.Name x p'] e pos) (tAsg te (gName i)) := by
  refine ⟨fun pins s σ H D I h => wpAny_Assign_Name (nxt (he.run pins s σ H _ I h) fun v s1 ⟨pn, y, H1, g1, I1, r1, q1⟩ => ?_) hs⟩
  exact any_sz (wpAny_mono (lift I1 (P := fun _ s2 => Inv X pn (σ.set i (some y)) H1 s2) (R := fun _ s2 => IM X pn (σ.set i (some y)) H1 s2 ∧ Cal s1.gens s2.gens) (store_ok I1.calm hN hi hx r1 (fun s2 I2 => I2) hf) fun _ γ s' J => ⟨J.bare, fun w c => ⟨.of J w, c⟩⟩) (fun _ s2 ⟨J, c⟩ sz => ⟨pn, g1.trans (.of c sz), _, H1, J, q1⟩) fun _ _ z => XM.x z)
end
end GT

set_option Elab.async false
set_option linter.all false
set_option maxRecDepth 100000
set_option maxHeartbeats 1000000
/-! Loops. -/
namespace GT
open PySem PySem.Spec PyProof.Rows L2
open Sem (wp)
theorem pass_x {X : Cx} (hp : PassesOwn (model X.prog X.w) X.A X.env X.xe) : PassesOwn (MM X) X.A X.env (XX X) := fun e s ⟨G, h⟩ => by
  have z := pass_m (G0 := G) hp e s h
  unfold notedBy cameBackBy at z ⊢
  exact wpAny_mono z (fun _ s' y => wpAny_mono y (fun _ s2 q => ⟨G, q⟩) fun _ s2 q => ⟨G, q⟩) fun x s' y => wpAny_mono y (fun _ s2 q => ⟨G, q⟩) fun _ s2 q => ⟨G, q⟩
section
variable {X : Cx} {pos : Pos}
theorem xs_while {c : Expr} {body : List Stmt} {tc : TT} {tb : TS} (hp : PassesOwn (model X.prog X.w) X.A X.env X.xe) (hc : PTx X c tc) (hb : PBx X body tb) : PSx X (.While c body [] pos) (tWhile tc tb) := by
  refine ⟨fun pins s σ H D I h => ?_⟩
  obtain ⟨W, ⟨m0, w0⟩, turn⟩ := h
  have po := pass_x hp
  refine wpAny_While (while_hm (fun n z => ∃ pn σ' H', Gr pins pn s z ∧ IM X pn σ' H' z ∧ W n σ' H') ?_ m0 ⟨pins, σ, H, .refl _ _, I, w0⟩)
  rintro n s1 ⟨pn, σ1, H1, g1, I1, w1⟩
  refine wpAny_passesOwn po (nxt (hc.run pn s1 σ1 H1 _ I1 (turn n σ1 H1 w1)) fun b s2 ⟨qn, H2, g2, I2, q2⟩ => ?_)
  have g12 := g1.trans g2
  cases b with
  | true =>
    obtain ⟨N, hN, q2⟩ := q2
    rw [if_pos rfl]
    refine wpAny_passesOwn po (nxt (hb.run qn s2 σ1 H2 _ I2 q2) fun f s3 ⟨rn, g3, q3⟩ => ?_)
    have g13 := g12.trans g3
    match f, q3 with
    | .next, ⟨σ3, H3, I3, n3⟩ =>
      obtain ⟨m', hm, w3⟩ := hN σ3 H3 n3
      exact ⟨m', hm, rn, σ3, H3, g13, I3, w3⟩
    | .cont, ⟨σ3, H3, I3, n3⟩ =>
      obtain ⟨m', hm, w3⟩ := hN σ3 H3 n3
      exact ⟨m', hm, rn, σ3, H3, g13, I3, w3⟩
    | .brk, q3 => exact ⟨rn, g13, q3⟩
    | .ret v, q3 => exact ⟨rn, g13, q3⟩
  | false =>
    rw [if_neg Bool.false_ne_true]
    exact ⟨qn, g12, σ1, H2, I2, q2⟩
/-- behind an iterator's turn its own are not pinned any more -/
theorem gr_off {pins pn qn : Pn} {fp : List Addr} {s s5 s6 s7 : Shared} (g : Gr pins pn s s5) (k : Gr (pn ++ pinsAt fp s5.heap) qn s6 s7) (z : s5.heap.objs.size ≤ s6.heap.objs.size) (np : ∀ p ∈ pn, p.1 ∉ fp) (fs : ∀ b ∈ fp, b < s5.heap.objs.size) (c : CalX s.heap.objs.size pn s.gens s6.gens) :
    Gr pins (qn.filter fun p => !decide (p.1 ∈ fp)) s s7 ∧ Sb pn (qn.filter fun p => !decide (p.1 ∈ fp)) ∧ ∀ p ∈ qn.filter fun p => !decide (p.1 ∈ fp), p.1 ∉ fp := by
  have sb : Sb pn (qn.filter fun p => !decide (p.1 ∈ fp)) := fun p hp => List.mem_filter.mpr ⟨k.sb p (List.mem_append_left _ hp), by simpa using np p hp⟩
  have inq : ∀ p ∈ qn, p ∈ pn ∨ p ∈ pinsAt fp s5.heap ∨ s6.heap.objs.size ≤ p.1 := fun p hp => by
    rcases k.fr p hp with q | q
    · exact (List.mem_append.mp q).imp id .inl
    · exact .inr (.inr q)
  refine ⟨⟨fun p hp => sb p (g.sb p hp), fun p hp => ?_, Nat.le_trans g.sz (Nat.le_trans z k.sz), ?_⟩, sb, fun p hp => by simpa using (List.mem_filter.mp hp).2⟩
  · obtain ⟨h1, h2⟩ := List.mem_filter.mp hp
    rcases inq p h1 with q | q | q
    · exact g.fr p q
    · have : p.1 ∉ fp := by simpa using h2
      exact absurd (of_pinsAt q).1 this
    · exact .inr (Nat.le_trans g.sz (Nat.le_trans z q))
  · refine (c.mono sb (Nat.le_refl _)).trans (qn := qn.filter fun p => !decide (p.1 ∈ fp)) ⟨k.cal.size, k.cal.keep, fun i y e => (k.cal.new i y e).imp id fun h k' l c' p fs' cl e' => ?_⟩ (fun _ h => h)
    obtain ⟨h1, h2, h3⟩ := h k' l c' p fs' cl e'
    refine ⟨h1, h2, fun m => ?_⟩
    obtain ⟨gd, a, o, e1, e0, e2, e3⟩ := h3 m
    refine ⟨gd, a, o, e1, Nat.le_trans g.sz (Nat.le_trans z e0), List.mem_filter.mpr ⟨e2, ?_⟩, e3⟩
    have na : a ∉ fp := fun ha => absurd (fs a ha) (Nat.not_lt.mpr (Nat.le_trans z e0))
    simpa using na
theorem xs_for {tg iter : Expr} {body : List Stmt} {wi : TI} {g : TG} {tb : TS} (hp : PassesOwn (model X.prog X.w) X.A X.env X.xe) (hc : X.calm = true) (hi : PI X tg iter wi) (hg : PG X tg g) (hb : PBx X body tb)
    (hs : ∀ x, foldedSetIterable iter X.env x = pure x := by intro _; rfl) : PSx X (.For tg iter body [] pos) (tFor wi g tb) := by
  refine ⟨fun pins s σ H D I h => ?_⟩
  have po := pass_x hp
  refine wpAny_For (any_sz (wpAny_mono (lift2 I (hi.run pins _ σ H _ I.calm h)) (fun v z y hz1 => any_sz (wpAny_mono y (fun itv s2 ⟨Kv, γ, vl, q⟩ hz2 => ?_) fun _ _ y => XM.x y)) fun _ _ y => XM.x y)) hs
  obtain ⟨it, fp, tn, J2, H2, e, I2, T, st2, f2, W, ⟨m0, w0⟩, turn⟩ := q
  subst e
  have cal2 := vl.cal I2.bare
  refine for_hm (fun n y => ∃ i pn σ' H', Gr pins pn s y ∧ IM X pn σ' H' y ∧ tn i y.heap ∧ (∀ b ∈ fp, H' b = none) ∧ (∀ p ∈ pn, p.1 ∉ fp) ∧ W i n σ' H') ?_ m0
    ⟨0, pins, σ, H2, .of cal2 (Nat.le_trans hz1 hz2), IM.of I2 vl.wfG, st2, fun b hb => (f2 b hb).1, fun p hp z => (f2 p.1 z).2.2.2.2.2 p (List.mem_append_right _ hp) rfl, w0⟩
  rintro n s3 ⟨i, pn, σ3, H3, g3, I3, st3, fr3, np3, w3⟩
  have stat : ∀ {H' : Hp}, (∀ b ∈ fp, H' b = none) → ∀ b ∈ fp, FpOk X pn H' b := fun hn b hb => ⟨hn b hb, (f2 b hb).2.1, (f2 b hb).2.2.1, (f2 b hb).2.2.2.1, (f2 b hb).2.2.2.2.1, fun p hp z => by
    rcases List.mem_append.mp hp with q | q
    · exact (f2 b hb).2.2.2.2.2 p (List.mem_append_left _ q) z
    · exact np3 p q (z ▸ hb)⟩
  rcases turn i n σ3 H3 w3 with ⟨stop, qn⟩ | ⟨go, N, hN, step⟩
  · refine wpAny_passesOwn po (any_sz (wpAny_mono (any_veil (pb_start I3.wf (T.done X rfl rfl rfl hc i pn _ σ3 H3 X.xe I3.calm (stat fr3) st3 stop))) (fun r s4 ⟨K4, γ4, v4, hr, I4⟩ hz4 => ?_) fun _ _ y => XM.x y))
    subst hr
    exact ⟨pn, g3.trans (.of (v4.cal I4.bare) hz4), σ3, H3, IM.of I4 v4.wfG, qn⟩
  · refine wpAny_passesOwn po (any_sz (wpAny_mono (any_veil (pb_start I3.wf (T.item X rfl rfl rfl hc i pn _ σ3 H3 X.xe I3.calm (stat fr3) st3 go))) (fun r s4 y4 hz4 => ?_) fun _ _ y => XM.x y))
    obtain ⟨K4, γ4, v4, u, hr, h4⟩ := y4
    subst hr
    refine wpAny_passesOwn po (any_sz (wpAny_mono (any_veil (G0 := s3.gens) ⟨K4, γ4, v4, h4⟩) (fun _ s5 y5 hz5 => ?_) fun e z y => XM.x y))
    obtain ⟨K5, γ5, v5, x, H5, I5, r5, y5, st5, fr5⟩ := y5
    have g5 := g3.trans (.of (v5.cal I5.bare) (Nat.le_trans hz4 hz5))
    have I5' : IM X (pn ++ pinsAt fp s5.heap) σ3 H5 s5 := IM.of (γ := γ5) (L2.Inv.pinned (s := gw s5 γ5) I5 (stat fr5) (T.obj _ _ st5)) v5.wfG
    refine wpAny_passesOwn po (any_sz (wpAny_mono (asg_m hg I5' r5 (step x H5 y5)) (fun _ s6 ⟨σ6, H6, I6, q6, c6⟩ hz6 => ?_) fun _ _ y => XM.x y))
    refine wpAny_passesOwn po (nxt (hb.run _ s6 σ6 H6 _ I6 q6) fun f s7 ⟨qn, k7, q7⟩ => ?_)
    obtain ⟨g7, sb7, np7⟩ := gr_off g5 k7 hz6 np3 (fun b hb => let ⟨o, e, _⟩ := T.obj _ _ st5 b hb; Heap.lt_size e) (g5.cal.trans (.of c6) fun _ h => h)
    have off : ∀ {σ7 : L2.St} {H7 : Hp}, IM X qn σ7 H7 s7 → IM X (qn.filter fun p => !decide (p.1 ∈ fp)) σ7 H7 s7 := fun I7 => ⟨I7.inv.pins_of fun p hp => I7.inv.pin p (List.mem_append_right _ (List.mem_filter.mp hp).1), I7.wf⟩
    have again : ∀ {σ7 : L2.St} {H7 : Hp}, IM X qn σ7 H7 s7 → N σ7 H7 → ∃ m, m < n ∧ ∃ i pn σ' H', Gr pins pn s s7 ∧ IM X pn σ' H' s7 ∧ tn i s7.heap ∧ (∀ b ∈ fp, H' b = none) ∧ (∀ p ∈ pn, p.1 ∉ fp) ∧ W i m σ' H' := fun {σ7 H7} I7 n7 => by
      obtain ⟨m', hm, w7⟩ := hN σ7 H7 n7
      have there : ∀ b ∈ fp, ∀ o, s5.heap.get? b = some o → s7.heap.get? b = some o ∧ H7 b = none := fun b hb o e => by
        obtain ⟨e1, e2, _⟩ := I7.inv.pin (b, o) (List.mem_append_right _ (k7.sb _ (List.mem_append_right _ (mem_pinsAt hb e))))
        exact ⟨e1, e2⟩
      refine ⟨m', hm, i + 1, _, σ7, H7, g7, off I7, T.keep _ _ _ st5 (fun b hb o e => (there b hb o e).1), fun b hb => ?_, np7, w7⟩
      obtain ⟨o, e, d⟩ := T.obj _ _ st5 b hb
      exact (there b hb o e).2
    match f, q7 with
    | .next, ⟨σ7, H7, I7, n7⟩ => exact again I7 n7
    | .cont, ⟨σ7, H7, I7, n7⟩ => exact again I7 n7
    | .brk, ⟨σ7, H7, I7, q7⟩ => exact ⟨_, g7, σ7, H7, off I7, q7⟩
    | .ret v, ⟨x7, σ7, H7, I7, r7, q7⟩ => exact ⟨_, g7, x7, σ7, H7, off I7, r7, q7⟩
end
end GT

set_option Elab.async false
set_option linter.all false
set_option maxRecDepth 100000
/-! A law's end. -/
namespace GT
open PySem PySem.Spec PyProof.Rows L2
open Sem (wp)
theorem calx_bare {N : Nat} {pn : Pn} {G : Array GenState} (h : CalX N pn #[] G) : AllBare G := fun y hy => by
  obtain ⟨i, hi, rfl⟩ := Array.mem_iff_getElem.mp hy
  have q := h.new i _ (Array.getElem?_eq_getElem hi)
  rcases q with q | q
  · simp at q
  · cases hx : G[i] with
    | suspended k l c p fs cl =>
      have e := (q k l c p fs cl hx).2.1
      subst e
      rfl
    | _ => rfl
theorem calx_left {N : Nat} {pn : Pn} {s : Shared} (h : CalX N pn #[] s.gens) (hp : ∀ p ∈ pn, s.heap.get? p.1 = some p.2) : Left s := by
  refine ⟨leftWithCleanup_false_of_bare (calx_bare h), fun x hx k l c p fs cl e hm => ?_⟩
  obtain ⟨i, hi, rfl⟩ := Array.mem_iff_getElem.mp hx
  rcases h.new i _ (Array.getElem?_eq_getElem hi) with q | q
  · simp at q
  · obtain ⟨_, _, h3⟩ := q k l c p fs cl e
    obtain ⟨g, a, o, e1, _, e2, e3⟩ := h3 hm
    refine ⟨a, e1, g, fun o' e' => ?_⟩
    have q := hp _ e2
    rw [q] at e'
    cases e'
    exact e3
section
variable {P : Program} {w : World} {K : PySem.W.Frag} {mg mb : Str → Option Value} {CX : CXT} {k : Nat} {fa a : Addr} {fd : FuncData} {x : Str} {sp : Sp} {s : Shared} {vs : List Value} {ns : List Int}
theorem enterX (H : Hp) (alone : ∀ b u, H b = some u → b = a ∧ ∃ o xs, u = .frz o (.lst xs)) (free : ∀ b, H b ≠ none → K.lookup b = none) (hok : HOk P w H s.heap)
    (KX : K.In s.heap) (gl : s.heap.Ns mainGlobals mg) (bl : s.heap.Ns builtinsNs mb) (bb : ∀ x : Str, x ≠ "__name__" → mb x = bootBuiltins x) (lim : s.heap.NoLimit) (gn : s.gens = #[]) (room : Room k callerA)
    (F : ∀ base : Heap, K.In base → base.Ns mainGlobals mg → FnX P w K mg base CX k fa fd [x] sp) (binds : ∀ (s : Shared) (u : Value), BindsTo s fd ⟨[u], []⟩ [(x, u)]) (said : sp [.ref a] H (fun v _ => v = .bl true) fun _ _ _ => False)
    (noX : ∀ e s' G, CX [] H (gw s #[]) (fun _ _ _ => False) e (gw s' G) → False) :
    codeAny (hm (model P w)) callerA (.call (.ref fa) ⟨[.ref a], []⟩) (fun r s' => r = .ok (.ret (.bool true)) ∧ OldK s.heap s'.heap ∧ s'.os = s.os ∧ AllBare s'.gens ∧ Left s') s := by
  have notD : ∀ {b : Addr} {o : Obj} {es : Array DictEntry} {n : Nat}, s.heap.get? b = some o → o.data = .dict es n → H b = none := fun {b o es n} e d => by
    cases q : H b with
    | none => rfl
    | some u =>
      obtain ⟨_, ob, xs, rfl⟩ := alone b u q
      obtain ⟨e1, _, its, m, _, e2⟩ := (show ObjOk P w H s.heap b (.frz ob (.lst xs)) from hok b _ q)
      rw [e] at e2
      cases e2
      cases d
  have space : ∀ {b : Addr} {m : Str → Option Value}, s.heap.Ns b m → (hidT s.heap H).Ns b m := fun {b m} ⟨o, es, n, e, d, r⟩ => ⟨o, es, n, hidT_get e (notD e d), d, r⟩
  have kb : K.In (hidT s.heap H) := fun b o e => hidT_get (KX b o e) (by
    cases q : H b with
    | none => rfl
    | some u =>
      have z := free b (by rw [q]; exact fun z => nomatch z)
      rw [e] at z
      cases z)
  have md : Mod K mg (hidT s.heap H) := ⟨kb, space gl, ⟨mb, space bl, bb⟩, by
    obtain ⟨mc, h1, h2⟩ := lim
    exact ⟨mc, space h1, h2⟩⟩
  have env : Env0 P w K mg (hidT s.heap H) callerA [] (gw s #[]) H := ⟨rfl, md, fun b o e => of_hidT e, Nat.le_of_eq (hidT_size _ _), trivial, (fun b hb => absurd (show b ∈ ([] : List Addr) from hb) (by simp)), hok, bare_nil⟩
  have wf : WF s.gens := fun i k l c p fs cl e => by rw [gn] at e; simp at e
  refine codeAny_mono ((F _ kb (space gl)).go callerA [] s H ⟨[.ref a], []⟩ [.ref a] [.ref a] _ _ rfl room env wf (binds s (.ref a)) (.cons rfl .nil) said) fun r s' h => ?_
  match r, h with
  | .error e, ⟨_, _, γ, _, h⟩ => exact (noX e s' γ h).elim
  | .ok (.ret u), ⟨pn, cal, _, _, hpn, v, H', os, bare, un, hok', rv, q, _⟩ =>
    have ev : v = .bl true := q
    subst ev
    obtain rfl : u = Value.bool true := rv
    rw [gn] at cal
    refine ⟨rfl, OldK.of_keep fun b o e => ?_, os, calx_bare cal, calx_left cal fun p hp => (hpn p hp).1⟩
    cases q : H b with
    | none => exact un.keep b o e q (fun z => nomatch z) (fun z => nomatch z)
    | some u =>
      obtain ⟨_, ob, xs, rfl⟩ := alone b u q
      obtain ⟨e1, _⟩ := hok b _ q
      obtain ⟨e2, _⟩ := hok' b _ (un.frzs b ob _ q)
      have e : s.heap.get? b = some o := e
      rw [e] at e1
      cases e1
      exact e2
theorem law_callX (KX : K.In s.heap) (gl : s.heap.Ns mainGlobals mg) (bl : s.heap.Ns builtinsNs mb) (bb : ∀ x : Str, x ≠ "__name__" → mb x = bootBuiltins x) (lim : s.heap.NoLimit) (gn : s.gens = #[])
    (obj : s.heap.get? a = some { cls := .type "list", data := .seq vs.toArray }) (hi : IntsAre vs ns) (hl : ns.length ≤ sizeLine) (room : Room k callerA)
    (F : ∀ base : Heap, K.In base → base.Ns mainGlobals mg → FnX P w K mg base CX k fa fd [x] sp) (binds : ∀ (s : Shared) (u : Value), BindsTo s fd ⟨[u], []⟩ [(x, u)])
    (said : ∀ H : Hp, SqL K H a (ns.map V.int) → sp [.ref a] H (fun v _ => v = .bl true) fun _ _ _ => False) (noX : ∀ H e s' G, CX [] H (gw s #[]) (fun _ _ _ => False) e (gw s' G) → False) :
    codeAny (hm (model P w)) callerA (.call (.ref fa) ⟨[.ref a], []⟩) (fun r s' => r = .ok (.ret (.bool true)) ∧ OldK s.heap s'.heap ∧ s'.os = s.os ∧ AllBare s'.gens ∧ Left s') s := by
  have rv := vals_ints hi
  cases hk : K.lookup a with
  | some o =>
    have e := KX a o hk
    rw [obj] at e
    cases e
    exact enterX (fun _ => none) (fun b u z => nomatch z) (fun b z => (z rfl).elim) (fun b u z => nomatch z) KX gl bl bb lim gn room F binds
      (said _ (.inr ⟨_, vs.toArray, _, hk, rfl, rfl, rfl, by rw [List.size_toArray, hi.length]; exact hl, by simpa using rv⟩)) (noX _)
  | none =>
    have at_ : ∀ b u, RT.scriptH a vs ns b = some u → b = a ∧ u = .frz { cls := .type "list", data := .seq vs.toArray } (.lst (ns.map V.int)) := fun b u z => by
      unfold RT.scriptH at z
      by_cases hb : b = a
      · rw [if_pos hb] at z
        exact ⟨hb, (Option.some.inj z).symm⟩
      · rw [if_neg hb] at z
        cases z
    refine enterX (RT.scriptH a vs ns) (fun b u z => ?_) (fun b z => ?_) (fun b u z => ?_) KX gl bl bb lim gn room F binds (said _ (.inl (.inr ⟨{ cls := .type "list", data := .seq vs.toArray }, by unfold RT.scriptH; rw [if_pos rfl]⟩))) (noX _)
    · obtain ⟨e, rfl⟩ := at_ b u z
      exact ⟨e, _, _, rfl⟩
    · cases q : RT.scriptH a vs ns b with
      | none => exact (z q).elim
      | some u =>
        rw [(at_ b u q).1]
        exact hk
    · obtain ⟨rfl, rfl⟩ := at_ b u z
      exact ⟨obj, by rw [List.length_map]; exact hl, vs, _, rv, obj⟩
end
/-- the end of a law's proof over the marked model -/
theorem walk_ofX {l : PySem.W.OpenLaw} {n k : Nat} {q : Program} {loose : List Str} {XP : (Str → Option Value) → Heap → Prop} {YP : World → Heap → Prop} {d : DefRec} {CX : World → CXT} {x : Str}
    (hn : l.most = some n) (hn2 : n ≤ sizeLine) (hdf : d.params.defaults = []) (room : Room k callerA)
    (F : ∀ (w : World) (mg : Str → Option Value) (fa : Addr) (h : Heap), YP w h → h.Ns mainGlobals mg → mg d.name = some (.ref fa) →
      ∃ (K : PySem.W.Frag) (fd : FuncData) (sp : Sp), K.In h ∧ (∀ (s : Shared) (u : Value), BindsTo s fd ⟨[u], []⟩ [(x, u)]) ∧
        (∀ (H : Hp) (a : Addr) (ns : List Int), ns.length ≤ n → (∀ z ∈ ns, Builtin.Int.intBits z ≤ 1048576) → SqL K H a (ns.map V.int) → sp [.ref a] H (fun v _ => v = .bl true) fun _ _ _ => False) ∧
        ∀ base : Heap, K.In base → base.Ns mainGlobals mg → FnX l.prog w K mg base (CX w) k fa fd [x] sp)
    (noX : ∀ (w : World) (H : Hp) (s : Shared) (e : Value) (s' : Shared), CX w [] H s (fun _ _ _ => False) e s' → False) : WalkM q loose XP YP l.row.toRowW d [] := by
  intro w s0 s1 mg mb G Y fa o pm cd doc dV kV ho hd hcd hD hmg hg args vals as hpre hlay hrd hwl hlo
  obtain rfl : dV = .none := PySem.W.Dflts.none hD hdf
  obtain rfl : kV = .none := PySem.W.Dflts.noKw hD
  obtain ⟨a, vs, ns, rfl, rfl, hobj, hints, hlen⟩ := Att.script_of hn hpre hwl
  obtain ⟨K, fd, sp, KX, hb, said, hF⟩ := F w mg fa _ Y G.T.g hmg
  refine wpAny_call (codeAny_mono (law_callX KX G.T.g G.T.b G.T.builtins G.T.nolimit hg hobj hints (Nat.le_trans hlen hn2) room hF hb (fun H hS => said H a ns hlen (Att.script_bits hlay) hS) fun H e s' _ => noX w H _ e _) fun r s' hq => ?_)
  obtain ⟨rfl, h2, h3, h4, h5⟩ := hq
  exact ⟨⟨.inl ⟨.bool true, .bool true, [], rfl, fun _ => rfl, .bool true, Att.post_true l _, fun _ => ⟨List.Pairwise.nil, fun _ hm => (nomatch hm)⟩⟩, h2, h3, h4⟩, h5⟩
end GT

set_option Elab.async false
set_option linter.all false
set_option maxRecDepth 100000
set_option maxHeartbeats 2000000
/-! list(f(..)). -/
namespace GT
open PySem PySem.Spec PyProof.Rows L2 GenW
open Sem (wp)
/-- calm code behind a veil -/
theorem code_veil {M : Model} {A : Around} {c : Code} {R : Result → Shared → Prop} {G0 : Array GenState} {s : Shared} (h : PB G0 (fun s1 => codeAny M A c R s1) s) : codeAny (hm M) A c (fun r s' => PB G0 (R r) s') s := by
  obtain ⟨K, γ, v, h⟩ := h
  intro Γ p e hB
  obtain ⟨r, s1, hr, q⟩ := h Γ p e hB
  obtain ⟨G1, r1, a1, b1, c1, _⟩ := trp (K := K) hr rfl v.wf rfl s.gens v.rel
  refine ⟨r, gw s1 G1, r1, K, s1.gens, ⟨a1, b1, v.hK, Nat.le_trans v.size ?_, fun i y e u => ?_⟩, q⟩
  · rw [← v.rel.size]
    show _ ≤ G1.size
    rw [← a1.size]; exact c1.size
  · obtain ⟨e1, x, e2, e3⟩ := v.hid i y e u
    obtain ⟨e4, e5⟩ := c1.keep i x e2 e3
    exact ⟨e5.trans e1, x, e4, e3⟩
section
variable {P : Program} {w : World} {A : Around} {E : Value → Shared → Prop} {s : Shared}
theorem bi2_hm {B : Around} {R : Result → Shared → Prop} {id : String} {args : Args} {b : Builtin} (he : entryFor table id = some b)
    (h : wpAny (hm (model P w)) (B.under (.builtin id args)) (b args) (fun fin s' => match fin with | .done f => R (.ok f) s' | .again c' => c'.quiet = true ∧ codeAny (hm (model P w)) B c' R s') (fun e s' => R (.error e) s') s) : codeAny (hm (model P w)) B (.builtin id args) R s := by
  refine code_hm ?_
  show wpAny _ _ (match entryFor table id with | some b => b args | none => unsupported ((withoutEnding? id "#data").getD id)) _ _ s
  rw [he]
  exact h
theorem type_hm {T newId initId : String} {Bi : Builtin} {args : List Value} {Q Q₁ : Value → Shared → Prop} (ft : TypeCalled T newId initId)
    (hct : checkTypeCall T ⟨args, []⟩ = pure ()) (entryI : entryFor table initId = some Bi)
    (hnew : codeAny (hm (model P w)) A.in1 (.call (.builtin newId) ⟨.type T :: args, []⟩) (wants Q₁ E) s)
    (hnext : ∀ obj s₁, Q₁ obj s₁ → s₁.TypeIs obj T ∧ argsOk initId ⟨obj :: args, []⟩ ∧
      wpAny (hm (model P w)) A.in1.in1 (Bi ⟨obj :: args, []⟩)
        (fun fin s' => match fin with | .done f => wants (fun r s₂ => r = .none ∧ Q obj s₂) E (.ok f) s' | .again c' => c'.quiet = true ∧ codeAny (hm (model P w)) A.in1 c' (wants (fun r s₂ => r = .none ∧ Q obj s₂) E) s')
        (fun e s' => wants (fun r s₂ => r = .none ∧ Q obj s₂) E (.error e) s') s₁) :
    wpAny (hm (model P w)) A (call (.type T) args) Q E s := by
  obtain ⟨c, tl, hmro⟩ := ft.mro
  have hmade := ft.made
  have hsub := ft.sub
  refine wpAny_call (code_hm ?_)
  show wpAny _ _ (callAny (.type T) _) _ _ _
  refine wpAny_pure ⟨Code.quiet_builtin _ (by decide +kernel), bi2_hm F.entry_type_call ?_⟩
  rw [Around.under_plain (weight_type_call_type T args []) rfl]
  have h1 := ft.notType
  have h2 := ft.canCreate
  repeat (any_goals (first | assumption | wp_step))
  refine codeAny_mono hnew fun r s₁ hr => ?_
  cases r with
  | error e => exact hr
  | ok fl =>
    cases fl with
    | ret obj =>
      obtain ⟨hT, hok, hsi⟩ := hnext _ _ hr
      have hli := ft.init.lookup
      have hbi := ft.init.bind obj
      repeat (any_goals (first | assumption | wp_step))
      refine codeAny_mono (code_hm (R := wants (fun r s₂ => r = .none ∧ Q obj s₂) E) ?_) fun r₂ s₂ hr₂ => ?_
      · show wpAny _ A.in1.in1 (checkBuiltinCall initId ⟨obj :: args, []⟩ >>= fun _ => again (.builtin initId ⟨obj :: args, []⟩)) _ _ s₁
        exact wpAny_bind (ft.init.check _ _ _ _ _ _ _ _ hT hok (wpAny_pure ⟨plainId_quiet ft.init.plain _, bi_hm ft.init.plain entryI hsi⟩))
      · cases r₂ with
        | error e => exact hr₂
        | ok fl₂ =>
          cases fl₂ with
          | ret r =>
            obtain ⟨rfl, hq⟩ := hr₂
            repeat (any_goals (first | assumption | wp_step))
          | _ => exact hr₂.elim
    | _ => exact hr.elim
theorem stack_hm {R : Result → Shared → Prop} {id : String} {args : Args} {b : Builtin} {k : List (Code × Pos) → Sem PySem.Fin} (hb : entryFor table id = some b) (hk : b args = stack >>= k)
    (h : ∀ p st, wpAny (hm (model P w)) (A.under (.builtin id args)) (k ((.builtin id args, p) :: st)) (fun fin s' => match fin with | .done f => R (.ok f) s' | .again c' => c'.quiet = true ∧ codeAny (hm (model P w)) A c' R s') (fun e s' => R (.error e) s') s) : codeAny (hm (model P w)) A (.builtin id args) R s := fun Γ p hc hΓ => by
  rw [wpCode_iff_wp, hc]
  have hden : (hm (model P w)).den (.builtin id args) = tau (dOf (.builtin id args)) (stack >>= k) := by
    show tau _ (match entryFor table id with | some b => b args | none => unsupported ((withoutEnding? id "#data").getD id)) = _
    rw [hb]; show tau _ (b args) = _; rw [hk]
  rw [hden, wp_tau]
  show Sem.wp _ Γ (Sem.bind stack k) _ _ p s
  unfold stack
  rw [Sem.wp_bind, Sem.wp_stack]
  have h0 := h p Γ.below Γ p (hc ▸ hΓ.in)
  rw [← hc] at h0
  show Sem.wp _ Γ (k ((Γ.code, p) :: Γ.below)) _ _ p s
  refine Sem.wp_mono _ Γ _ (fun fin p' s' h' => ?_) (fun _ _ _ h' => h') p s h0
  cases fin with
  | done f => exact h'
  | again c' => exact ⟨h'.1, h'.2 (Γ.goto c') p' rfl (hΓ.goto c')⟩
theorem list_new_hm (a : Value) {Q₁ : Value → Shared → Prop} (h : Q₁ (.ref s.heap.objs.size) { s with heap := s.heap.push { cls := .type "list", data := .seq #[] } }) :
    codeAny (hm (model P w)) A (.call (.builtin "list.__new__") ⟨[.type "list", a], []⟩) (wants Q₁ E) s := by
  refine code_hm ?_
  show wpAny _ A.in1 (do checkBuiltinCall "list.__new__" ⟨[.type "list", a], []⟩; again (.builtin "list.__new__" ⟨[.type "list", a], []⟩)) _ _ s
  refine wpAny_bind (wpAny_of_eq (F.newCall_list_1 a) (wpAny_pure ⟨plainId_quiet F.plain_list_new _, stack_hm F.entry_list_new rfl fun p st => ?_⟩))
  rw [Around.under_plainId F.plain_list_new _]
  have hsub := sub_list_self
  have hown := owner_list_new
  obtain ⟨hp, g, d, tk, os⟩ := s
  simp only [hown]
  wp_walk
  exact h
end
section
variable {X : Cx} {k : Nat} {f : Addr} {fd : FuncData} {ps : List Str} {sp : GSp} {dvs : List V} {ds : List Value} {e : Expr} {es : List Expr} {t : TA} {x : Str} {p pos p0 pos0 : Pos}
theorem ldb_m {E : Value → Shared → Prop} {pins : List (Addr × Obj)} {s : Shared} {σ : L2.St} {H : Hp} {x : Str} {u : Value} {pos : Pos} {Q : Value → Shared → Prop} (I : IM X pins σ H s) (hg : Gl X x) (hm : X.mg x = none) (hv : bootBuiltins x = some u) (h : Q u s)
    (hn : x ≠ "__name__" := by decide) (hd : (x == ("__debug__" : Str)) = false := by decide) : wpAny (MM X) X.A (eval (.Name x pos) X.env) Q E s := by
  obtain ⟨mb, h1, h2⟩ := I.inv.mod.blt
  exact Calls.Name_function_global I.inv.ok.kind hg (Calls.loadGlobal_builtin (by rw [I.inv.ok.glob]; exact I.inv.mod.glob.keeps I.inv.bk) hm (by rw [I.inv.ok.blt]; exact h1.keeps I.inv.bk) ((h2 x hn).trans hv) h) hd
/-- a list that is new -/
theorem im_list {pins : List (Addr × Obj)} {σ : L2.St} {H : Hp} {z : Shared} {S : Addr} {acc : Array Value} {c : Nat} {xs : List V} (I : IM X pins σ H z) (fS : FpOk X pins H S) (e : z.heap.get? S = some (lstObj acc c)) (rv : Vals xs acc.toList) (hz : xs.length ≤ sizeLine) : IM X pins σ (upd H S (.lst xs)) z := by
  obtain ⟨f0, f1, f2, f3, f4, f5⟩ := fS
  have J := I.inv
  refine ⟨?_, I.wf⟩
  have neS : ∀ b u, H b = some u → b ≠ S := fun b u q => ne_of_none q f0
  refine ⟨J.ok, J.os, J.bare, ⟨J.base.keep, J.base.slot, fun b o q n hx => ?_, J.base.there, fun b xs q => ?_, fun b o y q => ?_, fun b qs q => ?_⟩, J.loc, J.cell, by rw [upd_ne (Ne.symm f1)]; exact J.free, fun x c q => ?_, fun p hp => ?_, fun b u q => ?_, J.len⟩
  · have h1 := J.base.free b o q n hx
    by_cases hb : b = S
    · subst hb
      rcases f3 with z | z
      · exact absurd z hx
      · exact absurd (Heap.lt_size q) (Nat.not_lt.mpr z)
    · rw [upd_ne hb]; exact h1
  · have q2 := J.base.tups b xs q
    rw [upd_ne (neS b _ q2)]; exact q2
  · have q2 := J.base.frzs b o y q
    rw [upd_ne (neS b _ q2)]; exact q2
  · obtain ⟨more, q2⟩ := J.base.tbls b qs q
    exact ⟨more, by rw [upd_ne (neS b _ q2)]; exact q2⟩
  · rw [upd_ne (f4 x c q)]; exact J.freeC x c q
  · obtain ⟨h1, h2, r⟩ := J.pin p hp
    exact ⟨h1, by rw [upd_ne (f5 p hp)]; exact h2, r⟩
  · by_cases hb : b = S
    · subst hb
      rw [upd_same] at q
      cases q
      exact ⟨hz, acc.toList, c, rv, by simpa using e⟩
    · rw [upd_ne hb] at q
      exact (J.hok b u q).stay (fun _ _ _ y => y) (fun c y => by rw [upd_ne (neS c _ y)]; exact y) fun c xs y => by rw [upd_ne (neS c _ y)]; exact y
/-- list(f(..)) -/
def tListG (t : TA) (sp : GSp) (dvs : List V) : TE := fun σ H Q => t σ H fun vs H2 => ∃ Hg xs, (Dk H2 → Sub H2 Hg) ∧ sp (vs ++ dvs) Hg xs ∧ xs.length ≤ sizeLine ∧ ∀ S, H2 S = none → Q (.ref S) (upd H2 S (.lst xs))
theorem room4 {k : Nat} {A : Around} (r : Room (k + 1) A) : Room k A.in1.in1.in1 := room3 r
theorem e_listG (D : GenD X.prog X.w X.K X.mg X.base k f fd ps sp) (hG : X.A.guards = some []) (hr : Room (k + 1) X.A) (hgl : Gl X "list") (hml : X.mg "list" = none) (hg : Gl X x) (hm : X.mg x = some (.ref f)) (hk : PySem.W.keepIn X.K (.ref f) = true) (hb : Binds X.K fd ps ds) (hd : Vals dvs ds) (ha : PA X (e :: es) t)
    (hs : starEach [.Call (.Name x p) (e :: es) [] pos] X.env = (false, eval (.Call (.Name x p) (e :: es) [] pos) X.env) :: starEach [] X.env := by rfl) (hplain : (backTo pos0 (starEach [] X.env)).any (·.1) = false := by rfl)
    (hdb : (x == ("__debug__" : Str)) = false := by decide) (he : starEach (e :: es) X.env = (false, eval e X.env) :: starEach es X.env := by rfl) (hpl : (backTo pos (starEach es X.env)).any (·.1) = false := by rfl) :
    PEm X (.Call (.Name "list" p0) [.Call (.Name x p) (e :: es) [] pos] [] pos0) (tListG t sp dvs) := by
  refine ⟨fun pins s σ H Q I h => ?_⟩
  refine wpAny_Call_Name_kw (ldb_m I hgl hml (u := .type "list") (by decide +kernel) ?_)
  refine PyProof.Rows.callWith_type1 ?_ hs hplain
  rw [hs]
  refine Calls.spliced_cons (wpAny_mono (gen_call D hr.depth hg hm hk hb hd (a_m ha) I h (fun vs H1 ⟨_, _, _, q, _⟩ => D.len _ _ _ q) hdb he hpl) (fun v z y => ?_) fun e z y => y)
  obtain ⟨s2, vs, us, H2, a, g, bd, qual, sc, cd, rfl, I2, c2, _, rv, ⟨Hg, xs, sub, hsp, hz, q⟩, B, ok⟩ := y
  have sub := sub (dk_of I2.inv.hok)
  have C := con_born (N := 0) (pn := []) (A := X.A.in1.in1.in1) (G0 := s.gens) I2 c2 B ok sub rv hsp hG (room3 hr) I2.inv.ok.frames
  refine Calls.spliced_nil ?_
  have alt : a < z.heap.objs.size := let ⟨_, _, _, ho, _⟩ := C.hold.isg; Heap.lt_size ho
  have hSa : z.heap.objs.size ≠ a := Nat.ne_of_gt alt
  have fS : FpOk X pins H2 z.heap.objs.size := C.im.inv.fpOk (Nat.le_refl _) (C.im.inv.hok.fresh (Nat.le_refl _))
  have xS : z.heap.objs.size ∉ frs X.stack := fun h => by
    obtain ⟨_, o, e, _⟩ := C.im.inv.env0.funs.mem h
    exact Nat.lt_irrefl _ (Heap.lt_size e)
  have nSF : z.heap.objs.size ∉ [s2.heap.objs.size] := fun h => by
    exact Nat.ne_of_gt (Nat.lt_trans B.old alt) (List.mem_singleton.mp h)
  have nS : z.heap.objs.size ∉ a :: [s2.heap.objs.size] := fun h => (List.mem_cons.mp h).elim hSa nSF
  refine type_hm (Q₁ := fun obj s₁ => obj = .ref z.heap.objs.size ∧ s₁ = { z with heap := z.heap.push { cls := .type "list", data := .seq #[] } }) F.called_list (F.typeCall_list_1 _) F.entry_list_init (list_new_hm _ ⟨rfl, rfl⟩) fun obj s₁ h₁ => ?_
  obtain ⟨rfl, rfl⟩ := h₁
  have hS : (z.heap.push { cls := .type "list", data := .seq #[] }).get? z.heap.objs.size = some { cls := .type "list", data := .seq #[] } := Heap.get?_push_size _ rfl
  refine ⟨⟨_, hS, rfl⟩, F.args_list_init_2 _ _, ?_⟩
  have push : ∀ (o : Obj) b, b ≠ z.heap.objs.size → (z.heap.push o).get? b = z.heap.get? b := fun o b hb => Heap.get?_push_ne _ _ _ hb
  have upd' : ∀ (h : Heap) (f : Obj → Obj) b, b ≠ z.heap.objs.size → (h.update z.heap.objs.size f).get? b = h.get? b := fun h f b hb => Heap.get?_update_other _ _ (Ne.symm hb)
  have ty : ∀ (h : Heap), (∀ b, b ≠ z.heap.objs.size → h.get? b = z.heap.get? b) → IsG h a g := fun h k => gen_same C.hold.isg (k a (Ne.symm hSa))
  have k1 := push { cls := .type "list", data := .seq #[] }
  show wpAny _ X.A.in1.in1 (do let old ← Builtin.List.listItems (.ref z.heap.objs.size); Builtin.List.listUpdate (.ref z.heap.objs.size) (fun _ => #[]); letGo old.toList.reverse; Builtin.List.listExtendWith (.ref z.heap.objs.size) (.ref a) .none) _ _ _
  refine wpAny_bind ?_
  unfold Builtin.List.listItems
  refine wpAny_bind (wpAny_seqItems hS rfl (wpAny_pure ?_))
  show wpAny _ X.A.in1.in1 (updateSeq z.heap.objs.size (fun _ => #[]) >>= fun _ => letGo (#[] : Array Value).toList.reverse >>= fun _ => Builtin.List.listExtendWith (.ref z.heap.objs.size) (.ref a) .none) _ _ _
  refine wpAny_bind (wpAny_updateSeq hS rfl ?_)
  have hS2 := Heap.get?_update_self (Obj.mapSeq (fun _ => (#[] : Array Value))) hS rfl
  have k2 : ∀ b, b ≠ z.heap.objs.size → _ := fun b hb => (upd' _ (Obj.mapSeq (fun _ => (#[] : Array Value))) b hb).trans (k1 b hb)
  refine wpAny_bind (wpAny_letGo ?_)
  unfold Builtin.List.listExtendWith
  refine wpAny_bind (wpAny_typeOf (IsG.ty (s := { z with heap := _ }) (ty _ k2)) ?_)
  have h1 : Builtin.List.listSameRef (.ref z.heap.objs.size) (.ref a) = false := by simp [Builtin.List.listSameRef, hSa]
  have h2 : (Value.type "generator" == Value.type "list") = false := by decide
  have h3 : (Value.type "generator" == Value.type "tuple") = false := by decide
  simp only [h1, h2, h3, Bool.or_false, Bool.false_eq_true, if_false]
  refine wpAny_bind (iter_g (s := { z with heap := _ }) (ty _ k2) ?_)
  refine wpAny_bind (wpAny_holding ?_)
  unfold Builtin.List.listLengthHint
  refine wpAny_bind (wpAny_specialOf (IsG.ty (s := { z with heap := _ }) (ty _ k2)) PySem.F.gen_no_len ?_)
  show wpAny _ X.A.in1.in1 (specialOf (Value.ref a) (Str.ofString "__length_hint__") >>= _) _ _ _
  refine wpAny_bind (wpAny_specialOf (IsG.ty (s := { z with heap := _ }) (ty _ k2)) PySem.F.gen_no_hint ?_)
  refine wpAny_pure ?_
  show wpAny _ X.A.in1.in1 (rule "list.extend.makes-room" >>= fun _ => Builtin.List.listTouch (.ref z.heap.objs.size) >>= fun _ =>
    again (.builtin "list.extend.loop" ⟨[.ref z.heap.objs.size, .ref a, .none], []⟩)) _ _ _
  refine wpAny_bind (wpAny_rule ?_)
  refine wpAny_bind ?_
  show wpAny _ X.A.in1.in1 (updateSeq z.heap.objs.size (·.push .none) >>= fun _ => updateSeq z.heap.objs.size (·.pop)) _ _ _
  refine wpAny_bind (wpAny_updateSeq hS2 rfl ?_)
  have hS3 := Heap.get?_update_self (Obj.mapSeq (·.push Value.none)) hS2 rfl
  refine wpAny_updateSeq (hz := by seq_fits) hS3 rfl ?_
  have hS4 := Heap.get?_update_self (Obj.mapSeq (·.pop)) hS3 rfl
  refine wpAny_pure ⟨plainId_quiet PySem.F.plain_extend_loop _, ?_⟩
  refine drain_hm (B := X.A.in1) hr.hd hr.depth xs [] ⟨[s2.heap.objs.size], []⟩ _ _ _ (con_turn (t' := z.toks) C fS nS (fun b hb => (upd' _ _ b hb).trans ((upd' _ _ b hb).trans (k2 b hb))) (by rw [upd_size, upd_size, upd_size, Heap.size_push]; exact Nat.le_succ _)) hS4 .nil (by simpa using hz) nSF fS xS fun z' acc' c' J cal e r => ⟨rfl, ?_⟩
  exact ⟨.ref z.heap.objs.size, _, im_list J fS e (by simpa using r) hz, rfl, q _ (C.im.inv.hok.fresh (Nat.le_refl _)), cal.cal⟩
end
end GT

set_option Elab.async false
set_option linter.all false
set_option maxRecDepth 100000
set_option maxHeartbeats 2000000
/-! for x in f(..): a generator in the hands of a loop. -/
namespace GT
open PySem PySem.Spec PyProof.Rows L2 GenW
open Sem (wp)
/-- what a loop's turns may do to the heap -/
def Held (Hg H1 H' : Hp) : Prop := (∀ b u, Hg b = some u → H' b = some u) ∧ ∀ b u, H' b = some u → (∃ u1, H1 b = some u1) ∨ NCell u
/-- the generator is held on while other code runs -/
theorem con_keep {N : Nat} {pn qn : Pn} {X : Cx} {Hg : Hp} {pins pins' : Pn} {σ σ' : L2.St} {H H' H1 : Hp} {G0 : Array GenState} {L : Addr} {A : Around} {xs : List V} {F : Foot} {a : Addr} {g : Nat} {s z : Shared} (C : Con N pn X Hg pins σ H G0 L A xs F a g s) (J : IM X pins' σ' H' z) (sb : Sb pn qn)
    (own : ∀ b ∈ a :: F.objs, ∀ o, s.heap.get? b = some o → (∀ v, o.data ≠ .cell v) → z.heap.get? b = some o) (cal : CalX N qn s.gens z.gens) (size : s.heap.objs.size ≤ z.heap.objs.size) (slp : ∃ y, s.gens[g]? = some y ∧ Sus y)
    (hH : Held Hg H1 H') (h1 : ∀ b u, H1 b = some u → b < L) (fp : ∀ b ∈ a :: F.objs, H' b = none ∧ ∀ p ∈ pins', p.1 ≠ b) : Con N qn X Hg pins' σ' H' G0 L A xs F a g z := by
  have fpo : ∀ b ∈ a :: F.objs, FpOk X pins' H' b := fun b hb => by
    obtain ⟨f0, f1, f2, f3, f4, f5⟩ : FpOk X pins H b := by
      rcases List.mem_cons.mp hb with q | q
      · rw [q]; exact C.aF
      · exact C.fp b q
    exact ⟨(fp b hb).1, f1, f2, f3, f4, fun p hp => (List.mem_append.mp hp).elim (fun q => f5 p (List.mem_append_left _ q)) fun q => (fp b hb).2 p q⟩
  obtain ⟨gs, e, hst, rdy⟩ := C.hold.gen
  obtain ⟨y, e2, u⟩ := slp
  rw [e] at e2
  cases e2
  have km : ∀ {y : GenState}, Kby F.objs s.heap y → Kby F.objs z.heap y := fun q => q.mono fun b hb => ⟨hb, fun o e n => ⟨o, own b (List.mem_cons_of_mem _ hb) o e (gen_none n), n⟩⟩
  refine ⟨J, ⟨gen_same C.hold.isg ?_, ⟨gs, cal.keep g gs e u, hst, fun z' lt => rdy z' ⟨lt.os.trans (J.inv.os.trans C.im.inv.os.symm), lt.wf, fun b hb o e n => lt.own b hb o (own b (List.mem_cons_of_mem _ hb) o e n) n, fun i hi => ?_, Nat.le_trans size lt.size, Nat.le_trans cal.size lt.gsize, lt.bs, lt.funs, lt.hok⟩⟩, C.hold.gF, C.hold.aF, Nat.lt_of_lt_of_le C.hold.gS cal.size⟩,
    ⟨Nat.le_trans C.cal.size cal.size, fun i y e u => cal.keep i y (C.cal.keep i y e u) u, fun i y e => ?_, C.cal.gN, C.cal.fN⟩, fun b hb => fpo b (List.mem_cons_of_mem _ hb), C.sub.more hH.1, C.aX, fpo a List.mem_cons_self, C.cl, C.h0, fun b u e => ?_, fun i hi => ?_, let ⟨y', e', q⟩ := C.kbg; ⟨y', cal.keep g y' e' (by rw [e] at e'; cases e'; exact u), km q⟩, fun b hb => let ⟨o, e, n⟩ := C.there b hb; ⟨o, own b (List.mem_cons_of_mem _ hb) o e n, n⟩⟩
  · obtain ⟨o, _, _, ho, _, hd, _⟩ := C.hold.isg
    exact (own a List.mem_cons_self o ho (fun v z => by rw [hd] at z; cases z)).trans ho.symm
  · obtain ⟨y, e3, u3, _⟩ := C.sus i hi
    exact (lt.gens i hi).trans ((cal.keep i y e3 u3).trans e3.symm)
  · rcases cal.new i y e with q | q
    · exact (C.cal.new i y q).imp id fun r => r.imp (fun k => k.mono sb (Nat.le_refl _)) id
    · exact .inr (.inl q)
  · rcases hH.2 b u e with ⟨u1, q⟩ | q
    · exact .inl (h1 b u1 q)
    · exact .inr q
  · obtain ⟨y, e3, u3, k3⟩ := C.sus i hi
    exact ⟨y, cal.keep i y e3 u3, u3, km k3⟩
def tForG (t : TA) (sp : GSp) (dvs : List V) (g : TG) (tb : TS) : TS := fun D σ H => t σ H fun vs H1 => ∃ Hg xs, (Dk H1 → Sub H1 Hg) ∧ sp (vs ++ dvs) Hg xs ∧ ∃ W : Nat → L2.St → Hp → Prop, W 0 σ H1 ∧ (∀ i σ' H', W i σ' H' → Held Hg H1 H') ∧ (∀ σ' H', W xs.length σ' H' → D.nx σ' H') ∧
  ∀ i x σ' H', xs[i]? = some x → W i σ' H' → g x σ' H' fun σ2 H2 => tb ⟨W (i + 1), fun _ _ => False, fun _ _ => False, W (i + 1)⟩ σ2 H2
section
variable {X : Cx} {k : Nat} {f : Addr} {fd : FuncData} {ps : List Str} {sp : GSp} {dvs : List V} {ds : List Value} {e : Expr} {es : List Expr} {t : TA} {x : Str} {p pos pos0 : Pos} {tg : Expr} {body : List Stmt} {g : TG} {tb : TS}
theorem pins_mem {fp : List Addr} {h : Heap} {b : Addr} {o : Obj} (hb : b ∈ fp) (e : h.get? b = some o) : (b, o) ∈ pinsAt fp h := mem_pinsAt hb e
theorem xs_forG (hp : PassesOwn (model X.prog X.w) X.A X.env X.xe) (D : GenD X.prog X.w X.K X.mg X.base k f fd ps sp) (hG : X.A.guards = some []) (hr : Room (k + 1) X.A) (hg : Gl X x) (hm : X.mg x = some (.ref f)) (hk : PySem.W.keepIn X.K (.ref f) = true) (hb : Binds X.K fd ps ds) (hd : Vals dvs ds) (ha : PA X (e :: es) t)
    (hgg : PG X tg g) (hbb : PBx X body tb) (hs : ∀ v, foldedSetIterable (.Call (.Name x p) (e :: es) [] pos) X.env v = pure v := by intro _; rfl)
    (hdb : (x == ("__debug__" : Str)) = false := by decide) (he : starEach (e :: es) X.env = (false, eval e X.env) :: starEach es X.env := by rfl) (hpl : (backTo pos (starEach es X.env)).any (·.1) = false := by rfl) :
    PSx X (.For tg (.Call (.Name x p) (e :: es) [] pos) body [] pos0) (tForG t sp dvs g tb) := by
  refine ⟨fun pins s σ H D' I h => ?_⟩
  have po := pass_x hp
  refine wpAny_For (wpAny_mono (gen_call D hr.depth hg hm hk hb hd (a_m ha) I h (fun vs H1 ⟨_, _, _, q, _⟩ => D.len _ _ _ q) hdb he hpl) (fun v z y => ?_) fun _ _ y => XM.x y) hs
  obtain ⟨s1, vs, us, H1, a, gn, bd, qual, sc, cd, rfl, I1, c1, hsz, rv, ⟨Hg, xs, sub, hsp, W, w0, held, wend, step⟩, B, ok⟩ := y
  have sub := sub (dk_of I1.inv.hok)
  have C := con_born (A := X.A.in1) (N := s.heap.objs.size) (pn := pins) (G0 := s.gens) I1 c1 B ok sub rv hsp hG ⟨hr.hd, by have := hr.dp; show X.A.depth + 3 * k + 5 < _; omega, by have := hr.un; show X.A.units + 1 + 16 * k + 200 < _; omega⟩ I1.inv.ok.frames
  refine iter_g C.hold.isg ?_
  have hH1 : ∀ b u, H1 b = some u → b < s1.heap.objs.size := fun b u q => I1.inv.hok.lt q
  have zs : s1.heap.objs.size ≤ z.heap.objs.size := by rw [B.size]; exact Nat.le_of_lt (Nat.lt_succ_of_lt B.old)
  refine for_hm (fun n y => ∃ i pn F σ' H', i + n = xs.length ∧ Sb pins pn ∧ (∀ p ∈ pn, p ∈ pins ∨ s.heap.objs.size ≤ p.1) ∧ s.heap.objs.size ≤ y.heap.objs.size ∧ Con s.heap.objs.size pn X Hg pn σ' H' s.gens s1.heap.objs.size X.A.in1 (xs.drop i) F a gn y ∧ W i σ' H') ?_ xs.length
    ⟨0, pins, _, σ, H1, Nat.zero_add _, fun _ h => h, fun _ h => .inl h, Nat.le_trans hsz zs, C, w0⟩
  rintro n s3 ⟨i, pn, F, σ3, H3, hn, sb3, fr3, sz3, C3, w3⟩
  refine any_sz (con_next C3 hr.hd hr.depth (fun ex z3 J3 cal3 _ hz => ?_) fun x0 rest ex v z3 F' rx C' kp nO szz slp hz => ?_)
  · have hi : i = xs.length := by
      have := List.drop_eq_nil_iff.mp ex
      omega
    subst hi
    exact ⟨pn, ⟨sb3, fr3, Nat.le_trans sz3 hz, cal3⟩, σ3, H3, J3, wend σ3 H3 w3⟩
  · have hx : xs[i]? = some x0 := by
      have q := congrArg List.head? ex
      rw [List.head?_drop] at q
      exact q
    have hrest : rest = xs.drop (i + 1) := by
      have q := congrArg List.tail ex
      rw [List.tail_drop] at q
      exact q.symm
    have hlt : i < xs.length := (List.getElem?_eq_some_iff.mp hx).1
    obtain ⟨og, nm, qn, hog, hcg, hdg, _⟩ := id C'.hold.isg
    refine wpAny_passesOwn po (go_of hog hcg hdg (by decide) ?_)
    -- its own are pinned
    classical
    let fpl : List Addr := a :: F'.objs
    let fpn : List Addr := fpl.filter fun b => decide (∃ o, z3.heap.get? b = some o ∧ ∀ v, o.data ≠ .cell v)
    have fpo : ∀ b ∈ fpl, FpOk X pn H3 b := fun b hb => (List.mem_cons.mp hb).elim (fun q => by rw [q]; exact C'.aF) fun q => C'.fp b q
    have I5 : IM X (pn ++ pinsAt fpn z3.heap) σ3 H3 z3 := ⟨L2.Inv.pinned (s := gw z3 #[]) C'.im.inv (fun b hb => fpo b (List.mem_filter.mp hb).1) fun b hb => of_decide_eq_true (List.mem_filter.mp hb).2, C'.im.wf⟩
    refine wpAny_passesOwn po (any_sz (wpAny_mono (asg_m hgg I5 rx (step i x0 σ3 H3 hx w3)) (fun _ s6 ⟨σ6, H6, I6, q6, c6⟩ hz6 => ?_) fun _ _ y => XM.x y))
    refine wpAny_passesOwn po (nxt (hbb.run _ s6 σ6 H6 _ I6 q6) fun fl s7 ⟨rn, k7, q7⟩ => ?_)
    have top : ∀ b ∈ fpl, b < z3.heap.objs.size := fun b hb => (List.mem_cons.mp hb).elim (fun q => by rw [q]; exact Heap.lt_size hog) fun q => let ⟨_, e, _⟩ := C'.there b q; Heap.lt_size e
    have np : ∀ p ∈ pn, p.1 ∉ fpl := fun p hp hb => (fpo p.1 hb).2.2.2.2.2 p (List.mem_append_right _ hp) rfl
    let qn : Pn := rn.filter fun p => !decide (p.1 ∈ fpl)
    have sbq : Sb pn qn := fun p hp => List.mem_filter.mpr ⟨k7.sb p (List.mem_append_left _ hp), by simpa using np p hp⟩
    have sub6 : s.heap.objs.size ≤ s6.heap.objs.size := Nat.le_trans sz3 (Nat.le_trans hz hz6)
    have inq : ∀ p ∈ rn, p ∈ pn ∨ p.1 ∈ fpl ∨ s6.heap.objs.size ≤ p.1 := fun p hp => by
      rcases k7.fr p hp with q | q
      · rcases List.mem_append.mp q with q | q
        · exact .inl q
        · exact .inr (.inl (List.mem_filter.mp (of_pinsAt q).1).1)
      · exact .inr (.inr q)
    have cal7 : CalX s.heap.objs.size qn z3.gens s7.gens := by
      refine (CalX.of (N := s.heap.objs.size) (pn := qn) c6).trans ⟨k7.cal.size, k7.cal.keep, fun j y e => (k7.cal.new j y e).imp id fun h k' l c' p fs' cl e' => ?_⟩ (fun _ h => h)
      obtain ⟨h1, h2, h3⟩ := h k' l c' p fs' cl e'
      refine ⟨h1, h2, fun m => ?_⟩
      obtain ⟨gd, a', o, e1, e0, e2, e3⟩ := h3 m
      have na : a' ∉ fpl := fun ha => absurd (top a' ha) (Nat.not_lt.mpr (Nat.le_trans hz6 e0))
      exact ⟨gd, a', o, e1, Nat.le_trans sub6 e0, List.mem_filter.mpr ⟨e2, by simpa using na⟩, e3⟩
    have again : ∀ {σ7 : L2.St} {H7 : Hp}, IM X rn σ7 H7 s7 → W (i + 1) σ7 H7 → ∃ m, m < n ∧ ∃ i pn F σ' H', i + m = xs.length ∧ Sb pins pn ∧ (∀ p ∈ pn, p ∈ pins ∨ s.heap.objs.size ≤ p.1) ∧ s.heap.objs.size ≤ s7.heap.objs.size ∧ Con s.heap.objs.size pn X Hg pn σ' H' s.gens s1.heap.objs.size X.A.in1 (xs.drop i) F a gn s7 ∧ W i σ' H' := fun {σ7 H7} I7 w7 => by
      have there : ∀ b ∈ fpl, ∀ o, z3.heap.get? b = some o → (∀ v, o.data ≠ .cell v) → s7.heap.get? b = some o := fun b hb o e nc =>
        (I7.inv.pin (b, o) (List.mem_append_right _ (k7.sb _ (List.mem_append_right _ (mem_pinsAt (List.mem_filter.mpr ⟨hb, decide_eq_true ⟨o, e, nc⟩⟩) e))))).1
      have J7 : IM X qn σ7 H7 s7 := ⟨I7.inv.pins_of fun p hp => I7.inv.pin p (List.mem_append_right _ (List.mem_filter.mp hp).1), I7.wf⟩
      have none7 : ∀ b ∈ fpl, H7 b = none := fun b hb => by
        obtain ⟨o, e, nc⟩ : ∃ o, z3.heap.get? b = some o ∧ ∀ v, o.data ≠ .cell v := by
          rcases List.mem_cons.mp hb with q | q
          · rw [q]; exact ⟨og, hog, fun v z => by rw [hdg] at z; cases z⟩
          · exact C'.there b q
        exact (I7.inv.pin (b, o) (List.mem_append_right _ (k7.sb _ (List.mem_append_right _ (mem_pinsAt (List.mem_filter.mpr ⟨hb, decide_eq_true ⟨o, e, nc⟩⟩) e))))).2.1
      refine ⟨n - 1, by omega, i + 1, qn, F', σ7, H7, by omega, fun p hp => sbq p (sb3 p hp), fun p hp => ?_, Nat.le_trans sub6 k7.sz, ?_, w7⟩
      · obtain ⟨h1, h2⟩ := List.mem_filter.mp hp
        rcases inq p h1 with q | q | q
        · exact fr3 p q
        · have : p.1 ∉ fpl := by simpa using h2
          exact absurd q this
        · exact .inr (Nat.le_trans sub6 q)
      · rw [hrest] at C'
        exact con_keep C' J7 sbq there cal7 (Nat.le_trans hz6 k7.sz) slp (held _ _ _ w7) hH1 fun b hb => ⟨none7 b hb, fun p hp z => by
          have := (List.mem_filter.mp hp).2
          have : p.1 ∉ fpl := by simpa using this
          exact this (z ▸ hb)⟩
    match fl, q7 with
    | .next, ⟨σ7, H7, I7, n7⟩ => exact again I7 n7
    | .cont, ⟨σ7, H7, I7, n7⟩ => exact again I7 n7
    | .brk, ⟨_, _, _, q7⟩ => exact q7.elim
    | .ret v, ⟨_, _, _, _, _, q7⟩ => exact q7.elim
end
end GT

set_option Elab.async false
set_option linter.all false
set_option maxRecDepth 100000
set_option maxHeartbeats 2000000
/-! zip(range(n), f(..)). -/
namespace GT
open PySem PySem.Spec PyProof.Rows L2 GenW
open Sem (wp)
section
variable {M : Model} {A : Around} {E : Value → Shared → Prop} {s : Shared}
theorem setf {a : Addr} {cls : Value} {vs : Array Value} {k : Nat} {x : Value} {Q : Unit → Shared → Prop} (ho : s.heap.get? a = some { cls := cls, dict := none, data := .fields vs, slots := #[] }) (hk : k < vs.size)
    (h : ∀ h', h'.get? a = some { cls := cls, dict := none, data := .fields (vs.setIfInBounds k x), slots := #[] } → Heap.SameBut a s.heap h' → Q () { s with heap := h' }) : wpAny M A (setField (.ref a) k x) Q E s :=
  wpAny_setField ho rfl hk (h _ (Heap.get?_update_self _ ho rfl) (Heap.SameBut.update ..))
theorem upair {T : Addr} {a b x : Value} {k : Nat} {Q : Unit → Shared → Prop} (hT : IsPair s.heap T a b)
    (h : ∀ h', h'.get? T = some { cls := .type "tuple", data := .seq ((#[a, b] : Array Value).setIfInBounds k x) } → Heap.SameBut T s.heap h' → Q () { s with heap := h' }) : wpAny M A (updateSeq T (·.setIfInBounds k x)) Q E s := by
  refine wpAny_updateSeq hT rfl (h _ ?_ (Heap.SameBut.update ..))
  rw [Heap.get?_update_self _ hT rfl]
  simp [Obj.mapSeq]
/-- a turn of zip, whatever its two iterators do -/
theorem zip_body {z TI TO i1 a : Addr} {p q : Value} {Q : Value → Shared → Prop} (hz : IsZip s.heap z TI TO .none) (hTI : IsPair s.heap TI (.ref i1) (.ref a)) (hTO : IsPair s.heap TO p q) (TIz : TI ≠ z) (TOz : TO ≠ z)
    (h1 : ∀ h₁, IsZip h₁ z TI TO .ellipsis → Heap.SameBut z s.heap h₁ → wpAny M A (Builtin.SmallTypes.nextOf (.ref i1))
      (fun x s1 => IsPair s1.heap TO p q ∧ ∀ h₃, IsPair h₃ TO x q → Heap.SameBut TO s1.heap h₃ → wpAny M A (Builtin.SmallTypes.nextOf (.ref a))
        (fun y s2 => IsPair s2.heap TO x q ∧ IsZip s2.heap z TI TO .ellipsis ∧ ∀ h₅, IsPair h₅ TO x y → Heap.SameBut TO s2.heap h₅ → ∀ h₈, IsZip h₈ z TI TO (rawInt h₅.objs.size) → IsPair h₈ h₅.objs.size x y → h₈.objs.size = h₅.objs.size + 1 → (∀ c, c ≠ z → c ≠ h₅.objs.size → h₈.get? c = h₅.get? c) → Q (.ref h₅.objs.size) { s2 with heap := h₈ })
        (fun e s2 => IsZip s2.heap z TI TO .ellipsis ∧ ∀ h', Heap.SameBut z s2.heap h' → E e { s2 with heap := h' }) { s1 with heap := h₃ })
      (fun e s1 => IsZip s1.heap z TI TO .ellipsis ∧ ∀ h', Heap.SameBut z s1.heap h' → E e { s1 with heap := h' }) { s with heap := h₁ }) :
    wpAny M A (Builtin.«zip.__next__» ⟨[.ref z], []⟩) (fun fin s' => ∃ v, fin = .done (.ret v) ∧ Q v s') E s := by
  show wpAny _ _ (field (.ref z) 2 >>= _) _ _ _
  refine wpAny_bind (wpAny_field hz rfl (x := .bool false) rfl ?_)
  show wpAny _ _ (field (.ref z) 3 >>= _) _ _ _
  refine wpAny_bind (wpAny_field hz rfl (x := .ref TI) rfl ?_)
  refine wpAny_bind (wpAny_seqItems hTI rfl ?_)
  show wpAny _ _ (Builtin.SmallTypes.ownedTupleIsFree (.ref z) >>= _) _ _ _
  refine wpAny_bind ?_
  unfold Builtin.SmallTypes.ownedTupleIsFree
  refine wpAny_bind (wpAny_field hz rfl (x := .none) rfl (wpAny_pure ?_))
  simp only [if_true]
  refine wpAny_bind (wpAny_rule ?_)
  refine wpAny_bind (wpAny_field hz rfl (x := .ref TO) rfl ?_)
  refine wpAny_bind (setf hz (by simp) fun h₁ hz₁ hs₁ => ?_)
  replace hz₁ : IsZip h₁ z TI TO .ellipsis := hz₁
  refine wpAny_bind ?_
  simp only [List.zipIdx_cons, List.zipIdx_nil, List.forIn_cons, List.forIn_nil]
  refine wpAny_bind (wpAny_bind (wpAny_onRaise ?_))
  show wpAny _ _ (Builtin.SmallTypes.nextOf (.ref i1) >>= _) _ _ _
  refine wpAny_bind (wpAny_mono (h1 h₁ hz₁ hs₁) (fun x s1 y1 => wpAny_pure ?_) fun e s1 ⟨y1, y2⟩ => setf y1 (by simp) fun h' _ hs => y2 h' hs)
  obtain ⟨hTO₂, y1⟩ := y1
  refine wpAny_bind (wpAny_seqItems hTO₂ rfl ?_)
  refine wpAny_bind (upair hTO₂ fun h₃ hTO₃ hs₃ => ?_)
  replace hTO₃ : IsPair h₃ TO x q := hTO₃
  refine wpAny_bind (wpAny_letGo (wpAny_pure ?_))
  refine wpAny_bind (wpAny_bind (wpAny_onRaise ?_))
  show wpAny _ _ (Builtin.SmallTypes.nextOf (.ref a) >>= _) _ _ _
  refine wpAny_bind (wpAny_mono (y1 h₃ hTO₃ hs₃) (fun y s2 y2 => wpAny_pure ?_) fun e s2 ⟨y1, y2⟩ => setf y1 (by simp) fun h' _ hs => y2 h' hs)
  obtain ⟨hTO₄, hz₄, y2⟩ := y2
  refine wpAny_bind (wpAny_seqItems hTO₄ rfl ?_)
  refine wpAny_bind (upair hTO₄ fun h₅ hTO₅ hs₅ => ?_)
  replace hTO₅ : IsPair h₅ TO x y := hTO₅
  refine wpAny_bind (wpAny_letGo (wpAny_pure (wpAny_pure ?_)))
  refine wpAny_bind (wpAny_seqItems hTO₅ rfl ?_)
  refine wpAny_bind (wpAny_newTuple ?_)
  have hz₅ : IsZip h₅ z TI TO .ellipsis := hs₅.extBut _ _ TOz.symm hz₄
  have hzlt : z < h₅.objs.size := Heap.lt_size hz₅
  show wpAny _ _ (Builtin.SmallTypes.ownedTupleHandOut (.ref z) (.ref h₅.objs.size) >>= _) _ _ _
  refine wpAny_bind ?_
  unfold Builtin.SmallTypes.ownedTupleHandOut
  have hz₆ : IsZip (h₅.push { cls := .type "tuple", data := .seq #[x, y] }) z TI TO .ellipsis := Heap.get?_push_of_some _ hz₅
  refine wpAny_bind (setf hz₆ (by simp) fun h₇ hz₇ hs₇ => ?_)
  replace hz₇ : IsZip h₇ z TI TO (rawInt h₅.objs.size) := hz₇
  refine setf hz₇ (by simp) fun h₈ hz₈ hs₈ => ?_
  replace hz₈ : IsZip h₈ z TI TO (rawInt h₅.objs.size) := hz₈
  have hT₈ : IsPair h₈ h₅.objs.size x y := hs₈.extBut _ _ (Nat.ne_of_gt hzlt) (hs₇.extBut _ _ (Nat.ne_of_gt hzlt) (Heap.get?_push_size _ rfl))
  have hz8 : h₈.objs.size = h₅.objs.size + 1 := by rw [hs₈.1, hs₇.1, Heap.size_push]
  refine wpAny_pure ⟨_, rfl, ?_⟩
  exact y2 h₅ hTO₅ hs₅ h₈ hz₈ hT₈ hz8 fun c c1 c2 => (hs₈.2 c c1).trans ((hs₇.2 c c1).trans (Heap.get?_push_ne _ _ _ c2))
/-- range's iterator -/
theorem rbody_item {it : Addr} {x left step : Int} {Q : Value → Shared → Prop} (hit : IsRangeIter s.heap it x left step) (hl : 0 < left)
    (hQ : ∀ h' tk, IsRangeIter h' it (x + step) (left - 1) step → Heap.SameBut it s.heap h' → Q (.int x s.toks) { s with heap := h', toks := tk }) : wpAny M A (Builtin.«range_iterator.__next__» ⟨[.ref it], []⟩) (fun fin s' => ∃ v, fin = .done (.ret v) ∧ Q v s') E s := by
  show wpAny _ _ (field (.ref it) 0 >>= _) _ _ s
  refine wpAny_bind (wpAny_field hit rfl (x := rawInt x) rfl ?_)
  show wpAny _ _ (field (.ref it) 1 >>= _) _ _ s
  refine wpAny_bind (wpAny_field hit rfl (x := rawInt left) rfl ?_)
  show wpAny _ _ (field (.ref it) 2 >>= _) _ _ s
  refine wpAny_bind (wpAny_field hit rfl (x := rawInt step) rfl ?_)
  show wpAny _ _ (if left ≤ 0 then _ else _) _ _ s
  rw [if_neg (by omega)]
  refine wpAny_bind (setf hit (by simp) fun h1 h1r s1 => ?_)
  refine wpAny_bind (setf h1r (by simp) fun h2 h2r s2 => ?_)
  exact wpAny_bind (wpAny_mkInt (wpAny_pure ⟨_, rfl, hQ h2 _ h2r (s1.trans s2)⟩))
theorem rbody_end {it : Addr} {x left step : Int} (hh : A.handled = none) {Q : PySem.Fin → Shared → Prop} (hit : IsRangeIter s.heap it x left step) (hl : left ≤ 0)
    (hE : ∀ h' e, (∀ c o, s.heap.get? c = some o → h'.get? c = some o) → s.heap.objs.size ≤ h'.objs.size → StopX e h' → E e { s with heap := h' }) : wpAny M A (Builtin.«range_iterator.__next__» ⟨[.ref it], []⟩) Q E s := by
  show wpAny _ _ (field (.ref it) 0 >>= _) _ _ s
  refine wpAny_bind (wpAny_field hit rfl (x := rawInt x) rfl ?_)
  show wpAny _ _ (field (.ref it) 1 >>= _) _ _ s
  refine wpAny_bind (wpAny_field hit rfl (x := rawInt left) rfl ?_)
  show wpAny _ _ (field (.ref it) 2 >>= _) _ _ s
  refine wpAny_bind (wpAny_field hit rfl (x := rawInt step) rfl ?_)
  show wpAny _ _ (if left ≤ 0 then _ else _) _ _ s
  rw [if_pos hl]
  refine wpAny_bind (wpAny_rule ?_)
  refine wpAny_bind ?_
  show wpAny _ _ (newExc (.type "StopIteration") [] >>= _) _ _ _
  refine wpAny_bind ?_
  simp only [newExc, newTuple]
  refine wpAny_bind (wpAny_newObj_type ?_ (by size_fits))
  refine wpAny_bind (m := firstArgMember _ _) (wpAny_of_eq (a := Value.none) (by first | rfl | (simp only [firstArgMember]; rfl)) ?_)
  refine wpAny_newObj_type ?_ (by size_fits)
  simp only [raiseNew]
  refine wpAny_bind (wpAny_handled ?_)
  rw [hh]
  refine wpAny_bind (wpAny_pure (wpAny_throw ?_))
  refine hE _ _ (fun c o e => Heap.get?_push_of_some _ (Heap.get?_push_of_some _ e)) (Nat.le_trans (Nat.le_of_lt (Nat.lt_succ_self _)) (Nat.le_trans (Nat.le_of_eq (Heap.size_push _ _).symm) (Nat.le_trans (Nat.le_of_lt (Nat.lt_succ_self _)) (Nat.le_of_eq (Heap.size_push _ _).symm)))) ⟨_, _, _, rfl, Heap.get?_push_size _ rfl, rfl, rfl, ?_⟩
  first
    | rfl
    | (rw [Array.getElem?_append_left (by decide)]; rfl)
    | kernel_rfl
end
end GT

set_option Elab.async false
set_option linter.all false
set_option maxRecDepth 100000
set_option maxHeartbeats 2000000
/-! zip over a range and a generator that is held. -/
namespace GT
open PySem PySem.Spec PyProof.Rows L2 GenW
open Sem (wp)
section
variable {N : Nat} {pn : Pn} {X : Cx} {Hg : Hp} {pins : Pn} {σ : L2.St} {H : Hp} {G0 : Array GenState} {L : Addr} {A : Around} {xs : List V} {F : Foot} {a : Addr} {g : Nat} {s : Shared}
theorem con_turns (C : Con N pn X Hg pins σ H G0 L A xs F a g s) {ch : List Addr} {h' : Heap} {t' : Nat} (fS : ∀ b ∈ ch, FpOk X pins H b) (nS : ∀ b ∈ ch, b ∉ a :: F.objs) (k : ∀ b o, b ∉ ch → s.heap.get? b = some o → h'.get? b = some o) (sz : s.heap.objs.size ≤ h'.objs.size) : Con N pn X Hg pins σ H G0 L A xs F a g { s with heap := h', toks := t' } := by
  have J : IM X pins σ H { s with heap := h', toks := t' } := ⟨by
    have I := C.im.inv
    exact Inv.turnedL (h' := h') (t' := t') (ch := ch) I (fun b o hb e => k b o hb e) fS, C.im.wf⟩
  have km : ∀ {y : GenState}, Kby F.objs s.heap y → Kby F.objs h' y := fun q => q.mono fun b hb => ⟨hb, fun o e n => ⟨o, k b o (fun z => nS b z (List.mem_cons_of_mem _ hb)) e, n⟩⟩
  exact ⟨J, hold_heap C.hold rfl (fun b hb o e _ => k b o (fun z => nS b z hb) e) rfl sz, C.cal, C.fp, C.sub, C.aX, C.aF, C.cl, C.h0, C.hcc, fun i hi => let ⟨y, e, u, q⟩ := C.sus i hi; ⟨y, e, u, km q⟩, let ⟨y, e, q⟩ := C.kbg; ⟨y, e, km q⟩, fun b hb => let ⟨o, e, n⟩ := C.there b hb; ⟨o, k b o (fun z => nS b z (List.mem_cons_of_mem _ hb)) e, n⟩⟩
/-- asked for its next by another builtin -/
theorem con_special {B : Around} {Q : Option Value → Shared → Prop} {E : Value → Shared → Prop} (C : Con N pn X Hg pins σ H G0 L B.in1 xs F a g s) (hh : B.handled = none) (room : B.depth < recursionLimit)
    (h0 : xs = [] → ∀ e z, IM X pins σ H z → CalX N pn G0 z.gens → (∀ b o, s.heap.get? b = some o → (∀ v, o.data ≠ .cell v) → Hg b = none → b ∉ F.objs → b ∉ frs X.stack → z.heap.get? b = some o) → StopX e z.heap → s.heap.objs.size ≤ z.heap.objs.size → E e z)
    (h1 : ∀ x ys, xs = x :: ys → ∀ v z F', RelV x v → Con N pn X Hg pins σ H G0 L B.in1 ys F' a g z → (∀ b o, s.heap.get? b = some o → (∀ v, o.data ≠ .cell v) → Hg b = none → b ∉ F.objs → b ∉ frs X.stack → z.heap.get? b = some o) → (∀ b ∈ F'.objs, b ∈ F.objs ∨ s.heap.objs.size ≤ b) → s.heap.objs.size ≤ z.heap.objs.size → (∃ y, z.gens[g]? = some y ∧ Sus y) → Q (some v) z) :
    wpAny (hm (model X.prog X.w)) B (callSpecial? (.ref a) "__next__") Q E s := by
  obtain ⟨gs, hgs, hst, _⟩ := id C.hold.gen
  have e0 := C.im.inv.env0
  have gz := C.hold.gS
  have szg : (s.setGen g .running).gens.size = s.gens.size := sg_size s g .running
  have I0 : IM X pins σ H (s.setGen g .running) := ⟨C.im.inv, C.im.wf.set g .running fun _ _ _ _ _ _ q => (by cases q)⟩
  have after : ∀ {F' : Foot} {s1 : Shared}, Stp X.prog X.w Hg L X.stack F F' (s.setGen g .running) s1 → IM X pins σ H s1 := fun {F' s1} st =>
    im_after I0 st C.sub.sub C.sub.cls C.fp C.cl C.h0 fun b u o v e q z => (C.hcc b u e).elim id fun n => absurd z (n.no (C.im.inv.hok b u e) q v)
  have calm : ∀ {F' : Foot} {s1 : Shared} {y : GenState}, Stp X.prog X.w Hg L X.stack F F' (s.setGen g .running) s1 → CalF N pn G0 g F' (s1.setGen g y).gens := fun {F' s1 y} st => by
    have z1 : (s1.setGen g y).gens.size = s1.gens.size := sg_size s1 g y
    have gs1 := st.gsize
    rw [szg] at gs1
    refine ⟨by rw [z1]; exact Nat.le_trans C.cal.size gs1, fun i y' e u => ?_, fun i y' e => ?_, C.cal.gN, fun i hi => ?_⟩
    · have lt := (Array.getElem?_eq_some_iff.mp e).1
      have ig : g ≠ i := fun q => absurd (q ▸ lt) (Nat.not_lt.mpr C.cal.gN)
      show (s1.gens.setIfInBounds g y)[i]? = _
      rw [get_set_ne ig]
      refine st.keepG i y' ?_ (fun q => absurd lt (Nat.not_lt.mpr (C.cal.fN i q))) u
      show (s.gens.setIfInBounds g .running)[i]? = _
      rw [get_set_ne ig]
      exact C.cal.keep i y' e u
    · by_cases ig : g = i
      · exact .inr (.inr (.inl ig.symm))
      · have e : (s1.gens.setIfInBounds g y)[i]? = some y' := e
        rw [get_set_ne ig] at e
        rcases st.newG i y' e with ⟨q, n⟩ | q | q
        · have q : (s.gens.setIfInBounds g .running)[i]? = some y' := q
          rw [get_set_ne ig] at q
          rcases C.cal.new i y' q with q | q | q | q
          · exact .inl q
          · exact .inr (.inl q)
          · exact absurd q.symm ig
          · exact absurd q n
        · exact .inr (.inl (.of q))
        · exact .inr (.inr (.inr q))
    · rcases st.newI i hi with q | q
      · exact C.cal.fN i q
      · rw [szg] at q
        exact Nat.le_trans C.cal.size q
  refine special_g (gs := gs) (Qv := fun v z => ∃ x ys s1 F' y, xs = x :: ys ∧ z = s1.setGen g y ∧ RelV x v ∧ Stp X.prog X.w Hg L X.stack F F' (s.setGen g .running) s1 ∧ Wy y ∧ Sus y ∧ Kby F'.objs s1.heap y ∧ Hold X Hg L B.in1 ys F' a g (s1.setGen g y))
    (N := fun z => xs = [] ∧ ∃ s1, z = s1.setGen g .finished ∧ Stp X.prog X.w Hg L X.stack F ⟨[], []⟩ (s.setGen g .running) s1) hh C.im.inv.nolimit room C.hold.isg hgs hst ?_ (fun v z y => ?_) fun z e h' tk y hS hk hz => ?_
  · refine hold_next C.hold C.im.wf C.im.inv.bk e0.funs (C.sub.ok C.im.inv.hok) (C.sub.none C.aF.1) C.aX (fun ex s1 st => .inr ⟨rfl, ex, s1, rfl, st⟩) fun x ys ex v s1 F' y rv st wy su kb hd => .inl ⟨v, rfl, x, ys, s1, F', y, ex, rfl, rv, st, wy, su, kb, hd⟩
  · obtain ⟨x, ys, s1, F', y, ex, rfl, rv, st, wy, su, kb, hd⟩ := y
    have J := after st
    have yg : Stp X.prog X.w Hg L X.stack F F' (s.setGen g .running) s1 → (s1.setGen g y).gens[g]? = some y := fun st => set_at (Nat.lt_of_lt_of_le gz (by have q := st.gsize; rw [szg] at q; exact q))
    refine h1 x ys ex v _ F' rv ⟨⟨J.inv, J.wf.set g y wy⟩, hd, calm st, fun b hb => ?_, C.sub, C.aX, C.aF, C.cl, C.h0, C.hcc, fun i hi => ?_, ⟨y, yg st, kb⟩, st.there⟩ (fun b o e nc nh nf nx => st.keep b o e (fun v q => absurd q (nc v)) nh nf nx) (fun b hb => st.newO b hb) st.size ⟨y, yg st, su⟩
    · rcases st.newO b hb with q | q
      · exact C.fp b q
      · exact C.im.inv.fpOk q (C.im.inv.hok.fresh q)
    · obtain ⟨y', e, u⟩ := st.susG i hi
      have ig : g ≠ i := fun q => hd.gF (q ▸ hi)
      refine ⟨y', ?_, u⟩
      show (s1.gens.setIfInBounds g y)[i]? = _
      rw [get_set_ne ig]
      exact e
  · obtain ⟨ex, s1, rfl, st⟩ := y
    have J := after st
    have K1 := J.inv.kept (h' := h') (t' := tk) hk
    have cf := calm (y := .finished) st
    refine h0 ex e _ ⟨⟨K1.ok, K1.os, bare_nil, K1.base, K1.loc, K1.cell, K1.free, K1.freeC, K1.pin, K1.hok, K1.len⟩, J.wf.set g .finished fun _ _ _ _ _ _ q => (by cases q)⟩ ⟨cf.size, cf.keep, fun i y e => ?_⟩ (fun b o e nc nh nf nx => hk b o (st.keep b o e (fun v q => absurd q (nc v)) nh nf nx)) hS (Nat.le_trans st.size hz)
    have e : (s1.setGen g .finished).gens[i]? = some y := e
    rcases cf.new i y e with q | q | q | q
    · exact .inl q
    · exact .inr q
    · subst q
      have gs1 := st.gsize
      rw [szg] at gs1
      rw [set_at (Nat.lt_of_lt_of_le gz gs1)] at e
      cases e
      exact .inr (.of fun _ _ _ _ _ _ q => by cases q)
    · exact absurd q (by simp)
/-- the zip object's parts -/
structure Zp (z TI TO i1 a : Addr) (lo left : Int) (h : Heap) : Prop where
  zip : IsZip h z TI TO .none
  pair : IsPair h TI (.ref i1) (.ref a)
  out : ∃ p q, IsPair h TO p q
  rng : IsRangeIter h i1 lo left 1
structure ZAp (X : Cx) (pins : Pn) (H : Hp) (z TI TO i1 : Addr) : Prop where
  fp : ∀ b ∈ [z, TI, TO, i1], FpOk X pins H b ∧ b ∉ frs X.stack
  TIz : TI ≠ z
  TOz : TO ≠ z
  i1z : i1 ≠ z
  TIO : TI ≠ TO
  TI1 : TI ≠ i1
  TO1 : TO ≠ i1
theorem letgo_zip {M : Model} {E : Value → Shared → Prop} {elts : List Expr} {x1} {pos : Pos} {z TI TO T : Addr} {Q : Unit → Shared → Prop} (hz : IsZip s.heap z TI TO (rawInt T)) (hQ : ∀ h', IsZip h' z TI TO .none → Heap.SameBut z s.heap h' → Q () { s with heap := h' }) :
    wpAny M A (letOwnedTupleGo (.Tuple elts x1 pos) (.ref z) (.ref T)) Q E s := by
  unfold letOwnedTupleGo
  refine wpAny_bind (wpAny_load hz ?_)
  show wpAny _ _ (if (["enumerate", "zip", "dict_itemiterator", "dict_reverseitemiterator", "odict_iterator", "itertools.zip_longest", "itertools.pairwise"].contains "zip" &&
      (#[rawInt T, .bool false, .bool false, .ref TI, .ref TO] : Array Value)[0]? == some (rawInt T)) = true then _ else _) Q E s
  rw [if_pos (by simp)]
  refine wpAny_bind (wpAny_rule ?_)
  show wpAny _ _ (setField (.ref z) 0 .none) Q E s
  exact setf hz (by simp) fun h' hz' hs' => hQ h' hz' hs'
/-- zip is asked for its next -/
theorem con_zip {B : Around} {Q : Option Value → Shared → Prop} {E : Value → Shared → Prop} {z TI TO i1 : Addr} {lo left : Int} (C : Con N pn X Hg pins σ H G0 L B.in1.in1 xs F a g s) (hh : B.handled = none) (room : B.depth < recursionLimit) (ap : ZAp X pins H z TI TO i1) (no : ∀ b ∈ [z, TI, TO, i1], b ∉ a :: F.objs) (st : Zp z TI TO i1 a lo left s.heap)
    (h0 : left ≤ 0 → ∀ y, IM X pins σ H y → Con N pn X Hg pins σ H G0 L B.in1.in1 xs F a g y → y.gens = s.gens → s.heap.objs.size ≤ y.heap.objs.size → Q none y)
    (h1 : 0 < left → xs = [] → ∀ y, IM X pins σ H y → CalX N pn G0 y.gens → s.heap.objs.size ≤ y.heap.objs.size → Q none y)
    (h2 : 0 < left → ∀ x ys, xs = x :: ys → ∀ u v T y F', RelV (.int lo) u → RelV x v → Con N pn X Hg pins σ H G0 L B.in1.in1 ys F' a g y → (∃ w, y.gens[g]? = some w ∧ Sus w) → s.heap.objs.size ≤ T → IsPair y.heap T u v → T ∉ a :: F'.objs → (∀ b ∈ [z, TI, TO, i1], b ∉ a :: F'.objs ∧ b ≠ T) → IsZip y.heap z TI TO (rawInt T) → IsPair y.heap TI (.ref i1) (.ref a) → (∃ p q, IsPair y.heap TO p q) → IsRangeIter y.heap i1 (lo + 1) (left - 1) 1 → (∀ b ∈ F'.objs, b ∈ F.objs ∨ s.heap.objs.size ≤ b) → Q (some (.ref T)) y) :
    wpAny (hm (model X.prog X.w)) B (pyNext (.ref z)) Q E s := by
  have hT : s.TypeIs (.ref z) "zip" := ⟨_, st.zip, rfl⟩
  obtain ⟨p, q, hTO⟩ := st.out
  have mz : z ∈ [z, TI, TO, i1] := by simp
  have mTI : TI ∈ [z, TI, TO, i1] := by simp
  have mTO : TO ∈ [z, TI, TO, i1] := by simp
  have m1 : i1 ∈ [z, TI, TO, i1] := by simp
  have stop_z : ∀ {e : Value} {h h' : Heap} {f0 : Value}, StopX e h → IsZip h z TI TO f0 → Heap.SameBut z h h' → StopX e h' := fun {e h h' f0} hS hz hs => by
    obtain ⟨b, o, vs, rfl, e1, e2, e3, e4⟩ := hS
    have nb : b ≠ z := fun q => by rw [q, hz] at e1; cases e1; exact absurd e2 (show Value.type "zip" ≠ Value.type "StopIteration" by decide)
    exact ⟨b, o, vs, rfl, (hs.2 b nb).trans e1, e2, e3, e4⟩
  unfold pyNext
  refine wpAny_bind (wpAny_attempt (wpAny_mono (Q := fun o y => ∃ v, o = some v ∧ Q (some v) y) (E := fun e y => StopX e y.heap ∧ Q none y) ?_ (fun o y ⟨v, e, q⟩ => by subst e; exact wpAny_pure q) fun e y ⟨hS, q⟩ => ?_))
  rotate_left
  · obtain ⟨b, o, vs, rfl, hb, hc, _, _⟩ := hS
    refine wpAny_bind (wpAny_isInstance (T := "StopIteration") (b := true) ⟨o, hb, hc⟩ isSubtype_stop ?_)
    exact wpAny_pure q
  refine wpAny_callSpecial?_slot (name := Str.ofString "__next__") hT PySem.F.slot_zip_next (entry_hm PySem.F.slot_zip_next hT PySem.F.entry_zip_next (wpAny_mono (zip_body (Q := fun v y => Q (some v) y) (E := fun e y => StopX e y.heap ∧ Q none y) st.zip st.pair hTO ap.TIz ap.TOz fun h₁ hz₁ hs₁ => ?_) (fun fin y ⟨v, e, q⟩ => ⟨v, e, v, rfl, q⟩) fun _ _ y => y) (PySem.F.args_zip_next_1 _))
  have r1 : IsRangeIter h₁ i1 lo left 1 := hs₁.extBut _ _ ap.i1z st.rng
  have TO1 : IsPair h₁ TO p q := hs₁.extBut _ _ ap.TOz hTO
  have hR : ({ s with heap := h₁ } : Shared).TypeIs (.ref i1) "range_iterator" := ⟨_, r1, rfl⟩
  unfold Builtin.SmallTypes.nextOf
  refine wpAny_bind (wpAny_callSpecial?_slot (name := Str.ofString "__next__") hR PySem.F.slot_range_iterator_next (entry_hm PySem.F.slot_range_iterator_next hR PySem.F.entry_range_iterator_next ?_ (PySem.F.args_range_iterator_next_1 _)))
  by_cases hl : 0 < left
  · refine rbody_item r1 hl fun h₂ tk r2 hs₂ => wpAny_pure ⟨hs₂.extBut _ _ ap.TO1 TO1, fun h₃ TO3 hs₃ => ?_⟩
    have sz3 : h₃.objs.size = s.heap.objs.size := by rw [hs₃.1, hs₂.1, hs₁.1]
    have k3 : ∀ b o, b ∉ [z, TI, TO, i1] → s.heap.get? b = some o → h₃.get? b = some o := fun b o hb e =>
      hs₃.extBut _ _ (fun q => hb (by simp [q])) (hs₂.extBut _ _ (fun q => hb (by simp [q])) (hs₁.extBut _ _ (fun q => hb (by simp [q])) e))
    have z3 : IsZip h₃ z TI TO .ellipsis := hs₃.extBut _ _ ap.TOz.symm (hs₂.extBut _ _ ap.i1z.symm hz₁)
    have p3 : IsPair h₃ TI (.ref i1) (.ref a) := hs₃.extBut _ _ ap.TIO (hs₂.extBut _ _ ap.TI1 (hs₁.extBut _ _ ap.TIz st.pair))
    have r3 : IsRangeIter h₃ i1 (lo + 1) (left - 1) 1 := hs₃.extBut _ _ ap.TO1.symm r2
    have C3 := con_turns (t' := tk) C (fun b hb => (ap.fp b hb).1) no k3 (Nat.le_of_eq sz3.symm)
    have none3 : ∀ b ∈ [z, TI, TO, i1], Hg b = none := fun b hb => C.sub.none (ap.fp b hb).1.1
    refine wpAny_bind (con_special (B := B.in1) C3 hh room (fun ex e y J cal kp hS hsz => ?_) fun x ys ex v y F' rx C4 kp nO hsz slp => wpAny_pure ?_)
    · have z4 : IsZip y.heap z TI TO .ellipsis := kp z _ z3 (fun v q => by cases q) (none3 z mz) (fun q => no z mz (List.mem_cons_of_mem _ q)) (ap.fp z mz).2
      refine ⟨z4, fun h' hs => ⟨stop_z hS z4 hs, ?_⟩⟩
      obtain ⟨f0, f1, f2, f3, f4, f5⟩ := (ap.fp z mz).1
      exact h1 hl ex _ ⟨Inv.turned (h' := h') (t' := y.toks) J.inv (fun b o hb e => (hs.2 b hb).trans e) f0 f1 f3 f4 f5, J.wf⟩ cal (by show s.heap.objs.size ≤ h'.objs.size; rw [hs.1, ← sz3]; exact hsz)
    · have keep : ∀ b ∈ [z, TI, TO, i1], ∀ o, h₃.get? b = some o → (∀ v, o.data ≠ .cell v) → y.heap.get? b = some o := fun b hb o e n => kp b o e n (none3 b hb) (fun q => no b hb (List.mem_cons_of_mem _ q)) (ap.fp b hb).2
      have z4 : IsZip y.heap z TI TO .ellipsis := keep z mz _ z3 fun v q => by cases q
      have TO4 : IsPair y.heap TO (.int lo s.toks) q := keep TO mTO _ TO3 fun v q => by cases q
      have p4 : IsPair y.heap TI (.ref i1) (.ref a) := keep TI mTI _ p3 fun v q => by cases q
      have r4 : IsRangeIter y.heap i1 (lo + 1) (left - 1) 1 := keep i1 m1 _ r3 fun v q => by cases q
      refine ⟨TO4, z4, fun h₅ TO5 hs₅ h₈ z8 T8 sz8 k8 => ?_⟩
      have no4 : ∀ b ∈ [z, TI, TO, i1], b ∉ a :: F'.objs := fun b hb h => by
        rcases List.mem_cons.mp h with q | q
        · exact no b hb (by rw [q]; exact List.mem_cons_self)
        · rcases nO b q with q | q
          · exact no b hb (List.mem_cons_of_mem _ q)
          · have lt : b < s.heap.objs.size := by
              have e' : b = z ∨ b = TI ∨ b = TO ∨ b = i1 := by simpa using hb
              rcases e' with w | w | w | w
              · rw [w]; exact Heap.lt_size st.zip
              · rw [w]; exact Heap.lt_size st.pair
              · rw [w]; exact Heap.lt_size hTO
              · rw [w]; exact Heap.lt_size st.rng
            have q : h₃.objs.size ≤ b := q
            rw [sz3] at q
            exact absurd lt (Nat.not_lt.mpr q)
      have s5 : h₅.objs.size = y.heap.objs.size := hs₅.1
      have ltb : ∀ b ∈ [z, TI, TO, i1], b < h₅.objs.size := fun b hb => by
        rw [s5]
        have e' : b = z ∨ b = TI ∨ b = TO ∨ b = i1 := by simpa using hb
        rcases e' with w | w | w | w
        · rw [w]; exact Heap.lt_size z4
        · rw [w]; exact Heap.lt_size p4
        · rw [w]; exact Heap.lt_size TO4
        · rw [w]; exact Heap.lt_size r4
      have alt : a < h₅.objs.size := by
        obtain ⟨o, _, _, ho, _⟩ := C4.hold.isg
        rw [s5]; exact Heap.lt_size ho
      have nT : h₅.objs.size ∉ a :: F'.objs := fun h => by
        rcases List.mem_cons.mp h with w | w
        · exact Nat.ne_of_gt alt w
        · obtain ⟨o, e, _⟩ := C4.there _ w
          have := Heap.lt_size e
          rw [s5] at this
          exact Nat.lt_irrefl _ this
      have up : ∀ b o, b ≠ z → y.heap.get? b = some o → b ≠ TO → h₈.get? b = some o := fun b o c1 e c2 =>
        (k8 b c1 (Nat.ne_of_lt (by rw [s5]; exact Heap.lt_size e))).trans ((hs₅.2 b c2).trans e)
      have C8 := con_turns (t' := y.toks) (h' := h₈) (ch := [z, TO, h₅.objs.size]) C4 (fun b hb => ?_) (fun b hb => ?_) (fun b o hb e => ?_) (by rw [sz8, s5]; exact Nat.le_succ _)
      · have TO8 : IsPair h₈ TO (.int lo s.toks) v := (k8 TO ap.TOz (Nat.ne_of_lt (ltb TO mTO))).trans TO5
        exact h2 hl x ys ex _ v h₅.objs.size _ F' ⟨s.toks, rfl⟩ rx C8 slp (by rw [s5]; exact Nat.le_trans (Nat.le_of_eq sz3.symm) hsz) T8 nT (fun b hb => ⟨no4 b hb, Nat.ne_of_lt (ltb b hb)⟩) z8 (up TI _ ap.TIz p4 ap.TIO) ⟨_, _, TO8⟩ (up i1 _ ap.i1z r4 ap.TO1.symm) fun b hb => (nO b hb).imp id fun q => by
          have q : h₃.objs.size ≤ b := q
          rw [sz3] at q
          exact q
      · have e' : b = z ∨ b = TO ∨ b = h₅.objs.size := by simpa using hb
        rcases e' with w | w | w
        · rw [w]; exact (ap.fp z mz).1
        · rw [w]; exact (ap.fp TO mTO).1
        · rw [w, s5]; exact C4.im.inv.fpOk (Nat.le_refl _) (C4.im.inv.hok.fresh (Nat.le_refl _))
      · have e' : b = z ∨ b = TO ∨ b = h₅.objs.size := by simpa using hb
        rcases e' with w | w | w
        · rw [w]; exact no4 z mz
        · rw [w]; exact no4 TO mTO
        · rw [w]; exact nT
      · exact up b o (fun w => hb (by simp [w])) e fun w => hb (by simp [w])
  · have hl' : left ≤ 0 := by omega
    refine rbody_end (s := { s with heap := h₁ }) (show B.in1.in1.handled = none from hh) r1 hl' fun h' e k sz hS => ?_
    have z2 : IsZip h' z TI TO .ellipsis := k _ _ hz₁
    refine ⟨z2, fun h'' hs => ⟨stop_z hS z2 hs, ?_⟩⟩
    have Ce := con_turns (t' := s.toks) (h' := h'') (ch := [z, TI, TO, i1]) C (fun b hb => (ap.fp b hb).1) no (fun b o hb e => (hs.2 b fun q => hb (by simp [q])).trans (k b o ((hs₁.2 b fun q => hb (by simp [q])).trans e))) (by rw [hs.1]; exact Nat.le_trans (Nat.le_of_eq hs₁.1.symm) sz)
    exact h0 hl' _ Ce.im Ce rfl (by show s.heap.objs.size ≤ h''.objs.size; rw [hs.1]; exact Nat.le_trans (Nat.le_of_eq hs₁.1.symm) sz)
end
end GT

set_option Elab.async false
set_option linter.all false
set_option maxRecDepth 100000
set_option maxHeartbeats 2000000
/-! zip(range(..), f(..)) is made. -/
namespace GT
open PySem PySem.Spec PyProof.Rows L2 GenW
open Sem (wp)
/-- calm code that leaves the sleepers as they are -/
theorem any_exact {α : Type} {M : Model} {A : Around} {t : Sem α} {R : α → Shared → Prop} {s : Shared} (wf : WF s.gens) (h : wpAny M A t (fun v z => z.gens = s.gens.map pois ∧ R v { z with gens := s.gens }) (fun _ _ => False) (gw s (s.gens.map pois))) {E : Value → Shared → Prop} :
    wpAny (hm M) A t R E s := by
  refine wpAny_mono (any_veil (pb_start wf h)) (fun v s' ⟨K, γ, vl, e, r⟩ => ?_) fun e s' ⟨_, _, _, q⟩ => q.elim
  have e : γ = s.gens.map pois := e
  subst e
  have eg : s'.gens = s.gens := by
    refine Array.ext_getElem? fun i => ?_
    cases hx : s.gens[i]? with
    | none =>
      have h1 : s.gens.size ≤ i := Array.getElem?_eq_none_iff.mp hx
      have h2 : s'.gens.size = s.gens.size := by rw [← vl.rel.size, Array.size_map]
      rw [Array.getElem?_eq_none_iff]
      omega
    | some y0 =>
      by_cases hs : Sus y0
      · exact (vl.hid i y0 hx hs).1
      · have hp : pois y0 = y0 := by
          cases y0 with
          | suspended k l c p fs cl => exact absurd ⟨k, l, c, p, fs, cl, rfl⟩ hs
          | _ => rfl
        have hg : (s.gens.map pois)[i]? = some y0 := by rw [Array.getElem?_map, hx]; show some (pois y0) = _; rw [hp]
        obtain ⟨y, hy, q⟩ := vl.rel.there i y0 hg
        rw [hy]
        rcases q with q | ⟨⟨l, c, p, fs, q⟩, _⟩
        · rw [q]
          cases y0 with
          | suspended k l c p fs cl => exact absurd ⟨k, l, c, p, fs, cl, rfl⟩ hs
          | _ => rfl
        · exact absurd ⟨_, _, _, _, _, _, q⟩ hs
  have r : R v { (gw s' (s.gens.map pois)) with gens := s.gens } := r
  rw [← eg] at r
  exact r
theorem iter_gm {P : Program} {w : World} {A : Around} {E : Value → Shared → Prop} {s : Shared} {a : Addr} {g : Nat} {Q : Value → Shared → Prop} (hg : IsG s.heap a g) (h : Q (.ref a) s) : wpAny (model P w) A (pyIter (.ref a)) Q E s := by
  refine wpAny_pyIter_slot hg.ty slot_gen_iter (wpAny_call_entry slot_gen_iter hg.ty entry_gen_iter ?_ (args_gen_iter _))
  show wpAny _ _ (ret (.ref a)) _ _ s
  exact wpAny_pure ⟨_, rfl, "generator", _, hg.ty, slot_gen_next.lookup, h⟩
abbrev zg1 (h : Heap) (lo hi : Int) : Heap := h.push { cls := .type "range_iterator", data := .fields #[rawInt lo, rawInt (Builtin.Range.rangeSize lo hi 1), rawInt 1] }
abbrev zg2 (h : Heap) (a : Addr) (lo hi : Int) : Heap := (zg1 h lo hi).push { cls := .type "tuple", data := .seq #[.ref h.objs.size, .ref a] }
abbrev zg3 (h : Heap) (a : Addr) (lo hi : Int) : Heap := (zg2 h a lo hi).push { cls := .type "tuple", data := .seq #[.none, .none] }
abbrev zg4 (h : Heap) (a : Addr) (lo hi : Int) : Heap := (zg3 h a lo hi).push { cls := .type "zip", data := .fields #[.none, .bool false, .bool false, .ref (zg1 h lo hi).objs.size, .ref (zg2 h a lo hi).objs.size] }
theorem meets_zip_rg (r a : Addr) (g : Nat) (lo hi : Int) (t u v : Tok) (sm : Builtin.Range.small lo hi 1 = true) : Meets (Builtin.«zip.__new__» ⟨[.type "zip", .ref r, .ref a], []⟩) (fun _ R s => IsRange s.heap r lo hi 1 t u v ∧ IsG s.heap a g ∧
      R (.ok (.ret (.ref (zg3 s.heap a lo hi).objs.size))) { s with heap := zg4 s.heap a lo hi }) :=
  .of_wp fun prog w A R s h => by
    obtain ⟨hp, gg, d, tk, os⟩ := s; obtain ⟨hr, hg, h⟩ := h
    have hsub := sub_zip
    have hR : IsRange (Shared.heap ⟨hp, gg, d, tk, os⟩) r lo hi 1 t u v := hr
    have hG : IsG (Shared.heap ⟨zg1 hp lo hi, gg, d, tk, os⟩) a g := by
      obtain ⟨o, nm, qn, ho, rest⟩ := hg
      exact ⟨o, nm, qn, Heap.get?_push_of_some _ ho, rest⟩
    wp_walk using wpAny_pyIter_range hR sm, iter_gm hG
    exact ⟨_, rfl, h⟩
theorem call_zip_rg {P : Program} {w : World} {A : Around} {E : Value → Shared → Prop} {s : Shared} {r a : Addr} {g : Nat} {lo hi : Int} {t u v : Tok} {Q : Value → Shared → Prop} (hr : IsRange s.heap r lo hi 1 t u v) (sm : Builtin.Range.small lo hi 1 = true) (hg : IsG s.heap a g)
    (h : Q (.ref (s.heap.objs.size + 3)) { s with heap := zg4 s.heap a lo hi }) : wpAny (model P w) A (call (.type "zip") [.ref r, .ref a]) Q E s := by
  refine callType_new F.called_zip (by decide) (F.typeCall_zip_2 _ _) (F.newCall_zip_2 _ _) (fun obj => F.args_object_init_3 obj _ _) F.entry_zip_new (meets_zip_rg r a g lo hi t u v sm) ⟨hr, hg, ?_⟩
  have z1 : (zg1 s.heap lo hi).objs.size = s.heap.objs.size + 1 := Heap.size_push ..
  have z2 : (zg2 s.heap a lo hi).objs.size = s.heap.objs.size + 2 := by rw [Heap.size_push, z1]
  have z3 : (zg3 s.heap a lo hi).objs.size = s.heap.objs.size + 3 := by rw [Heap.size_push, z2]
  show _ ∧ _
  rw [z3]
  refine ⟨?_, h⟩
  have g5 : (zg4 s.heap a lo hi).get? (zg3 s.heap a lo hi).objs.size = some _ := Heap.get?_push_size _ rfl
  rw [z3] at g5
  exact ⟨_, g5, rfl⟩
/-- what is then there -/
theorem zip_there {h : Heap} {a : Addr} {lo hi : Int} : Zp (h.objs.size + 3) (h.objs.size + 1) (h.objs.size + 2) h.objs.size a lo (Builtin.Range.rangeSize lo hi 1) (zg4 h a lo hi) ∧ (zg4 h a lo hi).objs.size = h.objs.size + 4 ∧ ∀ b, b < h.objs.size → (zg4 h a lo hi).get? b = h.get? b := by
  have z1 : (zg1 h lo hi).objs.size = h.objs.size + 1 := Heap.size_push ..
  have z2 : (zg2 h a lo hi).objs.size = h.objs.size + 2 := by rw [Heap.size_push, z1]
  have z3 : (zg3 h a lo hi).objs.size = h.objs.size + 3 := by rw [Heap.size_push, z2]
  have z4 : (zg4 h a lo hi).objs.size = h.objs.size + 4 := by rw [Heap.size_push, z3]
  have g4 : (zg4 h a lo hi).get? (zg3 h a lo hi).objs.size = some _ := Heap.get?_push_size _ rfl
  have g3 : (zg4 h a lo hi).get? (zg2 h a lo hi).objs.size = some _ := Heap.get?_push_of_some _ (Heap.get?_push_size _ rfl)
  have g2 : (zg4 h a lo hi).get? (zg1 h lo hi).objs.size = some _ := Heap.get?_push_of_some _ (Heap.get?_push_of_some _ (Heap.get?_push_size _ rfl))
  have g1 : (zg4 h a lo hi).get? h.objs.size = some _ := Heap.get?_push_of_some _ (Heap.get?_push_of_some _ (Heap.get?_push_of_some _ (Heap.get?_push_size _ rfl)))
  rw [z1, z2] at g4
  rw [z3] at g4
  rw [z2] at g3
  rw [z1] at g2
  refine ⟨⟨g4, g2, ⟨_, _, g3⟩, g1⟩, z4, fun b hb => ?_⟩
  refine (Heap.get?_push_ne _ _ _ (by rw [z3]; exact Nat.ne_of_lt (Nat.lt_of_lt_of_le hb (Nat.le_add_right _ _)))).trans ((Heap.get?_push_ne _ _ _ (by rw [z2]; exact Nat.ne_of_lt (Nat.lt_of_lt_of_le hb (Nat.le_add_right _ _)))).trans ((Heap.get?_push_ne _ _ _ (by rw [z1]; exact Nat.ne_of_lt (Nat.lt_of_lt_of_le hb (Nat.le_add_right _ _)))).trans (Heap.get?_push_ne _ _ _ (Nat.ne_of_lt hb))))
end GT

set_option Elab.async false
set_option linter.all false
set_option maxRecDepth 100000
set_option maxHeartbeats 2000000
/-! A list comprehension over the marked model: its block, its loop. -/
namespace GT
open PySem PySem.Spec PyProof.Rows L2 GenW
open Sem (wp)
section
variable {P : Program} {w : World} {A : Around} {R : Result → Shared → Prop} {s : Shared} {elt tg iter : Expr} {scope : Scope} {pos : Pos} {it acc : Value} {ev : Env}
theorem comp_hm (I : Nat → Shared → Prop)
    (turn : ∀ n s, I n s → wpAny (hm (model P w)) A (pyNext it) (fun r z => match r with
      | none => R (.ok .next) z
      | some v => wpAny (hm (model P w)) A (letOwnedTupleGo tg it v) (fun _ z1 => wpAny (hm (model P w)) A (assign tg ev v) (fun _ z2 => wpAny (hm (model P w)) A (eval elt ev) (fun x z3 =>
          wpAny (hm (model P w)) A (call (.builtin "list.append") [acc, x]) (fun _ z4 => ∃ m, m < n ∧ I m z4) (fun _ _ => False) z3) (fun _ _ => False) z2) (fun _ _ => False) z1) (fun _ _ => False) z) (fun _ _ => False) s)
    (n : Nat) (h : I n s) : codeAny (hm (model P w)) A (.compLoop (.ListComp elt [⟨tg, iter, [], 0⟩] scope pos) 0 it acc ev) R s := by
  refine codeAny_loop' rfl I (fun n s hI => ?_) n h
  show wpAny _ A (tau none ((compTurn (.ListComp elt [⟨tg, iter, [], 0⟩] scope pos) 0 it acc ev).onRaise (fun x => do noteFrame x ev; theTreesLotGoes x))) _ _ s
  refine any_tau.mpr (wpAny_noted ?_)
  rw [compTurn_list1]
  refine wpAny_bind (wpAny_standAt (wpAny_bind (wpAny_mono (turn n s hI) (fun r z y => ?_) fun _ _ y => y.elim)))
  cases r with
  | none => exact wpAny_pure y
  | some v =>
    refine wpAny_bind (wpAny_mono y (fun _ z1 y1 => ?_) fun _ _ y => y.elim)
    refine wpAny_bind (wpAny_mono y1 (fun _ z2 y2 => ?_) fun _ _ y => y.elim)
    refine wpAny_bind (wpAny_bind (wpAny_mono y2 (fun x z3 y3 => ?_) fun _ _ y => y.elim))
    exact wpAny_bind (wpAny_mono y3 (fun _ z4 y4 => wpAny_pure (wpAny_pure (.inl ⟨rfl, y4⟩))) fun _ _ y => y.elim)
theorem start_hm (h0 : codeAny (hm (model P w)) A (.compLoop (.ListComp elt [⟨tg, iter, [], 0⟩] scope pos) 0 it acc ev) R s)
    (h : wpAny (hm (model P w)) A (pyIter it) (fun it' s' => codeAny (hm (model P w)) A (.compLoop (.ListComp elt [⟨tg, iter, [], 0⟩] scope pos) 0 it' acc ev) R s')
      (fun _ _ => False) s) : codeAny (hm (model P w)) A (.compStart (.ListComp elt [⟨tg, iter, [], 0⟩] scope pos) 0 it acc ev) R s := by
  refine code_hm ?_
  show wpAny _ _ ((compStart (.ListComp elt [⟨tg, iter, [], 0⟩] scope pos) 0 it acc ev).onRaise (fun x => do noteFrame x ev; standAt theWindowsPlace)) _ _ s
  refine wpAny_notedAt ?_
  unfold compStart
  show wpAny _ _ (ask >>= _) _ _ s
  refine wpAny_bind (wpAny_askSetting (wpAny_ite ?_))
  split
  · first
      | exact wpAny_bind (wpAny_pure (wpAny_pure (And.intro rfl h0)))
      | exact wpAny_pure (And.intro rfl h0)
  · first
      | exact wpAny_bind (wpAny_rule (wpAny_bind (wpAny_standAt (wpAny_bind (wpAny_mono h (fun it' s' h' => wpAny_pure (And.intro rfl h')) fun _ _ x => x.elim)))))
      | (refine wpAny_bind (wpAny_rule ?_); show wpAny _ _ (standAt iter.pos >>= _) _ _ s; exact wpAny_bind (wpAny_standAt (wpAny_bind (wpAny_mono h (fun it' s' h' => wpAny_pure (And.intro rfl h')) fun _ _ x => x.elim))))
end
section
variable {X : Cx} {pins : Pn} {σ : L2.St} {H H1 : Hp} {s s1 : Shared}
/-- a thing that is new is tracked -/
theorem im_new {z : Shared} {S : Addr} {u : HO} (I : IM X pins σ H z) (fS : FpOk X pins H S) (new : ObjOk X.prog X.w (upd H S u) z.heap S u) : IM X pins σ (upd H S u) z := by
  obtain ⟨f0, f1, f2, f3, f4, f5⟩ := fS
  have J := I.inv
  refine ⟨?_, I.wf⟩
  have neS : ∀ b u, H b = some u → b ≠ S := fun b u q => ne_of_none q f0
  refine ⟨J.ok, J.os, J.bare, ⟨J.base.keep, J.base.slot, fun b o q n hx => ?_, J.base.there, fun b xs q => ?_, fun b o y q => ?_, fun b qs q => ?_⟩, J.loc, J.cell, by rw [upd_ne (Ne.symm f1)]; exact J.free, fun x c q => ?_, fun p hp => ?_, fun b u q => ?_, J.len⟩
  · have h1 := J.base.free b o q n hx
    by_cases hb : b = S
    · subst hb
      rcases f3 with z | z
      · exact absurd z hx
      · exact absurd (Heap.lt_size q) (Nat.not_lt.mpr z)
    · rw [upd_ne hb]; exact h1
  · have q2 := J.base.tups b xs q
    rw [upd_ne (neS b _ q2)]; exact q2
  · have q2 := J.base.frzs b o y q
    rw [upd_ne (neS b _ q2)]; exact q2
  · obtain ⟨more, q2⟩ := J.base.tbls b qs q
    exact ⟨more, by rw [upd_ne (neS b _ q2)]; exact q2⟩
  · rw [upd_ne (f4 x c q)]; exact J.freeC x c q
  · obtain ⟨h1, h2, r⟩ := J.pin p hp
    exact ⟨h1, by rw [upd_ne (f5 p hp)]; exact h2, r⟩
  · by_cases hb : b = S
    · subst hb
      rw [upd_same] at q
      cases q
      exact new
    · rw [upd_ne hb] at q
      exact (J.hok b u q).stay (fun _ _ _ y => y) (fun c y => by rw [upd_ne (neS c _ y)]; exact y) fun c xs y => by rw [upd_ne (neS c _ y)]; exact y
/-- an item appended -/
theorem app_m {D : Addr} {xs : List V} {y : V} {v : Value} (I : IM X pins σ H s) (hD : H D = some (.lst xs)) (hz : xs.length < sizeLine) (r : RelV y v) :
    wpAny (MM X) X.A (call (.builtin "list.append") [.ref D, v]) (fun _ s' => IM X pins σ (upd H D (.lst (xs ++ [y]))) s' ∧ Cal s.gens s'.gens) (XM X s.gens) s :=
  lift I (P := fun _ s' => Inv X pins σ (upd H D (.lst (xs ++ [y]))) s') (app_ok I.calm hD hz r fun s' J => J) fun a γ s' J => ⟨J.bare, fun w c => ⟨.of J w, c⟩⟩
abbrev bEnv (scope : Scope) (ev : Env) (n : Nat) : Env := compEnvC scope (cellsFrom (n + 1) scope.names (cloFrom ev.cells scope.names [])) n ev
abbrev bX (X : Cx) (s1 : Shared) (H1 : Hp) (scope : Scope) (n : Nat) : Cx := X.blk (gw s1 #[]) H1 scope (bEnv scope X.env n) []
/-- its block begins; told from s1 on -/
theorem block_from {scope : Scope} {own : List (Str × Nat)} (I1 : IM X pins σ H1 s1) (I : IM X pins σ H s) (u : Un (frs X.stack) [] H1 H s1.heap s.heap) (sz : s1.heap.objs.size ≤ s.heap.objs.size) (ok : BlkOk X.N X.env.scope scope own) (hN : X.N.Nodup) :
    IM (bX X s1 H1 scope s.heap.objs.size) [] (wipe σ (own.map (·.2))) H { s with heap := pushCells (s.heap.push { cls := .type "dict", data := .dict #[] }) scope.names } := by
  have J := block_start (fp := []) I.inv ok hN fun b hb => absurd hb (by simp)
  refine ⟨⟨⟨J.ok.mod, J.ok.kind, J.ok.glob, J.ok.blt, Nat.le_trans sz J.ok.above, J.ok.inj, J.ok.has, fun x c e1 e2 => Nat.le_trans sz (J.ok.cab x c e1 e2), J.ok.hd, J.ok.frames, J.ok.stk, J.ok.exf, I1.inv.bs, Nat.le_trans I1.inv.ok.bsz I1.inv.sz, J.ok.noex, J.ok.exfs, I1.inv.stack, I1.inv.stkFree⟩, ?_, J.bare, u.trans J.base, J.loc, J.cell, J.free, J.freeC, J.pin, J.hok, J.len⟩, I.wf⟩
  exact I.inv.os.trans I1.inv.os.symm
theorem block_cells {scope : Scope} {own : List (Str × Nat)} {n : Nat} {L : Addr} (I : IM X pins σ H s) (ok : BlkOk X.N X.env.scope scope own) (nc : ∀ y ∈ scope.names, y.2 ≠ .cell) (cl : ∀ x c, X.env.cells.lookup x = some c → c < L) : ∀ x c, (bEnv scope X.env n).cells.lookup x = some c → c < L := fun x c e => by
  have e : (cellsFrom (n + 1) scope.names (cloFrom X.env.cells scope.names [])).lookup x = some c := e
  have key : ∀ (names : List (Str × NameKind)) (n : Nat) (acc : List (Str × Addr)), (∀ y ∈ names, y.2 ≠ .cell) → cellsFrom n names acc = acc := by
    intro names
    induction names with
    | nil => intro n acc _; rfl
    | cons y r ih =>
      intro n acc h
      unfold cellsFrom
      have h1 := h y List.mem_cons_self
      have : (y.2 == NameKind.cell) = false := by simpa using h1
      simp only [this, Bool.false_eq_true, if_false]
      exact ih n acc fun z hz => h z (List.mem_cons_of_mem _ hz)
  rw [key _ _ _ nc] at e
  rcases cloFrom_mem (PySem.mem_of_lookup e) with hm | ⟨h1, rfl⟩
  · cases hm
  · have : ∃ c, X.env.cells.lookup x = some c := by
      rcases ok.free _ h1 rfl with k | k
      · exact I.inv.ok.has _ (.inl k)
      · exact I.inv.ok.has _ (.inr k)
    obtain ⟨c, hc⟩ := this
    rw [hc]
    exact cl x c hc
/-- its end -/
theorem block_back {scope : Scope} {n : Nat} {σ' : L2.St} {H' : Hp} {y : Shared} (I1 : IM X pins σ H1 s1) (J : IM (bX X s1 H1 scope n) [] σ' H' y) : IM X pins σ H' y :=
  ⟨I1.inv.call' (s' := gw y #[]) (ch := []) J.inv.os J.inv.base J.inv.hok bare_nil fun b hb => absurd hb (by simp), J.wf⟩
end
end GT

set_option Elab.async false
set_option linter.all false
set_option maxRecDepth 100000
set_option maxHeartbeats 2000000
/-! [elt for a, b in zip(range(n), f(..))]. -/
namespace GT
open PySem PySem.Spec PyProof.Rows L2 GenW
open Sem (wp)
section
variable {X : Cx} {pins : Pn} {σ : L2.St} {H H1 : Hp} {s s1 : Shared}
theorem rng_m {en : Expr} {tn : TE} {p pos : Pos} {Q : Int → Hp → Prop} (I : IM X pins σ H s) (hg : Gl X "range") (hm : X.mg "range" = none) (hn : PE X en tn) (h : tn σ H fun v H0 => ∃ m : Int, v = .int m ∧ Q m H0)
    (hs : starEach [en] X.env = (false, eval en X.env) :: starEach [] X.env := by rfl) (hpl : (backTo pos (starEach [] X.env)).any (·.1) = false := by rfl) :
    wpAny (MM X) X.A (eval (.Call (.Name "range" p) [en] [] pos) X.env) (fun v z => ∃ r m H0 t u w, v = .ref r ∧ IM X pins σ H0 z ∧ IsRange z.heap r 0 m 1 t u w ∧ FpOk X pins H0 r ∧ Q m H0 ∧ Cal s.gens z.gens) (XM X s.gens) s := by
  refine wpAny_Call_Name_kw (ldb_m I hg hm (u := .type "range") boot_range ?_)
  refine PyProof.Rows.callWith_type1 ?_ hs hpl
  rw [hs]
  refine Calls.spliced_cons (wpAny_mono ((e_m hn).run pins s σ H _ I h) (fun v s1 ⟨x, H0, I1, r1, ⟨m, ex, q⟩, c1⟩ => ?_) fun _ _ y => y)
  refine Calls.spliced_nil ?_
  subst ex
  obtain ⟨t, rfl⟩ : ∃ t, v = Value.int m t := r1
  refine any_exact I1.wf (call_range_1 ⟨rfl, ?_⟩)
  refine ⟨s1.heap.objs.size, m, H0, _, _, _, rfl, ⟨I1.inv.kept (t' := s1.toks + 1 + 1) fun b o e => Heap.get?_push_of_some _ e, I1.wf⟩, Heap.get?_push_size _ rfl, I1.inv.fpOk (Nat.le_refl _) (I1.inv.hok.fresh (Nat.le_refl _)), q, c1⟩
theorem blk_fp {scope : Scope} {n : Nat} {b : Addr} {H' : Hp} (I1 : IM X pins σ H1 s1) (cl : ∀ x c, (bEnv scope X.env n).cells.lookup x = some c → c < s1.heap.objs.size) (ge : s1.heap.objs.size ≤ b) (ne : b ≠ n) (no : H' b = none) : FpOk (bX X s1 H1 scope n) [] H' b ∧ b ∉ frs X.stack := by
  have nf : b ∉ frs X.stack := fun hb => by
    obtain ⟨_, o, e, _⟩ := I1.inv.env0.funs.mem hb
    exact absurd (Heap.lt_size e) (Nat.not_lt.mpr ge)
  exact ⟨⟨no, ne, nf, .inr ge, fun x c e z => absurd (cl x c e) (Nat.not_lt.mpr (z ▸ ge)), fun p hp => absurd (show p ∈ ([] : Pn) ++ [] from hp) (by simp)⟩, nf⟩
theorem con_block {N : Nat} {pn : Pn} {Hg : Hp} {G0 : Array GenState} {A : Around} {xs : List V} {F : Foot} {a : Addr} {g : Nat} {scope : Scope} {n : Nat} {z s4 : Shared} {σ' : L2.St} {H' : Hp} (I1 : IM X pins σ H1 s1) (C : Con N pn X Hg pins σ H1 G0 s1.heap.objs.size A xs F a g z) (J : IM (bX X s1 H1 scope n) [] σ' H' s4) (gens : s4.gens = z.gens) (kp : ∀ b o, z.heap.get? b = some o → s4.heap.get? b = some o) (sz : z.heap.objs.size ≤ s4.heap.objs.size)
    (cl : ∀ x c, (bEnv scope X.env n).cells.lookup x = some c → c < s1.heap.objs.size) (hH : ∀ b u, H1 b = some u → H' b = some u) (hcc : ∀ b u, H' b = some u → b < s1.heap.objs.size ∨ NCell u) (no : ∀ b ∈ a :: F.objs, H' b = none) (ge : ∀ b ∈ a :: F.objs, s1.heap.objs.size ≤ b) (lt : ∀ b ∈ a :: F.objs, b < n) : Con N pn (bX X s1 H1 scope n) Hg [] σ' H' G0 s1.heap.objs.size A xs F a g s4 := by
  have hd := hold_heap (z := s4) C.hold (J.inv.os.trans (I1.inv.os.trans C.im.inv.os.symm)) (fun b _ o e _ => kp b o e) gens sz
  have fp : ∀ b ∈ a :: F.objs, FpOk (bX X s1 H1 scope n) [] H' b := fun b hb => (blk_fp I1 cl (ge b hb) (Nat.ne_of_lt (lt b hb)) (no b hb)).1
  have km : ∀ {y : GenState}, Kby F.objs z.heap y → Kby F.objs s4.heap y := fun q => q.mono fun b hb => ⟨hb, fun o e n => ⟨o, kp b o e, n⟩⟩
  refine ⟨J, ⟨hd.isg, hd.gen, hd.gF, hd.aF, hd.gS⟩, by rw [gens]; exact C.cal, fun b hb => fp b (List.mem_cons_of_mem _ hb), C.sub.more fun b u e => hH b u (C.sub.sub b u e), C.aX, fp a List.mem_cons_self, cl, Nat.le_refl _, hcc, fun i hi => ?_, ?_, fun b hb => let ⟨o, e, q⟩ := C.there b hb; ⟨o, kp b o e, q⟩⟩
  · obtain ⟨y, e, u, q⟩ := C.sus i hi
    exact ⟨y, by rw [gens]; exact e, u, km q⟩
  · obtain ⟨y, e, q⟩ := C.kbg
    exact ⟨y, by rw [gens]; exact e, km q⟩
end
end GT

set_option Elab.async false
set_option linter.all false
set_option maxRecDepth 100000
set_option maxHeartbeats 4000000
namespace GT
open PySem PySem.Spec PyProof.Rows L2 GenW
open Sem (wp)
/-- [elt for a, b in zip(range(n), f(..))] -/
def tZip (tn : TE) (t : TA) (sp : GSp) (dvs : List V) (g : TG) (te : TE) (vs : List Nat) : TE := fun σ H Q => tn σ H fun v H0 => ∃ m : Int, v = .int m ∧ ∃ n : Nat, Builtin.Range.small 0 m 1 = true ∧ Builtin.Range.rangeSize 0 m 1 = n ∧ t σ H0 fun as H1 =>
  ∃ Hg xs, (Dk H1 → Sub H1 Hg) ∧ sp (as ++ dvs) Hg xs ∧ ∀ D, H1 D = none → ∃ W : Nat → Hp → Prop, W 0 (upd H1 D (.lst [])) ∧ (∀ i H', W i H' → Held Hg H1 H') ∧ (∀ i H', (i = n ∨ i = xs.length) → W i H' → Q (.ref D) H') ∧
    ∀ i x H' T, i < n → xs[i]? = some x → W i H' → H' T = none → g (.ref T) (wipe σ vs) (upd H' T (.tup [.int i, x])) fun σ2 H2 => wipe σ2 vs = wipe σ vs ∧ te σ2 H2 fun y H3 => ∃ acc, H3 D = some (.lst acc) ∧ acc.length < sizeLine ∧ W (i + 1) (upd H3 D (.lst (acc ++ [y])))
theorem room2 {k : Nat} {A : Around} (r : Room (k + 1) A) : Room k A.in1.in1 := ⟨r.hd, by have := r.dp; show A.depth + 3 * k + 5 < _; omega, by have := r.un; show A.units + 1 + 1 + 16 * k + 200 < _; omega⟩
theorem z_mem {n b : Nat} (h : b ∈ [n + 3, n + 1, n + 2, n]) : n ≤ b ∧ b < n + 4 := by
  have e : b = n + 3 ∨ b = n + 1 ∨ b = n + 2 ∨ b = n := by simpa using h
  omega
theorem z_ne (n : Nat) : (n + 1 ≠ n + 3 ∧ n + 2 ≠ n + 3 ∧ n ≠ n + 3) ∧ n + 1 ≠ n + 2 ∧ n + 1 ≠ n ∧ n + 2 ≠ n := by omega
theorem xm_no {X : Cx} {G0 : Array GenState} {e : Value} {s : Shared} (h : XM X G0 e s) (hx : ∀ e s, ¬ X.xe e s) : False := let ⟨_, _, _, q⟩ := h; hx _ _ q
/-- the end of the block, seen from around it -/
theorem block_fin {X : Cx} {pins pn : Pn} {σ σ' : L2.St} {H1 H' : Hp} {s s1 y : Shared} {scope : Scope} {n : Nat} {Q : VK} {D : Addr} (I1 : IM X pins σ H1 s1) (J : IM (bX X s1 H1 scope n) [] σ' H' y) (ge : s1.heap.objs.size ≤ n) (gr : Gr pins pn s y)
    (hp : ∀ p ∈ pn, p ∈ pins ∨ (y.heap.get? p.1 = some p.2 ∧ H' p.1 = none ∧ s1.heap.objs.size ≤ p.1 ∧ p.1 ≠ n ∧ ∀ v, p.2.data ≠ .cell v)) (q : Q (.ref D) H') : compPost (MM X) X.A (XX X) none (EX X pins σ Q s) (.ref D) n (.ok .next) y := by
  have K := block_back I1 J
  obtain ⟨m, hn, _⟩ := J.inv.loc
  have nC : H' n = none := J.inv.free
  obtain ⟨_, f1, f2, f3, f4, f5⟩ := I1.inv.fpOk (b := n) ge nC
  have J2 : Inv X pn σ H' (gw y #[]) := K.inv.pins_of fun p h => by
    rcases hp p h with h | ⟨h1, h2, h3, _, h5⟩
    · exact K.inv.pin p (List.mem_append_right _ h)
    · obtain ⟨_, g1, g2, _⟩ := I1.inv.fpOk (b := p.1) h3 h2
      exact ⟨h1, h2, g1, g2, h5⟩
  refine ⟨m, hn, fun h'' sb => ⟨pn, .ref D, H', ⟨gr.sb, gr.fr, by show _ ≤ h''.objs.size; rw [sb.1]; exact gr.sz, gr.cal⟩, ⟨J2.turned (h' := h'') (t' := y.toks) (fun b o hb e => (sb.2 b hb).trans e) nC f1 f3 f4 fun p h => ?_, K.wf⟩, rfl, q⟩⟩
  rcases List.mem_append.mp h with h | h
  · exact f5 p (List.mem_append_left _ h)
  · rcases hp p h with h | ⟨_, _, _, h4, _⟩
    · exact f5 p (List.mem_append_right _ h)
    · exact h4
section
variable {X : Cx} {k : Nat} {f : Addr} {fd : FuncData} {ps : List Str} {sp : GSp} {dvs : List V} {ds : List Value} {en e elt : Expr} {es elts : List Expr} {tn te : TE} {t : TA} {x : Str} {p pz pr pz0 pr0 pos tp cpos : Pos} {kk : Nat} {g : TG} {scope : Scope} {own : List (Str × Nat)}
theorem xe_lcZip (D : GenD X.prog X.w X.K X.mg X.base k f fd ps sp) (hG : X.A.guards = some []) (hr : Room (k + 1) X.A) (hgz : Gl X "zip") (hmz : X.mg "zip" = none) (hgr : Gl X "range") (hmr : X.mg "range" = none) (hN : X.N.Nodup) (hn : PE X en tn)
    (hg : Gl X x) (hm : X.mg x = some (.ref f)) (hk : PySem.W.keepIn X.K (.ref f) = true) (hb : Binds X.K fd ps ds) (hd : Vals dvs ds) (ha : PA X (e :: es) t) (ok : BlkOk X.N X.env.scope scope own) (nc : ∀ y ∈ scope.names, y.2 ≠ .cell)
    (hgg : ∀ (s : Shared) (H : Hp) (C : Addr) (cl : List (Str × Addr)) (fp : List Addr), PG (X.blk s H scope (compEnvC scope cl C X.env) fp) (.Tuple elts kk tp) g)
    (he : ∀ (s : Shared) (H : Hp) (C : Addr) (cl : List (Str × Addr)) (fp : List Addr), PE (X.blk s H scope (compEnvC scope cl C X.env) fp) elt te)
    (hs : ∀ v, foldedSetIterable (.Call (.Name "zip" pz) [.Call (.Name "range" pr) [en] [] pr0, .Call (.Name x p) (e :: es) [] pos] [] pz0) X.env v = pure v := by intro _; rfl)
    (hs1 : starEach [.Call (.Name "range" pr) [en] [] pr0, .Call (.Name x p) (e :: es) [] pos] X.env = (false, eval (.Call (.Name "range" pr) [en] [] pr0) X.env) :: starEach [.Call (.Name x p) (e :: es) [] pos] X.env := by rfl)
    (hp1 : (backTo pz0 (starEach [.Call (.Name x p) (e :: es) [] pos] X.env)).any (·.1) = false := by rfl)
    (hs2 : starEach [.Call (.Name x p) (e :: es) [] pos] X.env = (false, eval (.Call (.Name x p) (e :: es) [] pos) X.env) :: starEach [] X.env := by rfl)
    (hs3 : starEach [en] X.env = (false, eval en X.env) :: starEach [] X.env := by rfl) (hp3 : (backTo pr0 (starEach [] X.env)).any (·.1) = false := by rfl)
    (hdb : (x == ("__debug__" : Str)) = false := by decide) (hea : starEach (e :: es) X.env = (false, eval e X.env) :: starEach es X.env := by rfl) (hpl : (backTo pos (starEach es X.env)).any (·.1) = false := by rfl) :
    PEx X (.ListComp elt [⟨.Tuple elts kk tp, .Call (.Name "zip" pz) [.Call (.Name "range" pr) [en] [] pr0, .Call (.Name x p) (e :: es) [] pos] [] pz0, [], 0⟩] scope cpos) (tZip tn t sp dvs g te (own.map (·.2))) := by
  refine ⟨fun pins s σ H Q I h => ?_⟩
  rw [eval_ListComp]
  have hfree : ∀ y ∈ scope.names, y.2 = .free → ∃ c, X.env.cells.lookup y.1 = some c := fun y hy e => by
    rcases ok.free y hy e with k | k
    · exact I.inv.ok.has _ (.inl k)
    · exact I.inv.ok.has _ (.inr k)
  refine wpAny_comprehension_free (use := none) rfl hs (closure_ok hfree) ok.kind (fun y hy e => by rw [ok.uniq y hy, e]) ?_
  show wpAny (MM X) X.A (eval (.Call (.Name "zip" pz) [.Call (.Name "range" pr) [en] [] pr0, .Call (.Name x p) (e :: es) [] pos] [] pz0) X.env) _ _ s
  refine wpAny_Call_Name_kw (ldb_m I hgz hmz (u := .type "zip") PyProof.Rows.boot_zip ?_)
  refine PyProof.Rows.callWith_type1 ?_ hs1 hp1
  rw [hs1]
  refine Calls.spliced_cons (any_sz (wpAny_mono (rng_m I hgr hmr hn h hs3 hp3) (fun v s0 ⟨r, m, H0, t0, u0, w0, ev, I0, hr0, fr0, q0, c0⟩ sz0 => ?_) fun _ _ y => XM.x y))
  subst ev
  obtain ⟨n, sm, rs, q0⟩ := q0
  have Ip : IM X (pins ++ pinsAt [r] s0.heap) σ H0 s0 := ⟨L2.Inv.pinned (s := gw s0 #[]) I0.inv (fun b hb => by rw [List.mem_singleton.mp hb]; exact fr0) fun b hb => by
    rw [List.mem_singleton.mp hb]
    exact ⟨_, hr0, fun v z => by cases z⟩, I0.wf⟩
  rw [hs2]
  refine Calls.spliced_cons (wpAny_mono (gen_call D hr.depth hg hm hk hb hd (a_m ha) Ip q0 (fun vs H1 ⟨_, _, _, q, _⟩ => D.len _ _ _ q) hdb hea hpl) (fun v z y => ?_) fun _ _ y => XM.x y)
  obtain ⟨s1, vs, us, H1, a, gn, bd, qual, sc, cd, rfl, I1p, c1, hsz, rv, ⟨Hg, xs, sub, hsp, q⟩, B, okg⟩ := y
  refine Calls.spliced_nil ?_
  have hr1 : IsRange z.heap r 0 m 1 t0 u0 w0 := B.keep _ _ (I1p.inv.pin (r, _) (List.mem_append_right _ (List.mem_append_right _ (mem_pinsAt (List.mem_singleton.mpr rfl) hr0)))).1
  have I1 : IM X pins σ H1 s1 := ⟨I1p.inv.unpinned, I1p.wf⟩
  have sub := sub (dk_of I1.inv.hok)
  have C := con_born (A := X.A.in1.in1) (N := s.heap.objs.size) (pn := []) (G0 := s.gens) I1 (c0.trans c1) B okg sub rv hsp hG (room2 hr) I1.inv.ok.frames
  refine any_exact C.im.wf (call_zip_rg hr1 sm C.hold.isg ⟨rfl, ?_⟩)
  show wpAny (MM X) X.A (pyIter (.ref (z.heap.objs.size + 3))) _ _ ({ z with heap := zg4 z.heap a 0 m } : Shared)
  obtain ⟨zp, zsz, zk⟩ := zip_there (h := z.heap) (a := a) (lo := 0) (hi := m)
  refine any_exact (s := { z with heap := zg4 z.heap a 0 m }) (show WF z.gens from C.im.wf) (wpAny_pyIter_zip (s := gw { z with heap := zg4 z.heap a 0 m } (z.gens.map pois)) zp.zip ⟨rfl, ?_⟩)
  show wpAny (MM X) X.A (newList []) _ _ ({ z with heap := zg4 z.heap a 0 m } : Shared)
  refine wpAny_newObj_type (newEnv_comp ?_) (by show 0 ≤ sizeLine; decide)
  -- the new list
  generalize hD : (zg4 z.heap a 0 m).objs.size = D
  have hDz : D = z.heap.objs.size + 4 := by rw [← hD, zsz]
  have zL : s1.heap.objs.size < z.heap.objs.size := by rw [B.size]; exact Nat.lt_succ_of_lt B.old
  have hDn : H1 D = none := C.im.inv.hok.fresh (by rw [hDz]; exact Nat.le_add_right _ _)
  have I2 : Inv X pins σ H1 { (gw z #[]) with heap := zg4 z.heap a 0 m, toks := z.toks } := C.im.inv.kept fun b o e => (zk b (Heap.lt_size e)).trans e
  generalize hs3 : ({ z with heap := (zg4 z.heap a 0 m).push { cls := .type "list", data := .seq ([] : List Value).toArray } } : Shared) = s3
  have h3 : s3.heap = (zg4 z.heap a 0 m).push { cls := .type "list", data := .seq ([] : List Value).toArray } := by rw [← hs3]
  have I3 : IM X pins σ (upd H1 D (.lst [])) s3 := by
    rw [← hs3]
    refine ⟨I2.laid (t' := z.toks) (fun b o e => Heap.get?_push_of_some _ e) (Nat.le_of_eq hD) ⟨Nat.zero_le _, [], 0, .nil, ?_⟩, C.im.wf⟩
    rw [← hD]
    exact Heap.get?_push_size _ rfl
  have z3 : s3.heap.objs.size = z.heap.objs.size + 5 := by rw [h3, Heap.size_push, zsz]
  have k3 : ∀ b o, z.heap.get? b = some o → s3.heap.get? b = some o := fun b o e => by rw [h3]; exact Heap.get?_push_of_some _ ((zk b (Heap.lt_size e)).trans e)
  have u13 : Un (frs X.stack) [] H1 (upd H1 D (.lst [])) s1.heap s3.heap := Un.laid (fun b o e => k3 b o (B.keep b o e)) (by rw [hDz]; exact Nat.le_add_right_of_le (Nat.le_of_lt zL)) hDn
  have I4 := block_from I1 I3 u13 (by rw [z3]; exact Nat.le_add_right_of_le (Nat.le_of_lt zL)) ok hN
  have cl4 := block_cells (n := s3.heap.objs.size) I1 ok nc C.cl
  have pg := hgg (gw s1 #[]) H1 s3.heap.objs.size (cellsFrom (s3.heap.objs.size + 1) scope.names (cloFrom X.env.cells scope.names [])) []
  have pe := he (gw s1 #[]) H1 s3.heap.objs.size (cellsFrom (s3.heap.objs.size + 1) scope.names (cloFrom X.env.cells scope.names [])) []
  show codeAny (MM X) X.A (.compStart (.ListComp elt [⟨.Tuple elts kk tp, .Call (.Name "zip" pz) [.Call (.Name "range" pr) [en] [] pr0, .Call (.Name x p) (e :: es) [] pos] [] pz0, [], 0⟩] scope cpos) 0 (.ref (z.heap.objs.size + 3)) (.ref D) (bEnv scope X.env s3.heap.objs.size))
    (compPost (MM X) X.A (XX X) none (EX X pins σ Q s) (.ref D) s3.heap.objs.size) { s3 with heap := pushCells (s3.heap.push { cls := .type "dict", data := .dict #[] }) scope.names }
  generalize hs4 : ({ s3 with heap := pushCells (s3.heap.push { cls := .type "dict", data := .dict #[] }) scope.names } : Shared) = s4 at I4 ⊢
  have g4 : s4.gens = z.gens := by rw [← hs4, ← hs3]
  have k34 : ∀ b o, s3.heap.get? b = some o → s4.heap.get? b = some o := fun b o e => by rw [← hs4]; exact pushCells_keeps _ _ _ _ (Heap.get?_push_of_some _ e)
  have sz34 : s3.heap.objs.size ≤ s4.heap.objs.size := by
    rw [← hs4]
    refine Nat.le_trans ?_ (pushCells_size _ _)
    rw [Heap.size_push]; exact Nat.le_succ _
  have z4 : z.heap.objs.size ≤ s4.heap.objs.size := Nat.le_trans (by rw [z3]; exact Nat.le_add_right _ _) sz34
  have k4 : ∀ b o, (zg4 z.heap a 0 m).get? b = some o → s4.heap.get? b = some o := fun b o e => k34 b o (by rw [h3]; exact Heap.get?_push_of_some _ e)
  have zp4 : Zp (z.heap.objs.size + 3) (z.heap.objs.size + 1) (z.heap.objs.size + 2) z.heap.objs.size a ((0 : Nat) : Int) ((n : Int) - ((0 : Nat) : Int)) s4.heap := by
    have e0 : (n : Int) - ((0 : Nat) : Int) = Builtin.Range.rangeSize 0 m 1 := by rw [rs]; simp
    rw [e0]
    obtain ⟨p, q, h⟩ := zp.out
    exact ⟨k4 _ _ zp.zip, k4 _ _ zp.pair, ⟨p, q, k4 _ _ h⟩, k4 _ _ zp.rng⟩
  have sL : s.heap.objs.size ≤ s1.heap.objs.size := Nat.le_trans sz0 hsz
  have alt : a < z.heap.objs.size := by rw [B.size]; exact Nat.lt_succ_self _
  have lt0 : ∀ b ∈ a :: ([s1.heap.objs.size] : List Addr), s1.heap.objs.size ≤ b ∧ b < z.heap.objs.size := fun b hb => by
    rcases List.mem_cons.mp hb with e | e
    · rw [e]; exact ⟨Nat.le_of_lt B.old, alt⟩
    · rw [List.mem_singleton.mp e]; exact ⟨Nat.le_refl _, zL⟩
  have C4 := con_block I1 C I4 g4 (fun b o e => k34 b o (k3 b o e)) z4 cl4 (fun b u e => by rw [upd_ne (ne_of_none e hDn)]; exact e) (fun b u e => by
    by_cases hb : b = D
    · rw [hb, upd_same] at e; cases e; exact .inr trivial
    · rw [upd_ne hb] at e; exact .inl (I1.inv.hok.lt e)) (fun b hb => by
    rw [upd_ne (by rw [hDz]; exact Nat.ne_of_lt (Nat.lt_of_lt_of_le (lt0 b hb).2 (Nat.le_add_right _ _)))]
    rcases List.mem_cons.mp hb with e | e
    · rw [e]; exact C.aF.1
    · exact (C.fp b e).1) (fun b hb => (lt0 b hb).1) fun b hb => by rw [z3]; exact Nat.lt_of_lt_of_le (lt0 b hb).2 (Nat.le_add_right _ _)
  obtain ⟨W, w0, held, wend, step⟩ := q D hDn
  generalize hCn : s3.heap.objs.size = Cn at I4 C4 cl4 pg pe z3 ⊢
  have L1 : ∀ b u, H1 b = some u → b < s1.heap.objs.size := fun b u e => I1.inv.hok.lt e
  have LC : s1.heap.objs.size ≤ Cn := by rw [z3]; exact Nat.le_add_right_of_le (Nat.le_of_lt zL)
  have apf : ∀ {H' : Hp}, (∀ b ∈ [z.heap.objs.size + 3, z.heap.objs.size + 1, z.heap.objs.size + 2, z.heap.objs.size], H' b = none) → ∀ b ∈ [z.heap.objs.size + 3, z.heap.objs.size + 1, z.heap.objs.size + 2, z.heap.objs.size], FpOk (bX X s1 H1 scope Cn) [] H' b ∧ b ∉ frs X.stack := fun {H'} h b hb =>
    blk_fp I1 cl4 (Nat.le_trans (Nat.le_of_lt zL) (z_mem hb).1) (by rw [z3]; exact Nat.ne_of_lt (Nat.lt_succ_of_lt (z_mem hb).2)) (h b hb)
  have loop : codeAny (MM X) X.A (.compLoop (.ListComp elt [⟨.Tuple elts kk tp, .Call (.Name "zip" pz) [.Call (.Name "range" pr) [en] [] pr0, .Call (.Name x p) (e :: es) [] pos] [] pz0, [], 0⟩] scope cpos) 0 (.ref (z.heap.objs.size + 3)) (.ref D) (bEnv scope X.env Cn))
      (compPost (MM X) X.A (XX X) none (EX X pins σ Q s) (.ref D) Cn) s4 := by
    refine comp_hm (fun cnt y => ∃ i F H', i + cnt = min n xs.length ∧ Con s.heap.objs.size [] (bX X s1 H1 scope Cn) Hg [] (wipe σ (own.map (·.2))) H' s.gens s1.heap.objs.size X.A.in1.in1 (xs.drop i) F a gn y ∧ Zp (z.heap.objs.size + 3) (z.heap.objs.size + 1) (z.heap.objs.size + 2) z.heap.objs.size a (i : Int) ((n : Int) - (i : Int)) y.heap ∧
      (∀ b ∈ [z.heap.objs.size + 3, z.heap.objs.size + 1, z.heap.objs.size + 2, z.heap.objs.size], H' b = none ∧ b ∉ a :: F.objs) ∧ (∀ b ∈ F.objs, s1.heap.objs.size ≤ b) ∧ s.heap.objs.size ≤ y.heap.objs.size ∧ W i H') ?_ (min n xs.length)
      ⟨0, ⟨[s1.heap.objs.size], []⟩, _, Nat.zero_add _, C4, zp4, fun b hb => ⟨?_, fun h => absurd (lt0 b h).2 (Nat.not_lt.mpr (z_mem hb).1)⟩, fun b hb => Nat.le_of_eq (List.mem_singleton.mp hb).symm, Nat.le_trans sL (Nat.le_trans (Nat.le_of_lt zL) z4), w0⟩
    rotate_left
    · rw [upd_ne (by rw [hDz]; exact Nat.ne_of_lt (z_mem hb).2)]
      exact C.im.inv.hok.fresh (z_mem hb).1
    rintro cnt s5 ⟨i, F, H5, hc, C5, Z5, n5, f5, sz5, w5⟩
    obtain ⟨⟨e1, e2, e3⟩, e4, e5, e6⟩ := z_ne z.heap.objs.size
    refine con_zip (X := bX X s1 H1 scope Cn) (B := X.A) C5 hr.hd hr.depth ⟨apf fun b hb => (n5 b hb).1, e1, e2, e3, e4, e5, e6⟩ (fun b hb => (n5 b hb).2) Z5 (fun hle y J C6 gy szy => ?_) (fun hlt ex y J cal6 szy => ?_) (fun hlt x0 ys ex u v T y F' ru rx C6 slp hT pT nT noT z8 p8 o8 r8 nO => ?_)
    · have hi : i = n := by omega
      have km : ∀ {y' : GenState}, Kby F.objs y.heap y' → Kept s.heap.objs.size (pins ++ pinsAt F.objs y.heap) y' := fun kb k l c p fs cl e => by
        obtain ⟨h1, h2, h3⟩ := kb k l c p fs cl e
        refine ⟨h1, h2, fun m => ?_⟩
        obtain ⟨g, a, o, e1, e2, e3, e4⟩ := h3 m
        exact ⟨g, a, o, e1, Nat.le_trans sL (f5 a e2), List.mem_append_right _ (mem_pinsAt e2 e3), e4⟩
      refine block_fin (pn := pins ++ pinsAt F.objs y.heap) I1 J LC ⟨fun p h => List.mem_append_left _ h, fun p h => (List.mem_append.mp h).imp id fun h => Nat.le_trans sL (f5 _ (of_pinsAt h).1), Nat.le_trans sz5 szy, ⟨C6.cal.size, C6.cal.keep, fun j y' e => ?_⟩⟩ (fun p h => (List.mem_append.mp h).imp id fun h => ?_) (wend i H5 (.inl hi) w5)
      · rcases C6.cal.new j y' e with q | q | q | q
        · exact .inl q
        · exact .inr (q.mono (fun _ h => absurd h (by simp)) (Nat.le_refl _))
        · obtain ⟨y2, e2, kb⟩ := C6.kbg
          rw [q, e2] at e
          cases e
          exact .inr (km kb)
        · obtain ⟨y2, e2, _, kb⟩ := C6.sus j q
          rw [e2] at e
          cases e
          exact .inr (km kb)
      · obtain ⟨hb, e⟩ := of_pinsAt h
        obtain ⟨o, e', nc'⟩ := C6.there _ hb
        rw [e] at e'
        cases e'
        exact ⟨e, (C6.fp _ hb).1, f5 _ hb, (C6.fp _ hb).2.1, nc'⟩
    · have hi : i = xs.length := by
        have := List.drop_eq_nil_iff.mp ex
        omega
      exact block_fin I1 J LC ⟨fun p h => h, fun p h => .inl h, Nat.le_trans sz5 szy, cal6.mono (fun _ h => absurd h (by simp)) (Nat.le_refl _)⟩ (fun p h => .inl h) (wend i H5 (.inr hi) w5)
    · have hx : xs[i]? = some x0 := by
        have q := congrArg List.head? ex
        rw [List.head?_drop] at q
        exact q
      have hrest : ys = xs.drop (i + 1) := by
        have q := congrArg List.tail ex
        rw [List.tail_drop] at q
        exact q.symm
      have hlt2 : i < xs.length := (List.getElem?_eq_some_iff.mp hx).1
      have hin : i < n := by omega
      have n5' : ∀ b ∈ [z.heap.objs.size + 3, z.heap.objs.size + 1, z.heap.objs.size + 2, z.heap.objs.size], H5 b = none := fun b hb => (n5 b hb).1
      have mz : z.heap.objs.size + 3 ∈ [z.heap.objs.size + 3, z.heap.objs.size + 1, z.heap.objs.size + 2, z.heap.objs.size] := List.mem_cons_self
      refine letgo_zip z8 fun h' zf hsb => ?_
      have C7 := con_turn (t' := y.toks) (h' := h') C6 (apf n5' _ mz).1 (noT _ mz).1 (fun b hb => hsb.2 b hb) (Nat.le_of_eq hsb.1.symm)
      have T7 : IsPair h' T u v := (hsb.2 T (noT _ mz).2.symm).trans pT
      have TL : s1.heap.objs.size ≤ T := Nat.le_trans (Nat.le_trans LC (Nat.le_of_lt C5.im.inv.lt)) hT
      have TC : T ≠ Cn := Nat.ne_of_gt (Nat.lt_of_lt_of_le C5.im.inv.lt hT)
      have Tn : H5 T = none := C5.im.inv.hok.fresh hT
      have I7 := im_new (u := .tup [.int i, x0]) C7.im (blk_fp I1 cl4 TL TC Tn).1 ⟨by show 2 ≤ sizeLine; decide, [u, v], .cons ru (.cons rx .nil), ⟨_, T7, rfl, _, rfl⟩⟩
      let fpl : List Addr := (a :: F'.objs) ++ [z.heap.objs.size + 3, z.heap.objs.size + 1, z.heap.objs.size + 2, z.heap.objs.size]
      have zob : ∀ b ∈ [z.heap.objs.size + 3, z.heap.objs.size + 1, z.heap.objs.size + 2, z.heap.objs.size], ∃ o, h'.get? b = some o ∧ ∀ v, o.data ≠ .cell v := fun b hb => by
        have e : b = z.heap.objs.size + 3 ∨ b = z.heap.objs.size + 1 ∨ b = z.heap.objs.size + 2 ∨ b = z.heap.objs.size := by simpa using hb
        obtain ⟨p, q, o8⟩ := o8
        rcases e with e | e | e | e
        · rw [e]; exact ⟨_, zf, fun v z => by cases z⟩
        · rw [e]; exact ⟨_, (hsb.2 _ e1).trans p8, fun v z => by cases z⟩
        · rw [e]; exact ⟨_, (hsb.2 _ e2).trans o8, fun v z => by cases z⟩
        · rw [e]; exact ⟨_, (hsb.2 _ e3).trans r8, fun v z => by cases z⟩
      have fob : ∀ b ∈ fpl, ∃ o, h'.get? b = some o ∧ ∀ v, o.data ≠ .cell v := fun b hb => by
        rcases List.mem_append.mp hb with hb | hb
        · rcases List.mem_cons.mp hb with e | hb
          · obtain ⟨o, nm, qn, ho, _, hdt, _⟩ := C7.hold.isg
            rw [e]
            exact ⟨o, ho, fun v z => by rw [hdt] at z; cases z⟩
          · exact C7.there b hb
        · exact zob b hb
      have TF : ∀ b ∈ fpl, b ≠ T := fun b hb e => by
        rcases List.mem_append.mp hb with hb | hb
        · exact nT (e ▸ hb)
        · exact (noT b hb).2 e
      have fok : ∀ b ∈ fpl, FpOk (bX X s1 H1 scope Cn) [] (upd H5 T (.tup [.int i, x0])) b := fun b hb => by
        have q : FpOk (bX X s1 H1 scope Cn) [] H5 b := by
          rcases List.mem_append.mp hb with hb | hb
          · rcases List.mem_cons.mp hb with e | hb
            · rw [e]; exact C7.aF
            · exact C7.fp b hb
          · exact (apf n5' b hb).1
        exact ⟨by rw [upd_ne (TF b hb)]; exact q.1, q.2⟩
      have I8 : IM (bX X s1 H1 scope Cn) ([] ++ pinsAt fpl h') (wipe σ (own.map (·.2))) (upd H5 T (.tup [.int i, x0])) { y with heap := h' } := ⟨L2.Inv.pinned (s := gw { y with heap := h' } #[]) I7.inv fok fob, I7.wf⟩
      refine any_sz (wpAny_mono (asg_m (x := .ref T) (u := .ref T) pg I8 rfl (step i x0 H5 T hin hx w5 Tn)) (fun _ s8 ⟨σ8, H8, I9, ⟨hw8, q8⟩, c8⟩ sz8 => ?_) fun _ _ y => xm_no y fun _ _ q => q)
      refine any_sz (wpAny_mono ((e_m pe).run _ s8 σ8 H8 _ I9 q8) (fun xv s9 ⟨yv, H9, I10, r9, ⟨acc, hDl, hz, wn⟩, c9⟩ sz9 => ?_) fun _ _ y => xm_no y fun _ _ q => q)
      refine any_sz (wpAny_mono (app_m (X := bX X s1 H1 scope Cn) I10 hDl hz r9) (fun _ s10 ⟨I11, c10⟩ sz10 => ?_) fun _ _ y => xm_no y fun _ _ q => q)
      have szz : h'.objs.size ≤ s10.heap.objs.size := Nat.le_trans sz8 (Nat.le_trans sz9 sz10)
      have keep : ∀ b ∈ fpl, ∀ o, h'.get? b = some o → s10.heap.get? b = some o ∧ (upd H9 D (.lst (acc ++ [yv]))) b = none := fun b hb o e =>
        let q := I11.inv.pin (b, o) (List.mem_append_right _ (List.mem_append_right _ (mem_pinsAt hb e)))
        ⟨q.1, q.2.1⟩
      have J12 : IM (bX X s1 H1 scope Cn) [] (wipe σ (own.map (·.2))) (upd H9 D (.lst (acc ++ [yv]))) s10 := ⟨(I11.inv.unpinned (pins := [])).weak (by rw [← hw8, wipe_length]) fun j v e => by rw [← hw8] at e; exact (wipe_some e).1, I11.wf⟩
      have none12 : ∀ b ∈ fpl, (upd H9 D (.lst (acc ++ [yv]))) b = none := fun b hb => let ⟨o, e, _⟩ := fob b hb; (keep b hb o e).2
      have C12 := con_keep C7 J12 (fun _ h => h) (fun b hb o e _ => (keep b (List.mem_append_left _ hb) o e).1) ((CalX.of (N := s.heap.objs.size) (pn := []) (c8.trans (c9.trans c10)))) szz slp (held _ _ wn) L1 fun b hb => ⟨none12 b (List.mem_append_left _ hb), fun p hp => absurd hp (by simp)⟩
      rw [hrest] at C12
      have zk12 : ∀ b ∈ [z.heap.objs.size + 3, z.heap.objs.size + 1, z.heap.objs.size + 2, z.heap.objs.size], ∀ o, h'.get? b = some o → s10.heap.get? b = some o := fun b hb o e => (keep b (List.mem_append_right _ hb) o e).1
      have sz12 : s.heap.objs.size ≤ s10.heap.objs.size := Nat.le_trans (Nat.le_trans sL (Nat.le_trans TL (Nat.le_of_lt (Heap.lt_size T7)))) szz
      have ci : ((i + 1 : Nat) : Int) = (i : Int) + 1 := by omega
      have cn : (n : Int) - ((i + 1 : Nat) : Int) = (n : Int) - (i : Int) - 1 := by omega
      refine ⟨cnt - 1, by omega, i + 1, F', _, by omega, C12, ?_, fun b hb => ⟨none12 b (List.mem_append_right _ hb), (noT b hb).1⟩, fun b hb => ?_, sz12, wn⟩
      · obtain ⟨p, q, o8⟩ := o8
        rw [cn, ci]
        exact ⟨zk12 _ mz _ zf, zk12 _ (by simp) _ ((hsb.2 _ e1).trans p8), ⟨p, q, zk12 _ (by simp) _ ((hsb.2 _ e2).trans o8)⟩, zk12 _ (by simp) _ ((hsb.2 _ e3).trans r8)⟩
      · rcases nO b hb with q | q
        · exact f5 b q
        · exact Nat.le_trans (Nat.le_trans LC (Nat.le_of_lt C5.im.inv.lt)) q
  exact start_hm loop (any_exact I4.wf (wpAny_pyIter_zip zp4.zip ⟨rfl, loop⟩))
end
end GT

set_option Elab.async false
set_option linter.all false
set_option maxRecDepth 100000
set_option maxHeartbeats 4000000
set_option exponentiation.threshold 3000
namespace K05P
open PySem PySem.Spec PyProof.Rows L2 RT WM K05 TL GT GenW
theorem parts_flt {C : Addr} {H : Hp} {us : List V} {p : Ps} (h : PartsAt C H us p) : PartsAt C (flt H) us p := by
  induction h with
  | nil => exact .nil
  | lf h1 h2 _ ih => exact .lf (flt_ins h1) (flt_tup h2) ih
  | rp h1 h2 _ _ ih1 ih2 => exact .rp (flt_ins h1) (flt_tup h2) ih1 ih2
theorem IsP.flt {K : PySem.W.Frag} {H : Hp} {a : Addr} {p : Ps} (h : IsP K H a p) : IsP K (flt H) a p := by
  obtain ⟨h1, h2, h3, d, w, t, us, e1, e2, e3, e4⟩ := h
  exact ⟨h1, h2, h3, d, w, t, us, flt_ins e1, flt_tup e2, flt_tup e3, parts_flt e4⟩
theorem gsc_from : GScope Nsteps_from ["program", "index"] (defScope ssteps_from) := ⟨rfl, rfl, rfl, by decide +kernel, rfl, by decide +kernel, by decide +kernel⟩
def spFrom (K : PySem.W.Frag) : GSp := fun vs Hg xs => ∃ (a : Addr) (p : Ps) (i : Nat), vs = [.ref a, .int (i : Int)] ∧ IsP K Hg a p ∧ i ≤ p.size ∧ xs = (p.steps.drop i).map cS
section
variable {P : Program} {w : World} {K : PySem.W.Frag} {mg : Str → Option Value} {base : Heap}
theorem gen_from (D : Ds K) (T : Tx K mg) : GenD P w K mg base 43 (dsteps_from.adr K) D.fd_steps_from ["program", "index"] (spFrom K) := by
  have GI : GenD P w K mg base 42 (dsteps_in.adr K) D.fd_steps_in ["parts", "index"] (spSin K 13) := gen_steps D T 13
  have GC : FnOk P w K mg base CX0 1 _ _ _ (spCheckP K) := ok_checkP D T
  have GL : FnOk P w K mg base CX0 1 _ _ _ (spLength K) := ok_length D T
  have GX : FnOk P w K mg base CX0 3 _ _ _ spIdx := ok_idx D T
  refine genD_of D.F_steps_from gsc_from (by intro n; rfl) (by decide +kernel) (fun vs H xs h => ?_) (fun cd A outer L s vs Hg xs hG hr1 hr2 h G pl => ?_)
  · obtain ⟨a, p, i, rfl, _⟩ := h
    rfl
  · obtain ⟨a, p, i, rfl, hp, hi, rfl⟩ := h
    have nd := gsc_from.nd
    have nx : ∀ (e : Value) (z : Shared), ¬ (fun (_ : Value) (_ : Shared) => False) e z := fun _ _ h => h
    obtain ⟨ok, hl, hw, d, wd, t, us, e1, e2, e3, e4⟩ := id hp
    refine n_cons (n_ps G pl nx (R := fun σ => σ = [some (.ref a), some (.int (i : Int))]) (fun s => ps_expr (pe_call GC (hr2.mono (by decide)) (by rfl) T.g_check_program D.F_check_program.kp (b_check_program D) .nil pass0 (pa_cons (pv 0) pa_nil))) ?_ fun σ hσ => ?_)
    · exact ⟨_, rfl, a, p, rfl, hp, rfl, rfl⟩
    subst hσ
    refine n_cons (n_ps G pl nx (R := fun σ => σ = [some (.ref a), some (.int (i : Int))]) (fun s => ps_expr (pe_call GX (hr2.mono (by decide)) (by rfl) T.g_check_index D.F_check_index.kp (b_check_index D) .nil pass0 (pa_cons (pv 1) (pa_cons (pe_prop (pv 0) T.c_Program T.p_Program_length GL (hr2.mono (by decide)) (b_Program_length D) .nil pass0 rfl) pa_nil)))) ?_ fun σ hσ => ?_)
    · exact ⟨_, rfl, _, rfl, a, d, _, rfl, e1, a, p, rfl, hp, i, p.size, rfl, Int.natCast_nonneg _, Int.ofNat_le.mpr hi, rfl, rfl⟩
    subst hσ
    rw [← List.append_nil ((p.steps.drop i).map cS)]
    refine n_cons (n_from (t := tCons (fl K 0 "_parts") (tCons (tVar 1) tNil)) G pl nx hG GI hr1 (by rfl) T.g_steps_in D.F_steps_in.kp (b_steps_in D) .nil (fun s => pa_cons (pe_fld (pv 0) rfl) (pa_cons (pv 1) pa_nil)) ?_ (n_nil n_end))
    exact ⟨_, rfl, a, _, d, _, .ref t, rfl, e1, T.c_Program, T.n_Program__parts, rfl, _, rfl, rfl, t, us, p, i, rfl, e3, e4, ok, hl, hw, by omega, Nat.lt_of_le_of_lt hi (size_top ok hl hw), rfl⟩
end
end K05P

set_option Elab.async false
set_option linter.all false
set_option maxRecDepth 100000
set_option maxHeartbeats 4000000
set_option exponentiation.threshold 3000
namespace K05P
open PySem PySem.Spec PyProof.Rows L2 RT WM K05 TL GT GenW
abbrev sgl (c : Nat) : Str := ⟨#[c]⟩
theorem join_cs : ∀ l : List Nat, Txt.join ("" : Str) (l.map sgl) = ⟨l.toArray⟩ := fun l => by
  refine ext_tl ?_
  rw [join_eq, tl_join]
  show joinL [] ((l.map sgl).map tl) = l
  induction l with
  | nil => rfl
  | cons c l ih =>
    cases l with
    | nil => rfl
    | cons d l =>
      show [c] ++ ([] ++ joinL [] (((d :: l).map sgl).map tl)) = _
      rw [ih]
      rfl
theorem joinOk_cs (l : List Nat) (h : l.length ≤ sizeLine) : JoinOk ("" : Str) (l.map sgl) = true := by
  have key : ∀ (l : List Nat) (n : Nat), (l.map sgl).foldl (fun a (x : Str) => a + x.length + ("" : Str).length) n = n + l.length := by
    intro l
    induction l with
    | nil => intro n; rfl
    | cons c l ih =>
      intro n
      rw [List.map_cons, List.foldl_cons, ih, List.length_cons]
      show n + 1 + 0 + l.length = _
      omega
  unfold JoinOk
  rw [List.foldl_toArray, key, Nat.zero_add]
  unfold Builtin.Str.tooLong
  simp [h]
def spWr (K : PySem.W.Frag) : Sp := fun vs H Q _ => ∃ (a : Addr) (p : Ps), vs = [.ref a] ∧ IsP K H a p ∧ p.size ≤ 1000 ∧ Q (.str ⟨p.steps.toArray⟩) H
section
variable {P : Program} {w : World} {K : PySem.W.Frag} {mg : Str → Option Value} {base : Heap}
theorem ok_wr (D : Ds K) (T : Tx K mg) : FnM P w K mg base CX0 44 (dwritten.adr K) D.fd_written ["program"] (spWr K) := by
  have GI : GenD P w K mg base 42 (dsteps_in.adr K) D.fd_steps_in ["parts", "index"] (spSin K 13) := gen_steps D T 13
  have GC : FnOk P w K mg base CX0 1 _ _ _ (spCheckP K) := ok_checkP D T
  have GL : FnOk P w K mg base CX0 3 _ _ _ (spLen K) := ok_len D T
  refine okM D.F_written scwritten (fun vs H Q E h => ?_) (fun cdv A outer s H vs Q E hG hr h => ?_)
  · obtain ⟨a, p, rfl, _⟩ := h
    rfl
  · obtain ⟨a, p, rfl, hp, hs, q⟩ := h
    obtain ⟨tM, vM⟩ := T.v_MOST_STEPS
    refine ⟨_, b_cons (s_m (ps_expr (pe_call GC (hr.mono (by decide)) (by rfl) T.g_check_program D.F_check_program.kp (b_check_program D) .nil pass0 (pa_cons (pv 0) pa_nil))))
      (b_cons (s_m (ps_expr (pe_call GL (hr.mono (by decide)) (by rfl) T.g_check_length D.F_check_length.kp (b_check_length D) .nil pass0 (pa_cons (pv 0) (pa_cons (pe_glob (v := .int 1000) rfl vM ⟨_, rfl⟩) pa_nil)))))
      (b_cons (s_ret (e_joinM GI hG hr (by rfl) T.g_steps_in D.F_steps_in.kp (b_steps_in D) .nil pe_str (pa_cons (pe_fld (pv 0) rfl) (pa_cons pe_int pa_nil)))) (b_m pss_nil))), ?_⟩
    obtain ⟨ok, hl, hw, d, wd, t, us, e1, e2, e3, e4⟩ := id hp
    refine ⟨_, rfl, a, p, rfl, hp, _, rfl, a, p, 1000, rfl, hp, hs, ?_⟩
    refine ⟨_, rfl, _, rfl, a, _, d, _, .ref t, rfl, e1, T.c_Program, T.n_Program__parts, rfl, flt H, p.steps.map sgl, flt_sub, ?_, ?_, ?_, ?_⟩
    · refine ⟨t, us, p, 0, rfl, flt_tup e3, parts_flt e4, ok, hl, hw, by omega, by decide, ?_⟩
      rw [List.map_map]
      rfl
    · rw [List.length_map, steps_len]
      exact Nat.le_trans hs (by decide)
    · exact joinOk_cs _ (by rw [steps_len]; exact Nat.le_trans hs (by decide))
    · rw [join_cs]
      exact q
end
end K05P

set_option Elab.async false
set_option linter.all false
set_option maxRecDepth 100000
set_option maxHeartbeats 4000000
set_option exponentiation.threshold 3000
namespace K05P
open PySem PySem.Spec PyProof.Rows L2 RT WM K05 TL
theorem rep_get {c : Nat} (l : List Nat) (m : Nat) (hm : l.length = m) (h0 : 0 < m) : ∀ (n i : Nat), ((List.replicate n l).flatten)[i]? = some c → l[i % m]? = some c
  | 0, i, h => by simp at h
  | n + 1, i, h => by
    rw [List.replicate_succ, List.flatten_cons] at h
    by_cases hi : i < m
    · rw [Nat.mod_eq_of_lt hi]
      rw [List.getElem?_append_left (by omega)] at h
      exact h
    · rw [List.getElem?_append_right (by omega), hm] at h
      have e := rep_get l m hm h0 n (i - m) h
      rw [Nat.mod_eq_sub_mod (by omega)]
      exact e
section
variable {P : Program} {w : World} {K : PySem.W.Frag} {mg : Str → Option Value} {base : Heap}
def spStep (K : PySem.W.Frag) (d : Nat) : Sp := fun vs H Q _ => ∃ (t : Addr) (us : List V) (p : Ps) (i c : Nat), vs = [.ref t, .int (i : Int)] ∧ H t = some (.tup us) ∧ PartsAt (He.ga K "Part") H us p ∧ p.ok ∧ p.lev < d ∧ p.steps[i]? = some c ∧ Q (.str ⟨#[c]⟩) H
theorem ok_step (D : Ds K) (T : Tx K mg) : ∀ d, FnOk P w K mg base CX0 (1 + d) (dstep_in.adr K) D.fd_step_in ["parts", "index"] (spStep K d) := by
  intro d
  induction d with
  | zero =>
    refine D.F_step_in.ok scstep_in (fun vs H Q E h => ?_) (fun cdv A outer s H vs Q E hr h => ?_)
    · obtain ⟨t, us, p, i, c, rfl, _⟩ := h
      rfl
    · obtain ⟨t, us, p, i, c, rfl, _, _, _, h0, _⟩ := h
      exact absurd h0 (Nat.not_lt_zero _)
  | succ d ih =>
  refine D.F_step_in.ok scstep_in (fun vs H Q E h => ?_) (fun cdv A outer s H vs Q E hr h => ?_)
  · obtain ⟨t, us, p, i, c, rfl, _⟩ := h
    rfl
  · obtain ⟨t, us, p, i, c, rfl, et, hp, ok, hd, hc, q⟩ := h
    have nd := scstep_in.nd
    have hr' : Room (1 + d) _ := hr
    refine ⟨_, PSs.nox (pss_cons (ps_set (i := 2) nd rfl (.inl rfl) pe_int)
      (pss_cons (ps_while PassesOwn.never (pt_cmpR op_ge (pv 1) (pe_fld (pe_ix ix_tup (pv 0) (pv 2) (fun _ _ => rfl)) rfl) (nomark _))
        (pss_cons (ps_set (i := 1) nd rfl (.inl rfl) (pe_op op_sub (pv 1) (pe_fld (pe_ix ix_tup (pv 0) (pv 2) (fun _ _ => rfl)) rfl)))
        (pss_one (ps_set (i := 2) nd rfl (.inl rfl) (pe_op op_add (pv 2) pe_int)))))
      (pss_cons (ps_set (i := 3) nd rfl (.inl rfl) (pe_ix ix_tup (pv 0) (pv 2) (fun _ _ => rfl)))
      (pss_cons (ps_if (pt_truth (pe_fld (pv 3) rfl) (by intro _; rfl)) (pss_one (ps_ret (pe_call ih hr' (by rfl) T.g_step_in D.F_step_in.kp (b_step_in D) .nil pass0 (pa_cons (pe_fld (pv 3) rfl) (pa_cons (pe_op op_mod (pv 1) (pe_fld (pv 3) rfl)) pa_nil))))) pss_nil)
      (pss_one (ps_ret (pe_fld (pv 3) rfl))))))), ?_⟩
    refine ⟨fun m σ H' => ∃ (j i' : Nat) (l : List V) (r : Ps) (z3 : Option V), H' = H ∧ σ = [some (.ref t), some (.int (i' : Int)), some (.int (j : Int)), z3] ∧ us.drop j = l ∧ PartsAt (He.ga K "Part") H l r ∧ r.ok ∧ r.lev < d + 1 ∧ r.steps[i']? = some c ∧ m = l.length,
      ⟨_, 0, i, us, p, none, rfl, rfl, rfl, hp, ok, hd, hc, rfl⟩, fun m σ H' h => ?_⟩
    obtain ⟨j, i', l, r, z3, rfl, rfl, hu, hr1, okr, hlr, hcr, rfl⟩ := h
    cases l with
    | nil => cases hr1; cases hcr
    | cons v l =>
      obtain ⟨a, p1, r', d1, fs, rfl, h1, hsz, hp1, ok1, l1, w1, hp', ok', l2, w2, es⟩ := parts_head hr1 okr
      have hx : us[j]? = some (.ref a) := by
        have q := congrArg List.head? hu
        rw [List.head?_drop] at q
        exact q
      have hu' : us.drop (j + 1) = l := by
        have q := congrArg List.tail hu
        rw [List.tail_drop] at q
        exact q
      rw [es] at hcr
      have at_ : ∀ (Q : V → Hp → Prop), Q (.int ((p1.size : Nat) : Int)) H' → tFld K (tOp (rIxT K) (tVar 0) (tVar 2)) "size" [some (.ref t), some (.int (i' : Int)), some (.int (j : Int)), z3] H' Q := fun Q q =>
        ⟨_, rfl, _, rfl, t, us, _, .ref a, rfl, rfl, tupT et, atI_nat hx, a, _, d1, fs, _, rfl, h1, T.c_Part, T.n_Part_size, hsz, q⟩
      refine ⟨_, rfl, at_ _ ?_⟩
      refine ⟨_, _, rfl, rfl, decide ((i' : Int) ≥ ((p1.size : Nat) : Int)), rfl, ?_⟩
      by_cases hge : p1.size ≤ i'
      · rw [decide_eq_true (show (i' : Int) ≥ ((p1.size : Nat) : Int) by omega)]
        refine iteT ?_
        refine ⟨_, fun σ' H'' h => ⟨l.length, Nat.lt_succ_self _, h⟩, ?_⟩
        refine ⟨_, rfl, at_ _ ⟨_, _, rfl, rfl, ?_⟩⟩
        refine ⟨_, rfl, _, _, rfl, rfl, ?_⟩
        refine ⟨j + 1, i' - p1.size, l, r', z3, rfl, ?_, hu', hp', ok', by omega, ?_, rfl⟩
        · have e : (i' : Int) - (p1.size : Int) = ((i' - p1.size : Nat) : Int) := (Int.natCast_sub hge).symm
          show [some (V.ref t), some (V.int ((i' : Int) - (p1.size : Int))), some (V.int ((j : Int) + 1)), z3] = _
          rw [e]
          rfl
        · rw [List.getElem?_append_right (by rw [steps_len]; exact hge), steps_len] at hcr
          exact hcr
      · rw [decide_eq_false (show ¬ (i' : Int) ≥ ((p1.size : Nat) : Int) by omega)]
        refine iteF ?_
        rw [List.getElem?_append_left (by rw [steps_len]; omega)] at hcr
        refine ⟨_, rfl, _, rfl, t, us, _, .ref a, rfl, rfl, tupT et, atI_nat hx, ?_⟩
        cases hp1 with
        | lf g1 g2 g3 =>
          rename_i d2 e c' n r2
          cases g3
          have ec : c' = c := by
            rw [show (Ps.lf c' n .nil).steps = List.replicate n c' from List.append_nil _, List.getElem?_replicate] at hcr
            split at hcr
            · cases hcr; rfl
            · cases hcr
          subst ec
          refine ⟨_, rfl, a, _, d2, _, .ref e, rfl, g1, T.c_Part, T.n_Part_inner, rfl, false, .inr (.inl ⟨[], tupT g2, rfl⟩), iteF ?_⟩
          exact ⟨_, rfl, a, _, d2, _, _, rfl, g1, T.c_Part, T.n_Part_letter, rfl, q⟩
        | rp g1 g2 g3 g4 =>
          rename_i d2 e n us2 b r2
          cases g4
          obtain ⟨hbn, okb, hn, _⟩ := id ok1
          have bp := WM.size_pos okb hbn
          have ne : us2 ≠ [] := by
            intro z
            subst z
            cases g3
            exact hbn rfl
          have hcb : b.steps[i' % b.size]? = some c := rep_get b.steps b.size (steps_len b) bp n i' (by
            rw [show (Ps.rp b n .nil).steps = (List.replicate n b.steps).flatten from List.append_nil _] at hcr
            exact hcr)
          have hlb : b.lev < d := by
            have h : max (1 + b.lev) 0 ≤ r.lev := l1
            omega
          refine ⟨_, rfl, a, _, d2, _, .ref e, rfl, g1, T.c_Part, T.n_Part_inner, rfl, true, .inr (.inl ⟨us2, tupT g2, by cases us2 with | nil => exact absurd rfl ne | cons y us2 => rfl⟩), iteT ?_⟩
          exact ⟨_, rfl, a, _, d2, _, .ref e, rfl, g1, T.c_Part, T.n_Part_inner, rfl, _, rfl, _, rfl, a, _, d2, _, _, rfl, g1, T.c_Part, T.n_Part_unit, rfl, _, _, rfl, rfl, by show (0 : Int) < (b.size : Int); omega, e, us2, b, i' % b.size, c, rfl, g2, g3, okb, hlb, hcb, q⟩
def spAt (K : PySem.W.Frag) : Sp := fun vs H Q _ => ∃ (a : Addr) (p : Ps) (i c : Nat), vs = [.ref a, .int (i : Int)] ∧ IsP K H a p ∧ p.steps[i]? = some c ∧ Q (.str ⟨#[c]⟩) H
theorem ok_at (D : Ds K) (T : Tx K mg) : FnOk P w K mg base CX0 15 (dstep_at.adr K) D.fd_step_at ["program", "index"] (spAt K) := by
  have GC : FnOk P w K mg base CX0 1 _ _ _ (spCheckP K) := ok_checkP D T
  have GL : FnOk P w K mg base CX0 1 _ _ _ (spLength K) := ok_length D T
  have GX : FnOk P w K mg base CX0 3 _ _ _ spIdx := ok_idx D T
  have GS : FnOk P w K mg base CX0 14 _ _ _ (spStep K 13) := ok_step D T 13
  refine D.F_step_at.ok scstep_at (fun vs H Q E h => ?_) (fun cdv A outer s H vs Q E hr h => ?_)
  · obtain ⟨a, p, i, c, rfl, _⟩ := h
    rfl
  · obtain ⟨a, p, i, c, rfl, hp, hc, q⟩ := h
    refine ⟨_, PSs.nox (pss_cons (ps_expr (pe_call GC (hr.mono (by decide)) (by rfl) T.g_check_program D.F_check_program.kp (b_check_program D) .nil pass0 (pa_cons (pv 0) pa_nil)))
      (pss_cons (ps_expr (pe_call GX (hr.mono (by decide)) (by rfl) T.g_check_index D.F_check_index.kp (b_check_index D) .nil pass0 (pa_cons (pv 1) (pa_cons (pe_op op_sub (pe_prop (pv 0) T.c_Program T.p_Program_length GL (hr.mono (by decide)) (b_Program_length D) .nil pass0 rfl) pe_int) pa_nil))))
      (pss_one (ps_ret (pe_call GS hr (by rfl) T.g_step_in D.F_step_in.kp (b_step_in D) .nil pass0 (pa_cons (pe_fld (pv 0) rfl) (pa_cons (pv 1) pa_nil))))))), ?_⟩
    obtain ⟨ok, hl, hw, d, wd, t, us, e1, e2, e3, e4⟩ := id hp
    have hi : i < p.size := by
      have := (List.getElem?_eq_some_iff.mp hc).1
      rwa [steps_len] at this
    refine ⟨_, rfl, a, p, rfl, hp, _, rfl, _, rfl, a, d, _, rfl, e1, a, p, rfl, hp, _, _, rfl, rfl, i, (p.size : Int) - 1, rfl, Int.natCast_nonneg _, by omega, ?_⟩
    exact ⟨_, rfl, a, _, d, _, .ref t, rfl, e1, T.c_Program, T.n_Program__parts, rfl, _, rfl, t, us, p, i, c, rfl, e3, e4, ok, by omega, hc, q⟩
end
end K05P

set_option Elab.async false
set_option linter.all false
set_option maxRecDepth 100000
set_option maxHeartbeats 4000000
set_option exponentiation.threshold 3000
namespace K05P
open PySem PySem.Spec PyProof.Rows L2 RT WM K05 TL
def Keep (t : Addr) (H H' : Hp) : Prop := ∀ b o, b ≠ t → H b = some o → H' b = some o
theorem Keep.refl (t : Addr) (H : Hp) : Keep t H H := fun _ _ _ h => h
theorem Keep.trans {t : Addr} {H H1 H2 : Hp} (a : Keep t H H1) (b : Keep t H1 H2) : Keep t H H2 := fun c o n h => b c o n (a c o n h)
theorem Same.keep {t : Addr} {H H' : Hp} (e : Same H H') : Keep t H H' := fun b o _ h => e b o h
theorem keep_upd {t : Addr} {H : Hp} {o : HO} : Keep t H (upd H t o) := fun b u n h => by
  rw [upd_ne n]
  exact h
theorem p30 : (10 : Int) ^ ((30 : Int).toNat) = 1000000000000000000000000000000 := by decide
theorem p18 : (10 : Int) ^ ((18 : Int).toNat) = 1000000000000000000 := by decide
theorem pw_ok {j : Int} (h0 : 0 ≤ j) (h : j ≤ 1000000) : CPow 10 j := ⟨h0, h, by decide⟩
theorem some_at {u : Int} (h0 : 0 ≤ u) (h : u < 5) : ∃ m : Nat, atI [V.int 2, V.int 3, V.int 9, V.int 60, V.int (10 ^ ((30 : Int).toNat) - 1)] u = some (.int (m : Int)) ∧ 2 ≤ m ∧ m ≤ 1000000000000000000000000000000 - 1 ∧ (u < 2 → m ≤ 3) := by
  rw [p30]
  have e : u = 0 ∨ u = 1 ∨ u = 2 ∨ u = 3 ∨ u = 4 := by omega
  rcases e with rfl | rfl | rfl | rfl | rfl
  · exact ⟨2, atI_nat (j := 0) rfl, by decide, by decide, fun _ => by decide⟩
  · exact ⟨3, atI_nat (j := 1) rfl, by decide, by decide, fun _ => by decide⟩
  · exact ⟨9, atI_nat (j := 2) rfl, by decide, by decide, fun h => absurd h (by decide)⟩
  · exact ⟨60, atI_nat (j := 3) rfl, by decide, by decide, fun h => absurd h (by decide)⟩
  · exact ⟨1000000000000000000000000000000 - 1, atI_nat (j := 4) rfl, by decide, by decide, fun h => absurd h (by decide)⟩
/-- a bag of the law after c draws -/
def Bg (H : Hp) (b : Addr) (c : Nat) : Prop := ∃ A B : Int, H b = some (.lst [.int A, .int B, .int c]) ∧ 0 ≤ A
theorem Bg.same {H H' : Hp} {b : Addr} {c : Nat} (h : Bg H b c) (e : Same H H') : Bg H' b c := by
  obtain ⟨A, B, e1, h1⟩ := h
  exact ⟨A, B, e _ _ e1, h1⟩
section
variable {P : Program} {w : World} {K : PySem.W.Frag} {mg : Str → Option Value} {base : Heap}
def spBag : Sp := fun vs H Q _ => ∃ z : Int, vs = [.int z] ∧ ∀ t H', Same H H' → H t = none → Bg H' t 0 → Q (.ref t) H'
theorem ok_bag (D : Ds K) (T : Tx K mg) : FnOk P w K mg base CX0 1 (d_law_bag.adr K) D.fd__law_bag ["cell"] spBag := by
  refine D.F__law_bag.ok sc_law_bag (fun vs H Q E h => ?_) (fun cdv A outer s H vs Q E hr h => ?_)
  · obtain ⟨z, rfl, _⟩ := h
    rfl
  · obtain ⟨z, rfl, q⟩ := h
    refine ⟨_, PSs.nox (pss_one (ps_ret (pe_lst (pa_cons (pe_callB (call_max2 rfl) (by rfl) T.z_max (by decide +kernel) (pa_cons pe_int (pa_cons (pe_op op_sub (pv 0) (pe_op op_pow pe_int pe_int)) pa_nil))) (pa_cons (pv 0) (pa_cons pe_int pa_nil)))))), ?_⟩
    refine ⟨_, rfl, _, _, rfl, rfl, pw_ok (by decide) (by decide), _, _, rfl, rfl, _, _, rfl, _, rfl, by show 3 ≤ sizeLine; decide, fun t ht => ?_⟩
    refine q t _ (same_new ht) ht ⟨_, z, upd_same, ?_⟩
    split <;> omega
def spPick : Sp := fun vs H Q _ => ∃ (b : Addr) (m : Int) (c : Nat), vs = [.ref b, .int m] ∧ Bg H b c ∧ c ≤ 10000000000000000000000 ∧ 1 ≤ m ∧ m.natAbs < 2 ^ 1500 ∧
  ∀ (u : Int) H', Keep b H H' → Bg H' b (c + 1) → 0 ≤ u → u < m → Q (.int u) H'
theorem ok_pick (D : Ds K) (T : Tx K mg) : FnOk P w K mg base CX0 1 (d_law_pick.adr K) D.fd__law_pick ["bag", "many"] spPick := by
  refine D.F__law_pick.ok sc_law_pick (fun vs H Q E h => ?_) (fun cdv A outer s H vs Q E hr h => ?_)
  · obtain ⟨b, m, c, rfl, _⟩ := h
    rfl
  · obtain ⟨b, m, c, rfl, ⟨A1, B, eb, hA⟩, hc, hm, hm2, q⟩ := h
    have nd := sc_law_pick.nd
    refine ⟨_, PSs.nox (pss_cons (ps_asg (pe_op op_add (pe_ix ix_list (pv 0) pe_int (fun _ _ => rfl)) pe_int) (pg_sub (pv 0) pe_int set_list))
        (pss_cons (ps_if (pt_cmpR op_gt (pe_ix ix_list (pv 0) pe_int (fun _ _ => rfl)) pe_int (nomark _)) (pss_cons (ps_set (i := 2) nd rfl (.inl rfl) (pe_op op_mod (pe_ix ix_list (pv 0) pe_int (fun _ _ => rfl)) (pv 1)))
        (pss_cons (ps_asg (pe_op op_fdivW (pe_ix ix_list (pv 0) pe_int (fun _ _ => rfl)) (pv 1)) (pg_sub (pv 0) pe_int set_list))
        (pss_one (ps_ret (pv 2))))) pss_nil)
        (pss_cons (ps_set (i := 3) nd rfl (.inl rfl) (pe_op op_mod (pe_op op_add (pe_op op_add (pe_op op_mulW (pe_op op_mod (pe_ix ix_list (pv 0) pe_int (fun _ _ => rfl)) pe_int) pe_int) (pe_op op_mulW (pe_ix ix_list (pv 0) pe_int (fun _ _ => rfl)) pe_int)) pe_int) pe_int))
        (pss_cons (ps_set (i := 4) nd rfl (.inl rfl) (pe_op op_mod (pe_op op_add (pe_op op_mulW (pv 3) (pv 3)) (pe_op op_mulW (pe_ix ix_list (pv 0) pe_int (fun _ _ => rfl)) pe_int)) pe_int))
        (pss_one (ps_ret (pe_op op_mod (pe_op op_fdivW (pe_op op_add (pe_op op_mulW (pv 3) pe_int) (pv 4)) pe_int) (pv 1)))))))), ?_⟩
    have g2 : atI [V.int A1, V.int B, V.int c] 2 = some (.int c) := atI_nat (j := 2) rfl
    refine ⟨_, rfl, b, _, 2, _, rfl, rfl, lstL eb, g2, _, _, rfl, rfl, _, rfl, b, _, 2, 2, rfl, rfl, eb, rfl, ?_⟩
    have e2 : upd H b (.lst ([V.int A1, V.int B, V.int c].set 2 (.int ((c : Int) + 1)))) b = some (.lst [.int A1, .int B, .int ((c : Int) + 1)]) := upd_same
    have k0 : atI [V.int A1, V.int B, V.int ((c : Int) + 1)] 0 = some (.int A1) := atI_nat (j := 0) rfl
    have k1 : atI [V.int A1, V.int B, V.int ((c : Int) + 1)] 1 = some (.int B) := atI_nat (j := 1) rfl
    have k2 : atI [V.int A1, V.int B, V.int ((c : Int) + 1)] 2 = some (.int ((c : Int) + 1)) := atI_nat (j := 2) rfl
    refine ⟨_, rfl, b, _, 0, _, rfl, rfl, lstL e2, k0, _, _, rfl, rfl, _, rfl, ite2 (fun e => ?_) (fun e => ?_)⟩
    · have e0 : 0 < A1 := of_decide_eq_true e
      refine ⟨_, rfl, b, _, 0, _, rfl, rfl, lstL e2, k0, _, rfl, _, _, rfl, rfl, by show 0 < m; omega, ?_⟩
      refine ⟨_, rfl, b, _, 0, _, rfl, rfl, lstL e2, k0, _, rfl, _, _, rfl, rfl, wide_div (b := 1500) (by omega) hm2 (by decide) (by decide), ?_⟩
      refine ⟨_, rfl, b, _, 0, 0, rfl, rfl, e2, rfl, _, rfl, ?_⟩
      exact q _ _ (keep_upd.trans keep_upd) ⟨_, B, upd_same, Int.ediv_nonneg hA (by omega)⟩ (Int.emod_nonneg _ (by omega)) (Int.emod_lt_of_pos _ (by omega))
    · have m0 : 0 ≤ B % 2147483629 := Int.emod_nonneg _ (by decide)
      have m1 : B % 2147483629 < 2147483629 := Int.emod_lt_of_pos _ (by decide)
      refine ⟨_, rfl, b, _, 1, _, rfl, rfl, lstL e2, k1, _, _, rfl, rfl, by show (0 : Int) < _; decide, _, _, rfl, rfl, wide_mul (a := 40) (b := 40) (by omega) (by decide) (by decide) (by decide) (by decide), _, rfl, b, _, 2, _, rfl, rfl, lstL e2, k2, _, _, rfl, rfl, wide_mul (a := 80) (b := 40) (by omega) (by decide) (by decide) (by decide) (by decide), _, _, rfl, rfl, _, _, rfl, rfl, _, _, rfl, rfl, by show (0 : Int) < _; decide, ?_⟩
      obtain ⟨f, hf⟩ : ∃ f, f = (B % 2147483629 * 48271 + ((c : Int) + 1) * 69621 + 12345) % 2147483647 := ⟨_, rfl⟩
      have f0 : 0 ≤ f := hf ▸ Int.emod_nonneg _ (by decide)
      have f1 : f < 2147483647 := hf ▸ Int.emod_lt_of_pos _ (by decide)
      show gName 3 (V.int ((B % 2147483629 * 48271 + ((c : Int) + 1) * 69621 + 12345) % 2147483647)) _ _ _
      rw [← hf]
      have fb : f.natAbs < 2 ^ 40 := by omega
      refine ⟨_, rfl, _, rfl, _, _, rfl, rfl, wide_mul (a := 40) (b := 40) fb fb (by decide) (by decide) (by decide), _, rfl, b, _, 2, _, rfl, rfl, lstL e2, k2, _, _, rfl, rfl, wide_mul (a := 80) (b := 40) (by omega) (by decide) (by decide) (by decide) (by decide), _, _, rfl, rfl, _, _, rfl, rfl, by show (0 : Int) < _; decide, ?_⟩
      refine ⟨_, rfl, _, _, rfl, rfl, wide_mul (a := 40) (b := 40) fb (by decide) (by decide) (by decide) (by decide), _, rfl, _, _, rfl, rfl, _, _, rfl, rfl, wide_div (b := 10) (by decide) (by decide) (by decide) (by decide), _, rfl, _, _, rfl, rfl, by show 0 < m; omega, ?_⟩
      exact q _ _ keep_upd ⟨A1, B, e2, hA⟩ (Int.emod_nonneg _ (by omega)) (Int.emod_lt_of_pos _ (by omega))
def spNumber : Sp := fun vs H Q _ => ∃ (b : Addr) (f : Int) (c : Nat), vs = [.ref b, .int f] ∧ Bg H b c ∧ c ≤ 9000000000000000000000 ∧ 0 ≤ f ∧ f ≤ 1 ∧
  ∀ (n : Nat) H', Keep b H H' → Bg H' b (c + 2) → 2 ≤ n → n ≤ WM.T30 → (f = 0 → n ≤ 4) → Q (.str (Str.ofString (toString ((n : Nat) : Int)))) H'
theorem ok_number (D : Ds K) (T : Tx K mg) : FnOk P w K mg base CX0 2 (d_law_number.adr K) D.fd__law_number ["bag", "far"] spNumber := by
  have GP : FnOk P w K mg base CX0 1 _ _ _ spPick := ok_pick D T
  refine D.F__law_number.ok sc_law_number (fun vs H Q E h => ?_) (fun cdv A outer s H vs Q E hr h => ?_)
  · obtain ⟨b, f, c, rfl, _⟩ := h
    rfl
  · obtain ⟨b, f, c, rfl, hb, hc, f0, f1, q⟩ := h
    refine ⟨_, PSs.nox (pss_one (ps_ret (pe_callTy call_str_int (by rfl) T.z_str (by decide +kernel) (pa_cons (pe_op op_add pe_int (pe_call GP hr (by rfl) T.g__law_pick D.F__law_pick.kp (b__law_pick D) .nil pass0 (pa_cons (pv 0) (pa_cons (pe_ix ix_list (pe_lst (pa_cons pe_int (pa_cons pe_int (pa_cons pe_int (pa_cons pe_int (pa_cons (pe_op op_sub (pe_op op_pow pe_int pe_int) pe_int) pa_nil)))))) (pe_call GP hr (by rfl) T.g__law_pick D.F__law_pick.kp (b__law_pick D) .nil pass0 (pa_cons (pv 0) (pa_cons (pe_op op_add pe_int (pe_op op_mulW pe_int (pv 1))) pa_nil))) (fun _ _ => rfl)) pa_nil)))) pa_nil)))), ?_⟩
    obtain ⟨A, B, eb, _⟩ := id hb
    refine ⟨_, rfl, _, _, rfl, rfl, pw_ok (by decide) (by decide), _, _, rfl, rfl, by show 5 ≤ sizeLine; decide, fun l hl => ?_⟩
    have sl := same_new (o := .lst [.int 2, .int 3, .int 9, .int 60, .int (10 ^ (30 : Int).toNat - 1)]) hl
    have nl : l ≠ b := Ne.symm (ne_of_none eb hl)
    refine ⟨_, rfl, _, rfl, _, _, rfl, rfl, wide_mul (a := 10) (b := 10) (by decide) (by omega) (by decide) (by decide) (by decide), _, _, rfl, rfl, b, _, c, rfl, hb.same sl, by omega, by omega, ?_, fun u H1 k1 b1 u0 u1 => ?_⟩
    · exact Nat.lt_of_lt_of_le (show (2 + 3 * f).natAbs < 2 ^ 10 by omega) (Nat.pow_le_pow_right (by decide) (by decide))
    obtain ⟨m, em, m2, mT, m3⟩ := some_at (u := u) u0 (by omega)
    refine ⟨l, _, u, _, rfl, rfl, lstL (k1 _ _ nl upd_same), em, b, (m : Int), c + 1, rfl, b1, by omega, by omega, ?_, fun u2 H2 k2 b2 v0 v1 => ?_⟩
    · have p100 : (2 : Nat) ^ 100 = 1267650600228229401496703205376 := by decide
      have h1 : ((m : Int)).natAbs < 2 ^ 100 := by
        rw [p100]
        omega
      exact Nat.lt_of_lt_of_le h1 (Nat.pow_le_pow_right (by decide) (by decide))
    obtain ⟨k, rfl⟩ := Int.eq_ofNat_of_zero_le v0
    have hk : 2 + k ≤ WM.T30 := by
      have : WM.T30 = 1000000000000000000000000000000 := by decide
      omega
    refine ⟨_, _, rfl, rfl, ((2 + k : Nat) : Int), ?_, ?_, q (2 + k) H2 ((Same.keep sl).trans (k1.trans k2)) b2 (by omega) hk (fun z => by subst z; have := m3 (by omega); omega)⟩
    · show [V.int ((2 : Int) + (k : Int))] = _
      rw [show (2 : Int) + (k : Int) = ((2 + k : Nat) : Int) by omega]
    · have p100 : (2 : Nat) ^ 100 = 1267650600228229401496703205376 := by decide
      have hT : WM.T30 = 1000000000000000000000000000000 := by decide
      have h1 : (((2 + k : Nat) : Int)).natAbs < 2 ^ 100 := by
        rw [p100]
        omega
      have h2 : (((2 + k : Nat) : Int)).natAbs.log2 < 100 := PySem.Flt.log2_lt_of (by decide) h1
      exact Nat.lt_trans h2 (by decide)
end
end K05P

set_option Elab.async false
set_option linter.all false
set_option maxRecDepth 100000
set_option maxHeartbeats 4000000
set_option exponentiation.threshold 3000
namespace K05P
open PySem PySem.Spec PyProof.Rows L2 RT WM K05 TL
theorem word_two (c : Nat) {n : Nat} (h : n ≠ 1) : (⟨#[c]⟩ : Str) ++ Str.ofString (toString ((n : Nat) : Int)) = (Wd.lt c n).str := by
  refine ext_tl ?_
  rw [tl_append, tl_num]
  show [c] ++ numL n = if n = 1 then [c] else c :: numL n
  rw [if_neg h]
  rfl
theorem word_one (c : Nat) : (⟨#[c]⟩ : Str) ++ ("" : Str) = (Wd.lt c 1).str := by
  refine ext_tl ?_
  rw [tl_append]
  rfl
theorem Keep.freeB {t : Addr} {H H' : Hp} {p : Addr} (e : Keep t H H') (h : H' p = none) (n : p ≠ t) : H p = none := by
  cases q : H p with
  | none => rfl
  | some o =>
    rw [e p o n q] at h
    cases h
theorem ifAnd3 {A B C : TT} {T E : TS} {D : Ends} {σ : L2.St} {H : Hp} {a b c : Bool} (hA : ∀ Q : Bool → Hp → Prop, Q a H → A σ H Q) (hB : ∀ Q : Bool → Hp → Prop, Q b H → B σ H Q) (hC : ∀ Q : Bool → Hp → Prop, Q c H → C σ H Q) (hT : a = true → b = true → c = true → T D σ H) (hE : ¬ (a = true ∧ b = true ∧ c = true) → E D σ H) : tIfS (tAnd A (tAnd B C)) T E D σ H := by
  refine hA _ ?_
  cases a with
  | false => exact iteF (hE (fun z => Bool.false_ne_true z.1))
  | true =>
    refine iteT (hB _ ?_)
    cases b with
    | false => exact iteF (hE (fun z => Bool.false_ne_true z.2.1))
    | true =>
      refine iteT (hC _ ?_)
      cases c with
      | false => exact iteF (hE (fun z => Bool.false_ne_true z.2.2))
      | true => exact iteT (hT rfl rfl rfl)
section
variable {P : Program} {w : World} {K : PySem.W.Frag} {mg : Str → Option Value} {base : Heap}
/-- small numbers, where they are to be -/
def Sm (f : Int) (p : Ps) : Prop := f = 0 → ∀ x ∈ p.words, numOf x ≤ 4
theorem sm_nil {f : Int} : Sm f .nil := fun _ x h => absurd h (by simp [Ps.words])
theorem sm_rp {f : Int} {p b : Ps} {n : Nat} (h : Sm f p) (hb : Sm f b) (hn : f = 0 → n ≤ 4) : Sm f (p.app (.rp b n .nil)) := fun z x hx => by
  rw [WM.app_words] at hx
  rcases List.mem_append.mp hx with hx | hx
  · exact h z x hx
  · rcases List.mem_cons.mp (show x ∈ Wd.op :: (b.words ++ [Wd.cl n]) from hx) with rfl | hx
    · show 1 ≤ 4; decide
    · rcases List.mem_append.mp hx with hx | hx
      · exact hb z x hx
      · rw [List.mem_singleton.mp hx]; exact hn z
theorem sm_lf {f : Int} {p : Ps} {c n : Nat} (h : Sm f p) (hn : f = 0 → n ≤ 4) : Sm f (p.app (.lf c n .nil)) := fun z x hx => by
  rw [WM.app_words] at hx
  rcases List.mem_append.mp hx with hx | hx
  · exact h z x hx
  · rw [List.mem_singleton.mp (show x ∈ [Wd.lt c n] from hx)]; exact hn z
def spLW (d : Nat) : Sp := fun vs H Q _ => ∃ (b : Addr) (m dp : Nat) (S : Str) (f : Int) (c : Nat), vs = [.ref b, .int (m : Int), .int (dp : Int), .str S, .int f] ∧ dp < d ∧ Bg H b c ∧ c + 20 * m ≤ 9000000000000000000000 ∧ 1 ≤ m ∧ m ≤ 1000 ∧ (∀ x ∈ S.cps.toList, x ∈ six) ∧ 1 ≤ S.length ∧ S.length ≤ 10 ∧ 0 ≤ f ∧ f ≤ 1 ∧
  ∀ (wl : Addr) (p : Ps) (c' : Nat) H', Keep b H H' → Bg H' b c' → c ≤ c' → c' ≤ c + 1 + 10 * p.words.length → p.ok → Sm f p → p.lev ≤ dp → 1 ≤ p.words.length → p.words.length ≤ m → H wl = none → H' wl = some (.lst (wstrs p.words)) → Q (.ref wl) H'
theorem ok_lw (D : Ds K) (T : Tx K mg) : ∀ d, FnOk P w K mg base CX0 (3 + d) (d_law_words.adr K) D.fd__law_words ["bag", "most", "deep", "letters", "far"] (spLW d) := by
  have GP : FnOk P w K mg base CX0 1 _ _ _ spPick := ok_pick D T
  have GN : FnOk P w K mg base CX0 2 _ _ _ spNumber := ok_number D T
  intro d
  induction d with
  | zero =>
    refine D.F__law_words.ok sc_law_words (fun vs H Q E h => ?_) (fun cdv A outer s H vs Q E hr h => ?_)
    · obtain ⟨b, m, dp, S, f, c, rfl, _⟩ := h
      rfl
    · obtain ⟨b, m, dp, S, f, c, rfl, h0, _⟩ := h
      exact absurd h0 (Nat.not_lt_zero _)
  | succ d ih =>
  refine D.F__law_words.ok sc_law_words (fun vs H Q E h => ?_) (fun cdv A outer s H vs Q E hr h => ?_)
  · obtain ⟨b, m, dp, S, f, c, rfl, _⟩ := h
    rfl
  · obtain ⟨b, m, dp, S, f, c, rfl, hdp, hb, hc, m1, m2, hS, S1, S2, f0, f1, q⟩ := h
    have nd := sc_law_words.nd
    have hr' : Room (3 + d) _ := hr
    have hr1 := hr'.mono (show 1 ≤ 3 + d by omega)
    have hr2 := hr'.mono (show 2 ≤ 3 + d by omega)
    refine ⟨_, PSs.nox (pss_cons (ps_set (i := 5) nd rfl (.inl rfl) (pe_lst pa_nil))
        (pss_cons (ps_set (i := 6) nd rfl (.inl rfl) (pe_op op_add pe_int (pe_call GP hr1 (by rfl) T.g__law_pick D.F__law_pick.kp (b__law_pick D) .nil pass0 (pa_cons (pv 0) (pa_cons (pv 1) pa_nil)))))
        (pss_cons (ps_while PassesOwn.never (pt_cmpR op_lt (pe_callB call_len_seq (by rfl) T.z_len PySem.boot_len (pa_cons (pv 5) pa_nil)) (pv 6) (nomark _))
      (pss_cons (ps_set (i := 7) nd rfl (.inl rfl) (pe_call GP hr1 (by rfl) T.g__law_pick D.F__law_pick.kp (b__law_pick D) .nil pass0 (pa_cons (pv 0) (pa_cons pe_int pa_nil))))
        (pss_cons (ps_set (i := 8) nd rfl (.inl rfl) (pe_op op_sub (pv 6) (pe_callB call_len_seq (by rfl) T.z_len PySem.boot_len (pa_cons (pv 5) pa_nil))))
        (pss_one (ps_if (PW.pt (pw_and (pt_cmpR op_eq (pv 7) pe_int (nomark _)) (pw_and (pt_cmpR op_gt (pv 2) pe_int (nomark _)) (pw_and1 (pt_cmpR op_gt (pv 8) pe_int (nomark _)))))) (pss_cons (ps_set (i := 9) nd rfl (.inl rfl) (pe_call ih hr' (by rfl) T.g__law_words D.F__law_words.kp (b__law_words D) .nil pass0 (pa_cons (pv 0) (pa_cons (pe_op op_sub (pv 8) pe_int) (pa_cons (pe_op op_sub (pv 2) pe_int) (pa_cons (pv 3) (pa_cons (pv 4) pa_nil)))))))
        (pss_one (ps_set (i := 5) nd rfl (.inl rfl) (pe_op op_cat (pe_op op_cat (pe_op op_cat (pv 5) (pe_lst (pa_cons pe_str pa_nil))) (pv 9)) (pe_lst (pa_cons (pe_op op_add_str pe_str (pe_call GN hr2 (by rfl) T.g__law_number D.F__law_number.kp (b__law_number D) .nil pass0 (pa_cons (pv 0) (pa_cons (pv 4) pa_nil)))) pa_nil)))))) (pss_one (ps_expr (pe_bm PySem.F.plainAttrs_list PySem.F.slot_list_append PySem.F.type_list_append mt_append (pv 5) (pa_cons (pe_op op_add_str (pe_ix ix_str (pv 3) (pe_call GP hr1 (by rfl) T.g__law_pick D.F__law_pick.kp (b__law_pick D) .nil pass0 (pa_cons (pv 0) (pa_cons (pe_callB call_len_str (by rfl) T.z_len PySem.boot_len (pa_cons (pv 3) pa_nil)) pa_nil))) (fun _ _ => rfl)) (pe_ix ix_list (pe_lst (pa_cons pe_str (pa_cons (pe_call GN hr2 (by rfl) T.g__law_number D.F__law_number.kp (b__law_number D) .nil pass0 (pa_cons (pv 0) (pa_cons (pv 4) pa_nil))) pa_nil))) (pe_callTy call_int1 (by rfl) T.z_int (by decide +kernel) (pa_cons (pe_cmpR op_eq (pv 7) pe_int (nomark _)) pa_nil)) (fun _ _ => rfl))) pa_nil)))))))))
        (pss_one (ps_ret (pv 5)))))), ?_⟩
    obtain ⟨A0, B0, eb0, _⟩ := id hb
    refine ⟨by show 0 ≤ sizeLine; decide, fun l hl => ?_⟩
    have sl := same_new (o := .lst []) hl
    refine ⟨_, rfl, _, rfl, b, (m : Int), c, rfl, hb.same sl, by omega, by omega, ?_, fun u H1 k1 b1 u0 u1 => ⟨_, _, rfl, rfl, ?_⟩⟩
    · exact Nat.lt_of_lt_of_le (show ((m : Int)).natAbs < 2 ^ 20 by omega) (Nat.pow_le_pow_right (by decide) (by decide))
    obtain ⟨g, rfl⟩ := Int.eq_ofNat_of_zero_le u0
    obtain ⟨M, eM⟩ : ∃ M, M = 1 + g := ⟨_, rfl⟩
    have hMm : M ≤ m := by omega
    show Ends.nx _ [some (.ref b), some (.int (m : Int)), some (.int (dp : Int)), some (.str S), some (.int f), some (.ref l), some (.int (1 + (g : Int))), none, none, none] _
    rw [show (1 : Int) + (g : Int) = (M : Int) by omega]
    have ntl : l ≠ b := Ne.symm (ne_of_none eb0 hl)
    refine ⟨fun r σ H' => ∃ (wl : Addr) (p : Ps) (c' : Nat) (z7 z8 z9 : Option V), r = M - p.words.length ∧ p.words.length ≤ M ∧ Keep b H H' ∧ Bg H' b c' ∧ c ≤ c' ∧ c' ≤ c + 1 + 10 * p.words.length ∧ (p.ok ∧ Sm f p) ∧ p.lev ≤ dp ∧ H wl = none ∧ H' wl = some (.lst (wstrs p.words)) ∧
      σ = [some (.ref b), some (.int (m : Int)), some (.int (dp : Int)), some (.str S), some (.int f), some (.ref wl), some (.int (M : Int)), z7, z8, z9],
      ⟨M, l, .nil, c + 1, none, none, none, rfl, Nat.zero_le _, (Same.keep sl).trans k1, b1, by omega, by omega, ⟨trivial, sm_nil⟩, Nat.zero_le _, hl, k1 _ _ ntl upd_same, rfl⟩, fun r σ H' h => ?_⟩
    obtain ⟨wl, p, c', z7, z8, z9', rfl, hpM, kH, bg, c1, c2, ⟨okp, smp⟩, lvp, hw, ew, rfl⟩ := h
    have lw : (wstrs p.words).length = p.words.length := List.length_map ..
    by_cases hfull : p.words.length = M
    · refine ⟨_, rfl, wl, _, rfl, .inl (lstL ew), _, rfl, _, _, rfl, rfl, false, congrArg V.bl (decide_eq_false (by rw [lw]; omega)), iteF ⟨_, rfl, ?_⟩⟩
      exact q wl p c' H' kH bg c1 c2 okp smp lvp (by omega) (by omega) hw ew
    refine ⟨_, rfl, wl, _, rfl, .inl (lstL ew), _, rfl, _, _, rfl, rfl, true, congrArg V.bl (decide_eq_true (by rw [lw]; omega)), iteT ?_⟩
    obtain ⟨Ab, Bb, ebb, _⟩ := id bg
    have nwb : wl ≠ b := fun z => by
      rw [← z, hw] at eb0
      cases eb0
    have small : ∀ {k : Int}, k.natAbs < 2 ^ 20 → k.natAbs < 2 ^ 1500 := fun h => Nat.lt_of_lt_of_le h (Nat.pow_le_pow_right (by decide) (by decide))
    refine ⟨fun σ' H'' => ∃ (wl : Addr) (p2 : Ps) (c' : Nat) (z7 z8 z9 : Option V), p.words.length < p2.words.length ∧ p2.words.length ≤ M ∧ Keep b H H'' ∧ Bg H'' b c' ∧ c ≤ c' ∧ c' ≤ c + 1 + 10 * p2.words.length ∧ (p2.ok ∧ Sm f p2) ∧ p2.lev ≤ dp ∧ H wl = none ∧ H'' wl = some (.lst (wstrs p2.words)) ∧
      σ' = [some (.ref b), some (.int (m : Int)), some (.int (dp : Int)), some (.str S), some (.int f), some (.ref wl), some (.int (M : Int)), z7, z8, z9],
      fun σ' H'' h => ?_, ?_⟩
    · obtain ⟨wl, p2, c', z7, z8, z9, g1, g2, g3, g4, g5, g6, g7, g8, g9, g10, rfl⟩ := h
      exact ⟨M - p2.words.length, by omega, wl, p2, c', z7, z8, z9, rfl, g2, g3, g4, g5, g6, g7, g8, g9, g10, rfl⟩
    refine ⟨_, rfl, b, 5, c', rfl, bg, by omega, by omega, small (by decide), fun w0 H2 k2 b2 w1 w2 => ?_⟩
    have ew2 := k2 _ _ nwb ew
    have k2' := kH.trans k2
    refine ⟨_, rfl, _, rfl, wl, _, rfl, .inl (lstL ew2), _, _, rfl, rfl, ?_⟩
    rw [lw]
    dsimp only [List.set_cons_zero, List.set_cons_succ]
    obtain ⟨R, eR⟩ : ∃ R, R = M - p.words.length := ⟨_, rfl⟩
    show tIfS _ _ _ _ [some (.ref b), some (.int (m : Int)), some (.int (dp : Int)), some (.str S), some (.int f), some (.ref wl), some (.int (M : Int)), some (.int w0), some (.int ((M : Int) - (p.words.length : Int))), z9'] _
    rw [show (M : Int) - (p.words.length : Int) = (R : Int) by omega]
    refine ifAnd3 (a := decide (V.int w0 = V.int 0)) (b := decide ((0 : Int) < (dp : Int))) (c := decide ((2 : Int) < (R : Int))) (fun Q h => ⟨_, rfl, rfl, _, rfl, h⟩) (fun Q h => ⟨_, rfl, _, _, rfl, rfl, _, rfl, h⟩) (fun Q h => ⟨_, rfl, _, _, rfl, rfl, _, rfl, h⟩) (fun g1 g2 g3 => ?_) (fun _ => ?_)
    · have d0 : 0 < dp := by have := of_decide_eq_true g2; omega
      have r2 : 2 < R := by have := of_decide_eq_true g3; omega
      refine ⟨_, rfl, _, rfl, _, _, rfl, rfl, _, rfl, _, _, rfl, rfl, _, rfl, _, rfl, b, R - 2, dp - 1, S, f, c' + 1, ?_, by omega, b2, by omega, by omega, by omega, hS, S1, S2, f0, f1, fun wl2 p2 c3 H3 k3 b3 l3 u3 ok3 sm3 lv3 n1 n2 nw2 ew3 => ?_⟩
      · show [V.ref b, V.int ((R : Int) - 2), V.int ((dp : Int) - 1), V.str S, V.int f] = _
        rw [show (R : Int) - 2 = ((R - 2 : Nat) : Int) by omega, show (dp : Int) - 1 = ((dp - 1 : Nat) : Int) by omega]
      have ln2 : (wstrs p2.words).length = p2.words.length := List.length_map ..
      obtain ⟨A3, B3, e3, _⟩ := id b3
      have nw2b : wl2 ≠ b := by
        obtain ⟨A2, B2, e2, _⟩ := id b2
        exact Ne.symm (ne_of_none e2 nw2)
      have ew4 := k3 _ _ nwb ew2
      have z1000 : 100000 ≤ sizeLine := by decide
      refine ⟨_, rfl, by show 1 ≤ sizeLine; decide, fun a1 y1 => ?_⟩
      have q1 := same_new (o := .lst [.str "("]) y1
      refine ⟨_, _, _, _, rfl, rfl, q1 _ _ ew4, upd_same, ?_, fun a2 y2 => ?_⟩
      · rw [lw]
        show p.words.length + 1 ≤ sizeLine
        omega
      have q2 := same_new (o := .lst (wstrs p.words ++ [.str "("])) y2
      refine ⟨_, rfl, _, _, _, _, rfl, rfl, upd_same, q2 _ _ (q1 _ _ ew3), ?_, fun a3 y3 => ?_⟩
      · rw [List.length_append, lw, ln2]
        show p.words.length + 1 + p2.words.length ≤ sizeLine
        omega
      have q3 := same_new (o := .lst ((wstrs p.words ++ [.str "("]) ++ wstrs p2.words)) y3
      have b3' := ((b3.same q1).same q2).same q3
      obtain ⟨A4, B4, e4, _⟩ := id b3'
      refine ⟨_, rfl, _, rfl, b, f, c3, rfl, b3', by omega, f0, f1, fun nn H6 k6 b6 n2' nT nS => ⟨_, _, rfl, rfl, ?_, by show 1 ≤ sizeLine; decide, fun a4 y4 => ?_⟩⟩
      · rw [dgS_eq]
        have := dg_len nT
        have e1 : (")" : Str).length = 1 := rfl
        omega
      have na3 : a3 ≠ b := by
        have eb3 := q2 _ _ (q1 _ _ e3)
        exact Ne.symm (ne_of_none eb3 y3)
      have ea3 := k6 a3 _ na3 upd_same
      have q4 := same_new (o := .lst [.str ((")" : Str) ++ Str.ofString (toString ((nn : Nat) : Int)))]) y4
      refine ⟨_, _, _, _, rfl, rfl, q4 _ _ ea3, upd_same, ?_, fun a5 y5 => ?_⟩
      · rw [List.length_append, List.length_append, lw, ln2]
        show p.words.length + 1 + p2.words.length + 1 ≤ sizeLine
        omega
      have q5 := same_new (o := .lst (((wstrs p.words ++ [.str "("]) ++ wstrs p2.words) ++ [.str ((")" : Str) ++ Str.ofString (toString ((nn : Nat) : Int)))])) y5
      have b7 := b6.same q4
      obtain ⟨A7, B7, e7, _⟩ := id b7
      have kk : Keep b H _ := k2'.trans (k3.trans ((Same.keep (q1.trans (q2.trans q3))).trans (k6.trans (Same.keep q4))))
      have hn2 : p2 ≠ .nil := fun z => by
        rw [z] at n1
        exact absurd n1 (by decide)
      have ewd : (p.app (.rp p2 nn .nil)).words = p.words ++ (.op :: (p2.words ++ [.cl nn])) := WM.app_words _ _
      have lwd : (p.app (.rp p2 nn .nil)).words.length = p.words.length + (p2.words.length + 2) := by
        rw [ewd, List.length_append, List.length_cons, List.length_append]
        rfl
      refine ⟨a5, p.app (.rp p2 nn .nil), c3 + 2, _, _, _, by omega, by omega, kk.trans (Same.keep q5), b7.same q5, by omega, by omega, ⟨app_ok okp ⟨hn2, ok3, ⟨n2', nT⟩, trivial⟩, sm_rp smp sm3 nS⟩, ?_, Keep.freeB kk y5 (Ne.symm (ne_of_none e7 y5)), ?_, rfl⟩
      · rw [app_lev]
        show max p.lev (max (1 + p2.lev) 0) ≤ dp
        omega
      · rw [upd_same, ewd]
        show some (HO.lst (((wstrs p.words ++ [.str "("]) ++ wstrs p2.words) ++ [.str ((")" : Str) ++ Str.ofString (toString (((nn : Nat)) : Int)))])) = some (HO.lst (wstrs (p.words ++ (.op :: (p2.words ++ [.cl nn])))))
        rw [word_cl]
        unfold wstrs
        simp only [List.map_append, List.map_cons, List.map_nil, List.append_assoc, List.cons_append, List.nil_append]
        rfl
    · have S1' : 1 ≤ S.length := S1
      have zS : S.length ≤ sizeLine := Nat.le_trans S2 (by decide)
      refine ⟨_, rfl, .inl ⟨rfl, _, lstL ew2⟩, _, rfl, _, rfl, _, rfl, _, rfl, zS, b, (S.length : Int), c' + 1, rfl, b2, by omega, by omega, small (by omega), fun u H3 k3 b3 u0' u1' => ?_⟩
      obtain ⟨j, rfl⟩ := Int.eq_ofNat_of_zero_le u0'
      have hj : j < S.cps.toList.length := by
        rw [Array.length_toList]
        have : S.length = S.cps.size := rfl
        omega
      obtain ⟨ch, ech⟩ : ∃ ch, S.cps.toList[j]? = some ch := ⟨_, List.getElem?_eq_getElem hj⟩
      have hch : ch ∈ six := hS ch (List.mem_of_getElem? ech)
      refine ⟨S, _, ch, rfl, rfl, zS, atI_nat ech, ?_⟩
      refine ⟨_, rfl, _, rfl, b, f, c' + 1 + 1, rfl, b3, by omega, f0, f1, fun nn H4 k4 b4 n2 nT nS => ⟨by show 2 ≤ sizeLine; decide, fun a1 y1 => ?_⟩⟩
      have q1 := same_new (o := .lst [.str "", .str (Str.ofString (toString ((nn : Nat) : Int)))]) y1
      have ew5 := q1 _ _ (k4 _ _ nwb (k3 _ _ nwb ew2))
      have b5 := b4.same q1
      have kk : Keep b H _ := k2'.trans (k3.trans (k4.trans (Same.keep q1)))
      have clen : (⟨#[ch]⟩ : Str).length = 1 := rfl
      have fin : ∀ (k : Nat), 1 ≤ k → k ≤ WM.T30 → (f = 0 → k ≤ 4) → ∃ (wl2 : Addr) (p2 : Ps) (c2 : Nat) (z7 z8 z9 : Option V), p.words.length < p2.words.length ∧ p2.words.length ≤ M ∧ Keep b H (upd (upd H4 a1 (.lst [.str "", .str (Str.ofString (toString ((nn : Nat) : Int)))])) wl (.lst (wstrs p.words ++ [.str (Wd.lt ch k).str]))) ∧ Bg (upd (upd H4 a1 (.lst [.str "", .str (Str.ofString (toString ((nn : Nat) : Int)))])) wl (.lst (wstrs p.words ++ [.str (Wd.lt ch k).str]))) b c2 ∧ c ≤ c2 ∧ c2 ≤ c + 1 + 10 * p2.words.length ∧ (p2.ok ∧ Sm f p2) ∧ p2.lev ≤ dp ∧ H wl2 = none ∧ (upd (upd H4 a1 (.lst [.str "", .str (Str.ofString (toString ((nn : Nat) : Int)))])) wl (.lst (wstrs p.words ++ [.str (Wd.lt ch k).str]))) wl2 = some (.lst (wstrs p2.words)) ∧
          ([some (.ref b), some (.int (m : Int)), some (.int (dp : Int)), some (.str S), some (.int f), some (.ref wl), some (.int (M : Int)), some (.int w0), some (.int (R : Int)), z9'] : L2.St) = [some (.ref b), some (.int (m : Int)), some (.int (dp : Int)), some (.str S), some (.int f), some (.ref wl2), some (.int (M : Int)), z7, z8, z9] := by
        intro k hk1 hkT hk4
        have ewd : (p.app (.lf ch k .nil)).words = p.words ++ [.lt ch k] := WM.app_words _ _
        have lwd : (p.app (.lf ch k .nil)).words.length = p.words.length + 1 := by
          rw [ewd, List.length_append]
          rfl
        refine ⟨wl, p.app (.lf ch k .nil), c' + 1 + 1 + 2, _, _, _, by omega, by omega, fun x o hx e => ?_, ?_, by omega, by omega, ⟨app_ok okp ⟨⟨hch, hk1, hkT⟩, trivial⟩, sm_lf smp hk4⟩, ?_, hw, ?_, rfl⟩
        · rw [upd_ne (ne_of_none e hw)]
          exact kk x o hx e
        · obtain ⟨X1, X2, ex, hx⟩ := b5
          exact ⟨X1, X2, (upd_ne (Ne.symm nwb)).trans ex, hx⟩
        · rw [app_lev]
          show max p.lev 0 ≤ dp
          omega
        · rw [upd_same, ewd]
          unfold wstrs
          rw [List.map_append]
          rfl
      have wl1 : (wstrs p.words).length < sizeLine := by
        rw [lw]
        exact Nat.lt_of_lt_of_le (show p.words.length < 1001 by omega) (by decide)
      by_cases h1 : w0 = 1
      · subst h1
        refine ⟨_, rfl, rfl, .inr ⟨true, rfl, a1, _, 1, _, rfl, rfl, lstL upd_same, atI_nat (j := 1) rfl, _, _, rfl, rfl, ?_, ?_⟩⟩
        · rw [dgS_eq, clen]
          have := dg_len nT
          exact Nat.le_trans (show 1 + (dgS nn).length ≤ 100 by omega) (by decide)
        rw [word_two ch (by omega)]
        exact ⟨wl, wstrs p.words, _, rfl, rfl, ew5, wl1, fin nn (by omega) nT nS⟩
      · refine ⟨_, rfl, rfl, .inr ⟨false, ?_, a1, _, 0, _, rfl, rfl, lstL upd_same, atI_nat (j := 0) rfl, _, _, rfl, rfl, by rw [clen]; decide, ?_⟩⟩
        · show [V.bl (decide (V.int w0 = V.int 1))] = _
          rw [decide_eq_false (fun z => by injection z with z; exact h1 z)]
        rw [word_one ch]
        exact ⟨wl, wstrs p.words, _, rfl, rfl, ew5, wl1, fin 1 (Nat.le_refl _) (by decide) (fun _ => by decide)⟩
end
end K05P

set_option Elab.async false
set_option linter.all false
set_option maxRecDepth 100000
set_option maxHeartbeats 4000000
set_option exponentiation.threshold 300000
namespace K05P
open PySem PySem.Spec PyProof.Rows L2 RT WM K05 TL
theorem ixN_last (m : Nat) : ixN (m + 1) (-1) = some m := by
  unfold ixN
  rw [if_neg (by decide), if_pos (by omega)]
  exact congrArg some (by omega)
theorem six_low {c : Nat} (h : c ∈ six) : 97 ≤ c ∧ c ≤ 122 := (by decide : ∀ c ∈ six, 97 ≤ c ∧ c ≤ 122) c h
/-- the totals, the innermost first -/
def stepL : List Nat → Wd → List Nat
  | s, .op => 0 :: s
  | x :: y :: s, .cl n => (y + x * n) :: s
  | x :: s, .lt _ n => (x + n) :: s
  | s, _ => s
def foldS (s : List Nat) (ws : List Wd) : List Nat := ws.foldl stepL s
theorem fold_tree : ∀ (p : Ps) (x : Nat) (s : List Nat), foldS (x :: s) p.words = (x + p.size) :: s
  | .nil, x, s => rfl
  | .lf c n r, x, s => by
    show foldS ((x + n) :: s) r.words = _
    rw [fold_tree r]
    show (x + n + r.size) :: s = (x + (n + r.size)) :: s
    rw [Nat.add_assoc]
  | .rp b n r, x, s => by
    show foldS (0 :: x :: s) (b.words ++ Wd.cl n :: r.words) = _
    unfold foldS
    rw [List.foldl_append]
    have ib := fold_tree b 0 (x :: s)
    unfold foldS at ib
    rw [ib]
    show foldS ((x + (0 + b.size) * n) :: s) r.words = _
    rw [fold_tree r]
    show (x + (0 + b.size) * n + r.size) :: s = (x + (b.size * n + r.size)) :: s
    rw [Nat.zero_add, Nat.add_assoc]
theorem foldS_succ {s : List Nat} {ws : List Wd} {i : Nat} {x : Wd} (h : ws[i]? = some x) : foldS s (ws.take (i + 1)) = stepL (foldS s (ws.take i)) x := by
  unfold foldS
  rw [List.take_succ, h, List.foldl_append]
  rfl
def totV (s : List Nat) : List V := s.reverse.map fun n : Nat => V.int (n : Int)
theorem totV_cons (x : Nat) (s : List Nat) : totV (x :: s) = totV s ++ [.int (x : Int)] := by
  unfold totV
  rw [List.reverse_cons, List.map_append]
  rfl
theorem totV_len (s : List Nat) : (totV s).length = s.length := by
  unfold totV
  rw [List.length_map, List.length_reverse]
theorem set_last (xs : List V) (v u : V) : (xs ++ [v]).set xs.length u = xs ++ [u] := by
  rw [List.set_append_right _ _ (Nat.le_refl _), Nat.sub_self]
  rfl
theorem pow_sum {i : Nat} : ∃ p, p = 2 ^ (101 * i + 1) ∧ 2 ^ (101 * (i + 1) + 1) = p * 2535301200456458802993406410752 ∧ 2 ≤ p ∧ ∀ {a b n : Nat}, a < 2 ^ (101 * i + 1) → b < 2 ^ (101 * i + 1) → n ≤ T30 → b + a * n < 2 ^ (101 * (i + 1) + 1) ∧ a + n < 2 ^ (101 * (i + 1) + 1) := by
  obtain ⟨p, hp⟩ : ∃ p, p = 2 ^ (101 * i + 1) := ⟨_, rfl⟩
  have e : 2 ^ (101 * (i + 1) + 1) = p * 2535301200456458802993406410752 := by
    rw [hp, show 101 * (i + 1) + 1 = (101 * i + 1) + 101 by omega, Nat.pow_add]
  have p2 : 2 ≤ p := by
    rw [hp]
    exact Nat.pow_le_pow_right (show 0 < 2 by decide) (show 1 ≤ 101 * i + 1 by omega)
  refine ⟨p, hp, e, p2, fun {a b n} ha hb hn => ?_⟩
  rw [e]
  rw [← hp] at ha hb
  have h1 : a * n ≤ (p - 1) * 1000000000000000000000000000000 := Nat.mul_le_mul (by omega) hn
  have hn' : n ≤ 1000000000000000000000000000000 := hn
  omega
theorem lev_le : ∀ p : Ps, p.lev ≤ p.words.length
  | .nil => Nat.le_refl _
  | .lf c n r => Nat.le_trans (lev_le r) (Nat.le_succ _)
  | .rp b n r => by
    have h1 := lev_le b
    have h2 := lev_le r
    show max (1 + b.lev) r.lev ≤ (Wd.op :: (b.words ++ Wd.cl n :: r.words)).length
    rw [List.length_cons, List.length_append, List.length_cons]
    omega
theorem zero_int {n : Nat} (h : n ≤ T30) : intText? (("0" : Str) ++ dgS n) = some (n : Int) := by
  have t : (("0" : Str) ++ dgS n).cps.toList = 48 :: numL n := by
    have := tl_append ("0" : Str) (dgS n)
    exact this
  have ad : PySem.NumText.AllDigits (48 :: numL n) := by
    intro c hc
    rcases List.mem_cons.mp hc with rfl | hc
    · decide
    · exact numL_digits n c hc
  have v : PySem.NumText.digitsVal (48 :: numL n) = n := (show PySem.NumText.digitsVal (48 :: numL n) = PySem.NumText.digitsVal (numL n) from rfl).trans (numL_val n)
  have e := PySem.intText_digits (x := ("0" : Str) ++ dgS n) (by rw [t]; exact ad) (by rw [t]; exact nofun) (by
    rw [WM.len_tl]
    have : tl (("0" : Str) ++ dgS n) = 48 :: numL n := t
    rw [this, List.length_cons]
    have := dg_len h
    have e2 : (dgS n).length = (numL n).length := WM.len_tl _
    omega)
  rw [t, v] at e
  exact e
section
variable {P : Program} {w : World} {K : PySem.W.Frag} {mg : Str → Option Value} {base : Heap}
def spLengthL (K : PySem.W.Frag) : Sp := fun vs H Q _ => ∃ (a : Addr) (p : Ps), vs = [.ref a] ∧ SqL K H a (wstrs p.words) ∧ p.ok ∧ p.words.length ≤ 1000 ∧ ∀ H', Same H H' → Q (.int (p.size : Int)) H'
theorem ok_lengthL (D : Ds K) (T : Tx K mg) : FnOk P w K mg base CX0 1 (d_law_length.adr K) D.fd__law_length ["words"] (spLengthL K) := by
  refine D.F__law_length.ok sc_law_length (fun vs H Q E h => ?_) (fun cdv A outer s H vs Q E hr h => ?_)
  · obtain ⟨a, p, rfl, _⟩ := h
    rfl
  · obtain ⟨a, p, rfl, ha, okp, few, q⟩ := h
    have nd := sc_law_length.nd
    refine ⟨_, PSs.nox (pss_cons (ps_set (i := 1) nd rfl (.inl rfl) (pe_lst (pa_cons pe_int pa_nil)))
        (pss_cons (ps_for PassesOwn.never rfl (pi_list (pv 0)) (pg_name (i := 2) nd rfl (.inl rfl))
        (pss_one (ps_if (pt_cmpR op_eq (pv 2) pe_str (nomark _))
        (pss_one (ps_expr (pe_bm PySem.F.plainAttrs_list PySem.F.slot_list_append PySem.F.type_list_append mt_append (pv 1) (pa_cons pe_int pa_nil))))
        (pss_one (ps_if (pt_cmpR op_eq (pe_ix ix_str (pv 2) pe_int (fun _ _ => rfl)) pe_str (nomark _))
        (pss_cons (ps_set (i := 3) nd rfl (.inl rfl) (pe_bm0 PySem.F.plainAttrs_list PySem.F.slot_list_pop PySem.F.type_list_pop mt_pop (pv 1)))
        (pss_one (ps_asg (pe_op op_add (pe_ix ix_list (pv 1) (pe_un un_neg pe_int) (fun _ _ => rfl)) (pe_op op_mulW (pv 3) (pe_callTy call_int_str (by rfl) T.z_int (by decide +kernel) (pa_cons (pe_slice sl_str (pv 2) (po_some pe_int) po_none) pa_nil)))) (pg_sub (pv 1) (pe_un un_neg pe_int) set_list))))
        (pss_one (ps_asg (pe_op op_add (pe_op op_add (pe_ix ix_list (pv 1) (pe_un un_neg pe_int) (fun _ _ => rfl)) (pe_callTy call_int_str (by rfl) T.z_int (by decide +kernel) (pa_cons (pe_op op_add_str pe_str (pe_slice sl_str (pv 2) (po_some pe_int) po_none)) pa_nil))) (pe_callTy call_int1 (by rfl) T.z_int (by decide +kernel) (pa_cons (pe_cmpR op_eq (pe_callB call_len_str (by rfl) T.z_len PySem.boot_len (pa_cons (pv 2) pa_nil)) pe_int (nomark _)) pa_nil))) (pg_sub (pv 1) (pe_un un_neg pe_int) set_list))))))))
        (pss_one (ps_ret (pe_ix ix_list (pv 1) pe_int (fun _ _ => rfl)))))), ?_⟩
    have oks := words_ok p okp
    have z1000 : 100000 ≤ sizeLine := by decide
    refine ⟨by show 1 ≤ sizeLine; decide, fun t ht => ?_⟩
    have st := same_new (o := .lst [.int 0]) ht
    refine ⟨_, rfl, a, rfl, ⟨_, Same.sql st ha⟩, ?_⟩
    refine for_list (xs := wstrs p.words) (fun i σ H' => ∃ z2 z3, Same H H' ∧ H' t = some (.lst (totV (foldS [0] (p.words.take i)))) ∧ ((foldS [0] (p.words.take i)).length : Int) = dep p.words i + 1 ∧ (∀ x ∈ foldS [0] (p.words.take i), x < 2 ^ (101 * i + 1)) ∧ σ = [some (.ref a), some (.ref t), z2, z3])
      ⟨none, none, st, (show _ = some (HO.lst [V.int 0]) from upd_same), rfl, fun x hx => by rw [List.mem_singleton.mp hx]; decide, rfl⟩ (fun i σ H' hi hp => by obtain ⟨_, _, s2, _⟩ := hp; exact Same.sql s2 ha) (fun i x σ H1 hx hp => ?_) fun σ H' hp => ?_
    · obtain ⟨z2, z3, sm, et, dl, bd, rfl⟩ := hp
      obtain ⟨y, hy, rfl⟩ : ∃ y, p.words[i]? = some y ∧ x = .str y.str := by
        unfold wstrs at hx
        rw [List.getElem?_map] at hx
        cases e : p.words[i]? with
        | none => rw [e] at hx; cases hx
        | some y =>
          rw [e] at hx
          injection hx with hx
          exact ⟨y, rfl, hx.symm⟩
      have yo := oks y (List.mem_of_getElem? hy)
      have il := (List.getElem?_eq_some_iff.mp hy).1
      have ds := dep_succ hy
      have zl : y.str.length ≤ sizeLine := by
        have := cps_len yo
        have e : y.str.length = y.cps.length := WM.len_tl _
        omega
      obtain ⟨pw, hpw, epw, pw2, sums⟩ := pow_sum (i := i)
      rw [foldS_succ hy]
      have lens : ((foldS [0] (p.words.take i)).length : Int) ≤ 2000 := by
        rw [dl]
        have := (dep_tree p).1 i
        have : p.lev ≤ p.words.length := lev_le p
        omega
      cases y with
      | op =>
        refine ⟨_, rfl, rfl, true, rfl, iteT ⟨_, rfl, .inl ⟨rfl, _, lstL et⟩, t, _, _, rfl, rfl, et, by rw [totV_len]; omega, _, _, fun q o e => ?_, ?_, ?_, ?_, rfl⟩⟩
        · rw [upd_ne (ne_of_none e ht)]
          exact sm _ _ e
        · rw [upd_same]
          show _ = some (HO.lst (totV (0 :: _)))
          rw [totV_cons]
          rfl
        · show (((foldS [0] (p.words.take i)).length + 1 : Nat) : Int) = _
          have : b2 (isOp Wd.op) = 1 := rfl
          have : b2 (isCl Wd.op) = 0 := rfl
          omega
        · intro q hq
          rcases List.mem_cons.mp hq with rfl | hq
          · rw [epw]; omega
          · have := bd q hq
            rw [← hpw] at this
            rw [epw]
            omega
      | cl n =>
        obtain ⟨hd0, _⟩ := cl_tree p okp i n hy
        obtain ⟨S, eS⟩ : ∃ S, S = foldS [0] (p.words.take i) := ⟨_, rfl⟩
        rw [← eS] at et dl bd lens ⊢
        obtain ⟨x1, y1, S', rfl⟩ : ∃ x1 y1 S', S = x1 :: y1 :: S' := by
          cases S with
          | nil => rw [List.length_nil] at dl; omega
          | cons x1 S =>
            cases S with
            | nil => rw [List.length_singleton] at dl; omega
            | cons y1 S' => exact ⟨x1, y1, S', rfl⟩
        rw [totV_cons, totV_cons] at et
        have bx := bd x1 (List.mem_cons_self ..)
        have bY := bd y1 (List.mem_cons_of_mem _ (List.mem_cons_self ..))
        have sm1 := (sums bx bY yo.2).1
        have n30 : n ≤ 1000000000000000000000000000000 := yo.2
        have i1000 : i < 1000 := by omega
        have ci : (Wd.cl n).str.cps.toList = 41 :: numL n := rfl
        refine ⟨_, rfl, rfl, false, ?_, iteF ⟨_, rfl, _, _, 41, rfl, rfl, zl, by rw [ci]; exact atI_nat (j := 0) rfl, rfl, true, rfl, iteT ?_⟩⟩
        · exact congrArg V.bl (decide_eq_false fun z => by injection z with z; have := (is_op (.cl n) yo).mp z; cases this)
        refine ⟨_, rfl, .inl ⟨rfl, _, lstL et⟩, t, _, .int (x1 : Int), rfl, rfl, et, ?_, ?_⟩
        · rw [List.length_append, List.getElem?_append_right (by show _ ≤ _ + 1 - 1; omega)]
          show [V.int (x1 : Int)][_]? = _
          rw [show (totV S' ++ [V.int (y1 : Int)]).length + [V.int (x1 : Int)].length - 1 - (totV S' ++ [V.int (y1 : Int)]).length = 0 by show _ + 1 - 1 - _ = 0; omega]
          rfl
        rw [List.dropLast_concat]
        have et2 : upd H1 t (.lst (totV S' ++ [.int (y1 : Int)])) t = some (.lst (totV S' ++ [.int (y1 : Int)])) := upd_same
        refine ⟨_, rfl, 1, rfl, t, _, _, _, rfl, rfl, lstL et2, atI_last _ _, _, rfl, _, rfl, 1, rfl, _, rfl, zl, _, (n : Int), rfl, ?_, ?_, _, _, rfl, rfl, wide_mul (a := 101 * i + 1) (b := 101) (by show x1 < _; exact bx) (by show n < 2 ^ 101; exact Nat.lt_of_le_of_lt n30 (by decide)) (by omega) (by omega) (by omega), _, _, rfl, rfl, _, rfl, 1, rfl, t, _, _, (totV S').length, rfl, rfl, et2, ?_, ?_⟩
        · rw [(cl_cut n).2]
          exact dg_int yo.2
        · rw [(cl_cut n).2]
          exact Nat.le_trans (dg_len yo.2) (by decide)
        · rw [List.length_append]
          exact ixN_last _
        rw [set_last]
        refine ⟨_, _, fun q o e => ?_, ?_, ?_, ?_, rfl⟩
        · rw [upd_ne (ne_of_none e ht), upd_ne (ne_of_none e ht)]
          exact sm _ _ e
        · rw [upd_same]
          show _ = some (HO.lst (totV ((y1 + x1 * n) :: S')))
          rw [totV_cons, Int.natCast_add, Int.natCast_mul]
        · show ((((y1 + x1 * n) :: S').length : Nat) : Int) = _
          have : b2 (isOp (Wd.cl n)) = 0 := rfl
          have : b2 (isCl (Wd.cl n)) = 1 := rfl
          rw [List.length_cons] at dl ⊢
          rw [List.length_cons] at dl
          omega
        · intro q hq
          rcases List.mem_cons.mp hq with rfl | hq
          · exact sm1
          · have := bd q (List.mem_cons_of_mem _ (List.mem_cons_of_mem _ hq))
            rw [← hpw] at this
            rw [epw]
            omega
      | lt c n =>
        have dpos := ((dep_tree p).1 i).1
        obtain ⟨S, eS⟩ : ∃ S, S = foldS [0] (p.words.take i) := ⟨_, rfl⟩
        rw [← eS] at et dl bd lens ⊢
        obtain ⟨x1, S', rfl⟩ : ∃ x1 S', S = x1 :: S' := by
          cases S with
          | nil => rw [List.length_nil] at dl; omega
          | cons x1 S => exact ⟨x1, S, rfl⟩
        rw [totV_cons] at et
        have bx := bd x1 (List.mem_cons_self ..)
        have sm1 := (sums bx bx yo.2.2).2
        have sl := six_low yo.1
        obtain ⟨rest, er⟩ : ∃ rest, (Wd.lt c n).str.cps.toList = c :: rest := by
          by_cases h1 : n = 1
          · exact ⟨[], if_pos h1⟩
          · exact ⟨numL n, if_neg h1⟩
        refine ⟨_, rfl, rfl, false, ?_, iteF ⟨_, rfl, _, _, c, rfl, rfl, zl, by rw [er]; exact atI_nat (j := 0) rfl, rfl, false, ?_, iteF ?_⟩⟩
        · exact congrArg V.bl (decide_eq_false fun z => by injection z with z; have := (is_op (.lt c n) yo).mp z; cases this)
        · exact congrArg V.bl (decide_eq_false fun z => by
            injection z with z
            have h0 := congrArg tl z
            have h41 : c = 41 := by injection h0
            omega)
        have key : ∃ (k : Nat) (b : Bool), intText? (("0" : Str) ++ cutS (Wd.lt c n).str (some 1) none) = some (k : Int) ∧ (("0" : Str) ++ cutS (Wd.lt c n).str (some 1) none).length ≤ 40 ∧ (cutS (Wd.lt c n).str (some 1) none).length ≤ 31 ∧ decide (V.int ((Wd.lt c n).str.length : Int) = V.int 1) = b ∧ (x1 : Int) + (k : Int) + (if b = true then 1 else 0) = ((x1 + n : Nat) : Int) := by
          by_cases h1 : n = 1
          · subst h1
            have ec : cutS (Wd.lt c 1).str (some 1) none = "" := cut_rest c []
            rw [ec]
            refine ⟨0, true, by decide +kernel, by decide, by decide, decide_eq_true rfl, ?_⟩
            rw [if_pos rfl]
            omega
          · have ec := (lt_cut c h1).2
            have dl2 := dg_len yo.2.2
            rw [ec]
            refine ⟨n, false, zero_int yo.2.2, ?_, dl2, decide_eq_false fun z => ?_, ?_⟩
            · rw [WM.len_tl, tl_append, List.length_append]
              have : (tl ("0" : Str)).length = 1 := rfl
              have : (tl (dgS n)).length = (dgS n).length := (WM.len_tl _).symm
              omega
            · injection z with z
              have e2 : (Wd.lt c n).str.length = (c :: numL n).length := by
                rw [WM.len_tl]
                show (if n = 1 then [c] else c :: numL n).length = _
                rw [if_neg h1]
              have : (numL n).length ≠ 0 := fun z => numL_ne n (List.length_eq_zero_iff.mp z)
              rw [List.length_cons] at e2
              omega
            · rw [if_neg (by decide)]
              omega
        obtain ⟨k, b, k1, k2, k3, k4, k5⟩ := key
        have l0 : ("0" : Str).length = 1 := rfl
        refine ⟨_, rfl, 1, rfl, t, _, _, _, rfl, rfl, lstL et, atI_last _ _, _, rfl, 1, rfl, _, rfl, zl, _, _, rfl, rfl, by omega, _, _, rfl, k1, by omega, _, _, rfl, rfl, _, rfl, _, rfl, zl, rfl, .inr ⟨_, congrArg (fun z => [V.bl z]) k4, _, _, rfl, rfl, _, rfl, 1, rfl, t, _, _, (totV S').length, rfl, rfl, et, ?_, ?_⟩⟩
        · rw [List.length_append]
          exact ixN_last _
        rw [set_last]
        refine ⟨_, _, fun q o e => ?_, ?_, ?_, ?_, rfl⟩
        · rw [upd_ne (ne_of_none e ht)]
          exact sm _ _ e
        · rw [upd_same]
          show _ = some (HO.lst (totV ((x1 + n) :: S')))
          rw [totV_cons, ← k5]
        · show ((((x1 + n) :: S').length : Nat) : Int) = _
          have : b2 (isOp (Wd.lt c n)) = 0 := rfl
          have : b2 (isCl (Wd.lt c n)) = 0 := rfl
          rw [List.length_cons] at dl ⊢
          omega
        · intro q hq
          rcases List.mem_cons.mp hq with rfl | hq
          · exact sm1
          · have := bd q (List.mem_cons_of_mem _ hq)
            rw [← hpw] at this
            rw [epw]
            omega
    · obtain ⟨z2, z3, sm, et, dl, bd, rfl⟩ := hp
      have len : (wstrs p.words).length = p.words.length := List.length_map ..
      rw [len, List.take_length, fold_tree p 0 []] at et
      have e0 : totV [0 + p.size] = [.int (p.size : Int)] := by
        rw [Nat.zero_add]
        rfl
      rw [e0] at et
      exact ⟨_, rfl, t, _, 0, _, rfl, rfl, lstL et, atI_nat (j := 0) rfl, q H' sm⟩
end
end K05P

set_option Elab.async false
set_option linter.all false
set_option maxRecDepth 100000
set_option maxHeartbeats 400000
set_option exponentiation.threshold 300000
namespace K05P
open PySem PySem.Spec PyProof.Rows L2 RT WM K05 TL
theorem sgl_inj {a b : Nat} (h : V.str ⟨#[a]⟩ = V.str ⟨#[b]⟩) : a = b := by
  injection h with h
  injection h with h
  injection h with h
  injection h
theorem sgl_ne {a b : Nat} (h : a ≠ b) : V.bl (decide (V.str ⟨#[a]⟩ = V.str ⟨#[b]⟩)) = V.bl false := congrArg V.bl (decide_eq_false fun z => h (sgl_inj z))
theorem sgl_eq (a : Nat) : V.bl (decide (V.str ⟨#[a]⟩ = V.str ⟨#[a]⟩)) = V.bl true := congrArg V.bl (decide_eq_true rfl)
/-- the totals of one letter -/
def stepC (c0 : Nat) : List Nat → Wd → List Nat
  | s, .op => 0 :: s
  | x :: y :: s, .cl n => (y + x * n) :: s
  | x :: s, .lt k n => (x + if k = c0 then n else 0) :: s
  | s, _ => s
def foldC (c0 : Nat) (s : List Nat) (ws : List Wd) : List Nat := ws.foldl (stepC c0) s
theorem foldC_tree (c0 : Nat) : ∀ (p : Ps) (x : Nat) (s : List Nat), foldC c0 (x :: s) p.words = (x + p.cnt c0) :: s
  | .nil, x, s => rfl
  | .lf c n r, x, s => by
    show foldC c0 ((x + if c = c0 then n else 0) :: s) r.words = _
    rw [foldC_tree c0 r]
    show (x + (if c = c0 then n else 0) + r.cnt c0) :: s = (x + (n * (if c = c0 then 1 else 0) + r.cnt c0)) :: s
    rw [Nat.add_assoc]
    split <;> simp
  | .rp b n r, x, s => by
    show foldC c0 (0 :: x :: s) (b.words ++ Wd.cl n :: r.words) = _
    unfold foldC
    rw [List.foldl_append]
    have ib := foldC_tree c0 b 0 (x :: s)
    unfold foldC at ib
    rw [ib]
    show foldC c0 ((x + (0 + b.cnt c0) * n) :: s) r.words = _
    rw [foldC_tree c0 r]
    show (x + (0 + b.cnt c0) * n + r.cnt c0) :: s = (x + (n * b.cnt c0 + r.cnt c0)) :: s
    rw [Nat.zero_add, Nat.add_assoc, Nat.mul_comm]
theorem foldC_succ {c0 : Nat} {s : List Nat} {ws : List Wd} {i : Nat} {x : Wd} (h : ws[i]? = some x) : foldC c0 s (ws.take (i + 1)) = stepC c0 (foldC c0 s (ws.take i)) x := by
  unfold foldC
  rw [List.take_succ, h, List.foldl_append]
  rfl
section
variable {P : Program} {w : World} {K : PySem.W.Frag} {mg : Str → Option Value} {base : Heap}
def spCntL (K : PySem.W.Frag) : Sp := fun vs H Q _ => ∃ (a : Addr) (p : Ps) (c0 : Nat), vs = [.ref a, .str ⟨#[c0]⟩] ∧ SqL K H a (wstrs p.words) ∧ p.ok ∧ p.words.length ≤ 1000 ∧ ∀ H', Same H H' → Q (.int (p.cnt c0 : Int)) H'
theorem ok_cntL (D : Ds K) (T : Tx K mg) : FnOk P w K mg base CX0 1 (d_law_count.adr K) D.fd__law_count ["words", "letter"] (spCntL K) := by
  refine D.F__law_count.ok sc_law_count (fun vs H Q E h => ?_) (fun cdv A outer s H vs Q E hr h => ?_)
  · obtain ⟨a, p, c0, rfl, _⟩ := h
    rfl
  · obtain ⟨a, p, c0, rfl, ha, okp, few, q⟩ := h
    have nd := sc_law_count.nd
    refine ⟨_, PSs.nox (pss_cons (ps_set (i := 2) nd rfl (.inl rfl) (pe_lst (pa_cons pe_int pa_nil)))
        (pss_cons (ps_for PassesOwn.never rfl (pi_list (pv 0)) (pg_name (i := 3) nd rfl (.inl rfl))
        (pss_one (ps_if (pt_cmpR op_eq (pv 3) pe_str (nomark _))
        (pss_one (ps_expr (pe_bm PySem.F.plainAttrs_list PySem.F.slot_list_append PySem.F.type_list_append mt_append (pv 2) (pa_cons pe_int pa_nil))))
        (pss_one (ps_if (pt_cmpR op_eq (pe_ix ix_str (pv 3) pe_int (fun _ _ => rfl)) pe_str (nomark _))
        (pss_cons (ps_set (i := 4) nd rfl (.inl rfl) (pe_bm0 PySem.F.plainAttrs_list PySem.F.slot_list_pop PySem.F.type_list_pop mt_pop (pv 2)))
        (pss_one (ps_asg (pe_op op_add (pe_ix ix_list (pv 2) (pe_un un_neg pe_int) (fun _ _ => rfl)) (pe_op op_mulW (pv 4) (pe_callTy call_int_str (by rfl) T.z_int (by decide +kernel) (pa_cons (pe_slice sl_str (pv 3) (po_some pe_int) po_none) pa_nil)))) (pg_sub (pv 2) (pe_un un_neg pe_int) set_list))))
        (pss_one (ps_if (pt_cmpR op_eq (pe_ix ix_str (pv 3) pe_int (fun _ _ => rfl)) (pv 1) (nomark _)) (pss_one (ps_asg (pe_op op_add (pe_op op_add (pe_ix ix_list (pv 2) (pe_un un_neg pe_int) (fun _ _ => rfl)) (pe_callTy call_int_str (by rfl) T.z_int (by decide +kernel) (pa_cons (pe_op op_add_str pe_str (pe_slice sl_str (pv 3) (po_some pe_int) po_none)) pa_nil))) (pe_callTy call_int1 (by rfl) T.z_int (by decide +kernel) (pa_cons (pe_cmpR op_eq (pe_callB call_len_str (by rfl) T.z_len PySem.boot_len (pa_cons (pv 3) pa_nil)) pe_int (nomark _)) pa_nil))) (pg_sub (pv 2) (pe_un un_neg pe_int) set_list))) pss_nil)))))))
        (pss_one (ps_ret (pe_ix ix_list (pv 2) pe_int (fun _ _ => rfl)))))), ?_⟩
    have oks := words_ok p okp
    have z1000 : 100000 ≤ sizeLine := by decide
    refine ⟨by show 1 ≤ sizeLine; decide, fun t ht => ?_⟩
    have st := same_new (o := .lst [.int 0]) ht
    refine ⟨_, rfl, a, rfl, ⟨_, Same.sql st ha⟩, ?_⟩
    refine for_list (xs := wstrs p.words) (fun i σ H' => ∃ z2 z3, Same H H' ∧ H' t = some (.lst (totV (foldC c0 [0] (p.words.take i)))) ∧ ((foldC c0 [0] (p.words.take i)).length : Int) = dep p.words i + 1 ∧ (∀ x ∈ foldC c0 [0] (p.words.take i), x < 2 ^ (101 * i + 1)) ∧ σ = [some (.ref a), some (.str ⟨#[c0]⟩), some (.ref t), z2, z3])
      ⟨none, none, st, (show _ = some (HO.lst [V.int 0]) from upd_same), rfl, fun x hx => by rw [List.mem_singleton.mp hx]; decide, rfl⟩ (fun i σ H' hi hp => by obtain ⟨_, _, s2, _⟩ := hp; exact Same.sql s2 ha) (fun i x σ H1 hx hp => ?_) fun σ H' hp => ?_
    · obtain ⟨z2, z3, sm, et, dl, bd, rfl⟩ := hp
      obtain ⟨y, hy, rfl⟩ : ∃ y, p.words[i]? = some y ∧ x = .str y.str := by
        unfold wstrs at hx
        rw [List.getElem?_map] at hx
        cases e : p.words[i]? with
        | none => rw [e] at hx; cases hx
        | some y =>
          rw [e] at hx
          injection hx with hx
          exact ⟨y, rfl, hx.symm⟩
      have yo := oks y (List.mem_of_getElem? hy)
      have il := (List.getElem?_eq_some_iff.mp hy).1
      have ds := dep_succ hy
      have zl : y.str.length ≤ sizeLine := by
        have := cps_len yo
        have e : y.str.length = y.cps.length := WM.len_tl _
        omega
      obtain ⟨pw, hpw, epw, pw2, sums⟩ := pow_sum (i := i)
      rw [foldC_succ hy]
      have lens : ((foldC c0 [0] (p.words.take i)).length : Int) ≤ 2000 := by
        rw [dl]
        have := (dep_tree p).1 i
        have : p.lev ≤ p.words.length := lev_le p
        omega
      cases y with
      | op =>
        refine ⟨_, rfl, rfl, true, rfl, iteT ⟨_, rfl, .inl ⟨rfl, _, lstL et⟩, t, _, _, rfl, rfl, et, by rw [totV_len]; omega, _, _, fun q o e => ?_, ?_, ?_, ?_, rfl⟩⟩
        · rw [upd_ne (ne_of_none e ht)]
          exact sm _ _ e
        · rw [upd_same]
          show _ = some (HO.lst (totV (0 :: _)))
          rw [totV_cons]
          rfl
        · show (((foldC c0 [0] (p.words.take i)).length + 1 : Nat) : Int) = _
          have : b2 (isOp Wd.op) = 1 := rfl
          have : b2 (isCl Wd.op) = 0 := rfl
          omega
        · intro q hq
          rcases List.mem_cons.mp hq with rfl | hq
          · rw [epw]; omega
          · have := bd q hq
            rw [← hpw] at this
            rw [epw]
            omega
      | cl n =>
        obtain ⟨hd0, _⟩ := cl_tree p okp i n hy
        obtain ⟨S, eS⟩ : ∃ S, S = foldC c0 [0] (p.words.take i) := ⟨_, rfl⟩
        rw [← eS] at et dl bd lens ⊢
        obtain ⟨x1, y1, S', rfl⟩ : ∃ x1 y1 S', S = x1 :: y1 :: S' := by
          cases S with
          | nil => rw [List.length_nil] at dl; omega
          | cons x1 S =>
            cases S with
            | nil => rw [List.length_singleton] at dl; omega
            | cons y1 S' => exact ⟨x1, y1, S', rfl⟩
        rw [totV_cons, totV_cons] at et
        have bx := bd x1 (List.mem_cons_self ..)
        have bY := bd y1 (List.mem_cons_of_mem _ (List.mem_cons_self ..))
        have sm1 := (sums bx bY yo.2).1
        have n30 : n ≤ 1000000000000000000000000000000 := yo.2
        have i1000 : i < 1000 := by omega
        have ci : (Wd.cl n).str.cps.toList = 41 :: numL n := rfl
        refine ⟨_, rfl, rfl, false, ?_, iteF ⟨_, rfl, _, _, 41, rfl, rfl, zl, by rw [ci]; exact atI_nat (j := 0) rfl, rfl, true, rfl, iteT ?_⟩⟩
        · exact congrArg V.bl (decide_eq_false fun z => by injection z with z; have := (is_op (.cl n) yo).mp z; cases this)
        refine ⟨_, rfl, .inl ⟨rfl, _, lstL et⟩, t, _, .int (x1 : Int), rfl, rfl, et, ?_, ?_⟩
        · rw [List.length_append, List.getElem?_append_right (by show _ ≤ _ + 1 - 1; omega)]
          show [V.int (x1 : Int)][_]? = _
          rw [show (totV S' ++ [V.int (y1 : Int)]).length + [V.int (x1 : Int)].length - 1 - (totV S' ++ [V.int (y1 : Int)]).length = 0 by show _ + 1 - 1 - _ = 0; omega]
          rfl
        rw [List.dropLast_concat]
        have et2 : upd H1 t (.lst (totV S' ++ [.int (y1 : Int)])) t = some (.lst (totV S' ++ [.int (y1 : Int)])) := upd_same
        refine ⟨_, rfl, 1, rfl, t, _, _, _, rfl, rfl, lstL et2, atI_last _ _, _, rfl, _, rfl, 1, rfl, _, rfl, zl, _, (n : Int), rfl, ?_, ?_, _, _, rfl, rfl, wide_mul (a := 101 * i + 1) (b := 101) (by show x1 < _; exact bx) (by show n < 2 ^ 101; exact Nat.lt_of_le_of_lt n30 (by decide)) (by omega) (by omega) (by omega), _, _, rfl, rfl, _, rfl, 1, rfl, t, _, _, (totV S').length, rfl, rfl, et2, ?_, ?_⟩
        · rw [(cl_cut n).2]
          exact dg_int yo.2
        · rw [(cl_cut n).2]
          exact Nat.le_trans (dg_len yo.2) (by decide)
        · rw [List.length_append]
          exact ixN_last _
        rw [set_last]
        refine ⟨_, _, fun q o e => ?_, ?_, ?_, ?_, rfl⟩
        · rw [upd_ne (ne_of_none e ht), upd_ne (ne_of_none e ht)]
          exact sm _ _ e
        · rw [upd_same]
          show _ = some (HO.lst (totV ((y1 + x1 * n) :: S')))
          rw [totV_cons, Int.natCast_add, Int.natCast_mul]
        · show ((((y1 + x1 * n) :: S').length : Nat) : Int) = _
          have : b2 (isOp (Wd.cl n)) = 0 := rfl
          have : b2 (isCl (Wd.cl n)) = 1 := rfl
          rw [List.length_cons] at dl ⊢
          rw [List.length_cons] at dl
          omega
        · intro q hq
          rcases List.mem_cons.mp hq with rfl | hq
          · exact sm1
          · have := bd q (List.mem_cons_of_mem _ (List.mem_cons_of_mem _ hq))
            rw [← hpw] at this
            rw [epw]
            omega
      | lt c n =>
        have dpos := ((dep_tree p).1 i).1
        obtain ⟨S, eS⟩ : ∃ S, S = foldC c0 [0] (p.words.take i) := ⟨_, rfl⟩
        rw [← eS] at et dl bd lens ⊢
        obtain ⟨x1, S', rfl⟩ : ∃ x1 S', S = x1 :: S' := by
          cases S with
          | nil => rw [List.length_nil] at dl; omega
          | cons x1 S => exact ⟨x1, S, rfl⟩
        rw [totV_cons] at et
        have bx := bd x1 (List.mem_cons_self ..)
        have sm1 := (sums bx bx yo.2.2).2
        have sl := six_low yo.1
        obtain ⟨rest, er⟩ : ∃ rest, (Wd.lt c n).str.cps.toList = c :: rest := by
          by_cases h1 : n = 1
          · exact ⟨[], if_pos h1⟩
          · exact ⟨numL n, if_neg h1⟩
        refine ⟨_, rfl, rfl, false, ?_, iteF ⟨_, rfl, _, _, c, rfl, rfl, zl, by rw [er]; exact atI_nat (j := 0) rfl, rfl, false, ?_, iteF ?_⟩⟩
        · exact congrArg V.bl (decide_eq_false fun z => by injection z with z; have := (is_op (.lt c n) yo).mp z; cases this)
        · exact congrArg V.bl (decide_eq_false fun z => by
            injection z with z
            have h0 := congrArg tl z
            have h41 : c = 41 := by injection h0
            omega)
        by_cases hc : c ≠ c0
        · refine ⟨_, rfl, _, _, c, rfl, rfl, zl, by rw [er]; exact atI_nat (j := 0) rfl, _, rfl, rfl, false, sgl_ne hc, iteF ?_⟩
          refine ⟨_, _, sm, ?_, ?_, ?_, rfl⟩
          · show _ = some (HO.lst (totV ((x1 + if c = c0 then n else 0) :: S')))
            rw [if_neg hc, Nat.add_zero, totV_cons]
            exact et
          · show ((((x1 + if c = c0 then n else 0) :: S').length : Nat) : Int) = _
            have : b2 (isOp (Wd.lt c n)) = 0 := rfl
            have : b2 (isCl (Wd.lt c n)) = 0 := rfl
            rw [List.length_cons] at dl ⊢
            omega
          · intro q hq
            rw [epw]
            rcases List.mem_cons.mp hq with rfl | hq
            · rw [if_neg hc, Nat.add_zero]
              rw [← hpw] at bx
              omega
            · have := bd q (List.mem_cons_of_mem _ hq)
              rw [← hpw] at this
              omega
        have hc : c = c0 := Decidable.not_not.mp hc
        subst hc
        refine ⟨_, rfl, _, _, c, rfl, rfl, zl, by rw [er]; exact atI_nat (j := 0) rfl, _, rfl, rfl, true, sgl_eq c, iteT ?_⟩
        rw [show stepC c (x1 :: S') (Wd.lt c n) = (x1 + n) :: S' by show (x1 + if c = c then n else 0) :: S' = _; rw [if_pos rfl]]
        have key : ∃ (k : Nat) (b : Bool), intText? (("0" : Str) ++ cutS (Wd.lt c n).str (some 1) none) = some (k : Int) ∧ (("0" : Str) ++ cutS (Wd.lt c n).str (some 1) none).length ≤ 40 ∧ (cutS (Wd.lt c n).str (some 1) none).length ≤ 31 ∧ decide (V.int ((Wd.lt c n).str.length : Int) = V.int 1) = b ∧ (x1 : Int) + (k : Int) + (if b = true then 1 else 0) = ((x1 + n : Nat) : Int) := by
          by_cases h1 : n = 1
          · subst h1
            have ec : cutS (Wd.lt c 1).str (some 1) none = "" := cut_rest c []
            rw [ec]
            refine ⟨0, true, by decide +kernel, by decide, by decide, decide_eq_true rfl, ?_⟩
            rw [if_pos rfl]
            omega
          · have ec := (lt_cut c h1).2
            have dl2 := dg_len yo.2.2
            rw [ec]
            refine ⟨n, false, zero_int yo.2.2, ?_, dl2, decide_eq_false fun z => ?_, ?_⟩
            · rw [WM.len_tl, tl_append, List.length_append]
              have : (tl ("0" : Str)).length = 1 := rfl
              have : (tl (dgS n)).length = (dgS n).length := (WM.len_tl _).symm
              omega
            · injection z with z
              have e2 : (Wd.lt c n).str.length = (c :: numL n).length := by
                rw [WM.len_tl]
                show (if n = 1 then [c] else c :: numL n).length = _
                rw [if_neg h1]
              have : (numL n).length ≠ 0 := fun z => numL_ne n (List.length_eq_zero_iff.mp z)
              rw [List.length_cons] at e2
              omega
            · rw [if_neg (by decide)]
              omega
        obtain ⟨k, b, k1, k2, k3, k4, k5⟩ := key
        have l0 : ("0" : Str).length = 1 := rfl
        refine ⟨_, rfl, 1, rfl, t, _, _, _, rfl, rfl, lstL et, atI_last _ _, _, rfl, 1, rfl, _, rfl, zl, _, _, rfl, rfl, by omega, _, _, rfl, k1, by omega, _, _, rfl, rfl, _, rfl, _, rfl, zl, rfl, .inr ⟨_, congrArg (fun z => [V.bl z]) k4, _, _, rfl, rfl, _, rfl, 1, rfl, t, _, _, (totV S').length, rfl, rfl, et, ?_, ?_⟩⟩
        · rw [List.length_append]
          exact ixN_last _
        rw [set_last]
        refine ⟨_, _, fun q o e => ?_, ?_, ?_, ?_, rfl⟩
        · rw [upd_ne (ne_of_none e ht)]
          exact sm _ _ e
        · rw [upd_same]
          show _ = some (HO.lst (totV ((x1 + n) :: S')))
          rw [totV_cons, ← k5]
        · show ((((x1 + n) :: S').length : Nat) : Int) = _
          have : b2 (isOp (Wd.lt c n)) = 0 := rfl
          have : b2 (isCl (Wd.lt c n)) = 0 := rfl
          rw [List.length_cons] at dl ⊢
          omega
        · intro q hq
          rcases List.mem_cons.mp hq with rfl | hq
          · exact sm1
          · have := bd q (List.mem_cons_of_mem _ hq)
            rw [← hpw] at this
            rw [epw]
            omega
    · obtain ⟨z2, z3, sm, et, dl, bd, rfl⟩ := hp
      have len : (wstrs p.words).length = p.words.length := List.length_map ..
      rw [len, List.take_length, foldC_tree c0 p 0 []] at et
      have e0 : totV [0 + p.cnt c0] = [.int (p.cnt c0 : Int)] := by
        rw [Nat.zero_add]
        rfl
      rw [e0] at et
      exact ⟨_, rfl, t, _, 0, _, rfl, rfl, lstL et, atI_nat (j := 0) rfl, q H' sm⟩
end
end K05P

set_option Elab.async false
set_option linter.all false
set_option maxRecDepth 100000
set_option maxHeartbeats 400000
set_option exponentiation.threshold 300000
namespace K05P
open PySem PySem.Spec PyProof.Rows L2 RT WM K05 TL
/-- the numbers of a small program are small -/
theorem num_le : ∀ (p : Ps), p.ok → ∀ x ∈ p.words, numOf x ≤ p.size
  | .nil, _, x, hx => absurd hx (by simp [Ps.words])
  | .lf c n r, ok, x, hx => by
    rcases List.mem_cons.mp (show x ∈ Wd.lt c n :: r.words from hx) with rfl | hx
    · exact Nat.le_add_right _ _
    · exact Nat.le_trans (num_le r ok.2 x hx) (Nat.le_add_left _ _)
  | .rp b n r, ok, x, hx => by
    obtain ⟨hb, okb, hn, okr⟩ := ok
    have bp := WM.size_pos okb hb
    have h1 : b.size ≤ b.size * n := Nat.le_mul_of_pos_right _ (by have := hn.1; omega)
    have h2 : n ≤ b.size * n := Nat.le_mul_of_pos_left _ (by omega)
    show _ ≤ b.size * n + r.size
    rcases List.mem_cons.mp (show x ∈ Wd.op :: (b.words ++ Wd.cl n :: r.words) from hx) with rfl | hx
    · show 1 ≤ _; omega
    · rcases List.mem_append.mp hx with hx | hx
      · exact Nat.le_trans (num_le b okb x hx) (by omega)
      · rcases List.mem_cons.mp hx with rfl | hx
        · show n ≤ _; omega
        · exact Nat.le_trans (num_le r okr x hx) (by omega)
/-- no total is more than the last one -/
theorem le_step {s : List Nat} {x : Wd} (hx : x.ok) {a : Nat} (ha : a ∈ s) : ∃ b ∈ stepL s x, a ≤ b := by
  cases x with
  | op => exact ⟨a, List.mem_cons_of_mem _ ha, Nat.le_refl _⟩
  | cl n =>
    have h1 : 1 ≤ n := Nat.le_trans (by decide) hx.1
    match s, ha with
    | [y], ha => exact ⟨a, ha, Nat.le_refl _⟩
    | y :: z :: s, ha =>
      rcases List.mem_cons.mp ha with rfl | ha
      · exact ⟨_, List.mem_cons_self, Nat.le_trans (Nat.le_mul_of_pos_right _ h1) (Nat.le_add_left _ _)⟩
      · rcases List.mem_cons.mp ha with rfl | ha
        · exact ⟨_, List.mem_cons_self, Nat.le_add_right _ _⟩
        · exact ⟨a, List.mem_cons_of_mem _ ha, Nat.le_refl _⟩
  | lt c n =>
    match s, ha with
    | y :: s, ha =>
      rcases List.mem_cons.mp ha with rfl | ha
      · exact ⟨_, List.mem_cons_self, Nat.le_add_right _ _⟩
      · exact ⟨a, List.mem_cons_of_mem _ ha, Nat.le_refl _⟩
theorem le_fold : ∀ {ws : List Wd} {s : List Nat} {a : Nat}, (∀ x ∈ ws, x.ok) → a ∈ s → ∃ b ∈ foldS s ws, a ≤ b
  | [], s, a, _, ha => ⟨a, ha, Nat.le_refl _⟩
  | x :: ws, s, a, ok, ha => by
    obtain ⟨b, hb, h⟩ := le_step (ok x List.mem_cons_self) ha
    obtain ⟨d, hd, h2⟩ := le_fold (fun y hy => ok y (List.mem_cons_of_mem _ hy)) hb
    exact ⟨d, hd, Nat.le_trans h h2⟩
theorem tot_le {p : Ps} (ok : p.ok) (i : Nat) {a : Nat} (ha : a ∈ foldS [0] (p.words.take i)) : a ≤ p.size := by
  obtain ⟨b, hb, h⟩ := le_fold (ws := p.words.drop i) (fun x hx => words_ok p ok x (List.mem_of_mem_drop hx)) ha
  have e : foldS (foldS [0] (p.words.take i)) (p.words.drop i) = foldS [0] p.words := by
    unfold foldS
    rw [← List.foldl_append, List.take_append_drop]
  rw [e, fold_tree p 0 []] at hb
  rw [List.mem_singleton.mp hb] at h
  omega
/-- the steps of the parts, the innermost first -/
def stepT : List (List Nat) → Wd → List (List Nat)
  | s, .op => [] :: s
  | x :: y :: s, .cl n => (y ++ (List.replicate n x).flatten) :: s
  | x :: s, .lt c n => (x ++ List.replicate n c) :: s
  | s, _ => s
def foldT (s : List (List Nat)) (ws : List Wd) : List (List Nat) := ws.foldl stepT s
theorem foldT_tree : ∀ (p : Ps) (x : List Nat) (s : List (List Nat)), foldT (x :: s) p.words = (x ++ p.steps) :: s
  | .nil, x, s => by show x :: s = (x ++ []) :: s; rw [List.append_nil]
  | .lf c n r, x, s => by
    show foldT ((x ++ List.replicate n c) :: s) r.words = _
    rw [foldT_tree r, List.append_assoc]
    rfl
  | .rp b n r, x, s => by
    show foldT ([] :: x :: s) (b.words ++ Wd.cl n :: r.words) = _
    unfold foldT
    rw [List.foldl_append]
    have ib := foldT_tree b [] (x :: s)
    unfold foldT at ib
    rw [ib]
    show foldT ((x ++ (List.replicate n ([] ++ b.steps)).flatten) :: s) r.words = _
    rw [foldT_tree r, List.nil_append, List.append_assoc]
    rfl
theorem foldT_succ {s : List (List Nat)} {ws : List Wd} {i : Nat} {x : Wd} (h : ws[i]? = some x) : foldT s (ws.take (i + 1)) = stepT (foldT s (ws.take i)) x := by
  unfold foldT
  rw [List.take_succ, h, List.foldl_append]
  rfl
theorem step_lens (s : List (List Nat)) (x : Wd) : (stepT s x).map List.length = stepL (s.map List.length) x := by
  cases x with
  | op => rfl
  | cl n =>
    match s with
    | [] => rfl
    | [y] => rfl
    | y :: z :: s => simp [stepT, stepL, Nat.mul_comm]
  | lt c n =>
    match s with
    | [] => rfl
    | y :: s => simp [stepT, stepL]
theorem fold_lens : ∀ (ws : List Wd) (s : List (List Nat)), (foldT s ws).map List.length = foldS (s.map List.length) ws
  | [], s => rfl
  | x :: ws, s => by
    show (foldT (stepT s x) ws).map List.length = foldS (stepL (s.map List.length) x) ws
    rw [fold_lens ws, step_lens]
theorem txt_le {p : Ps} (ok : p.ok) (i : Nat) {a : List Nat} (ha : a ∈ foldT [[]] (p.words.take i)) : a.length ≤ p.size := by
  refine tot_le ok i ?_
  have e := fold_lens (p.words.take i) [[]]
  rw [show ([0] : List Nat) = ([[]] : List (List Nat)).map List.length from rfl, ← e]
  exact List.mem_map_of_mem ha
abbrev txS (l : List Nat) : Str := ⟨l.toArray⟩
def txV (s : List (List Nat)) : List V := s.reverse.map fun l => V.str (txS l)
theorem txV_cons (x : List Nat) (s : List (List Nat)) : txV (x :: s) = txV s ++ [.str (txS x)] := by
  unfold txV
  rw [List.reverse_cons, List.map_append]
  rfl
theorem txV_len (s : List (List Nat)) : (txV s).length = s.length := by
  unfold txV
  rw [List.length_map, List.length_reverse]
theorem tx_len (l : List Nat) : (txS l).length = l.length := by rw [WM.len_tl]
theorem tx_app (a b : List Nat) : txS a ++ txS b = txS (a ++ b) := ext_tl (tl_append _ _)
theorem tx_mul (l : List Nat) (n : Nat) : Txt.mul (txS l) (n : Int) = txS (List.replicate n l).flatten := by
  have key : ∀ (n : Nat) (acc : Array Nat), (List.replicate n l.toArray).foldl (· ++ ·) acc = acc ++ (List.replicate n l).flatten.toArray := by
    intro n
    induction n with
    | zero => intro acc; simp
    | succ n ih =>
      intro acc
      rw [List.replicate_succ, List.foldl_cons, ih, List.replicate_succ, List.flatten_cons]
      apply Array.ext'
      simp
  unfold Txt.mul
  by_cases h0 : n = 0
  · subst h0
    rfl
  rw [if_neg (by omega)]
  split
  · rename_i h
    rcases Bool.or_eq_true _ _ ▸ h with h | h
    · have h : (n : Int) = 1 := by simpa using h
      have : n = 1 := by omega
      subst this
      show txS l = txS ([l].flatten)
      rw [show ([l] : List (List Nat)).flatten = l ++ [] from rfl, List.append_nil]
    · have h : (txS l).length = 0 := by simpa using h
      rw [tx_len] at h
      obtain rfl := List.length_eq_zero_iff.mp h
      refine congrArg txS ?_
      simp
  · show (⟨(List.replicate (n : Int).toNat l.toArray).foldl (· ++ ·) #[]⟩ : Str) = _
    rw [Int.toNat_natCast, key, Array.empty_append]
theorem mul_okS {l : List Nat} {n : Nat} (hl : l.length ≤ 1000) (hn : n ≤ 1000) : MulOk (txS l) (n : Int) := by
  refine ⟨?_, fun h1 _ h => ?_, fun _ _ => ?_⟩
  · rw [decide_eq_false (by omega), decide_eq_false (by omega)]
    rfl
  · rw [tx_len] at h
    have h2 : (l.length : Int) ≤ (2 ^ 63 - 1) / (n : Int) := by
      refine Int.le_ediv_of_mul_le (by omega) ?_
      have h3 : l.length * n ≤ 1000 * 1000 := Nat.mul_le_mul hl hn
      have h4 : (l.length : Int) * (n : Int) = ((l.length * n : Nat) : Int) := (Int.natCast_mul _ _).symm
      rw [h4]
      omega
    omega
  · rw [tx_len, Int.toNat_natCast]
    have h3 : l.length * n ≤ 1000 * 1000 := Nat.mul_le_mul hl hn
    have h4 : 1000 * 1000 ≤ sizeLine := by decide
    unfold Builtin.Str.tooLong
    exact decide_eq_false (by omega)
end K05P

set_option Elab.async false
set_option linter.all false
set_option maxRecDepth 100000
set_option maxHeartbeats 1000000
set_option exponentiation.threshold 300000
namespace K05P
open PySem PySem.Spec PyProof.Rows L2 RT WM K05 TL
section
variable {P : Program} {w : World} {K : PySem.W.Frag} {mg : Str → Option Value} {base : Heap}
def spStepsL (K : PySem.W.Frag) : Sp := fun vs H Q _ => ∃ (a : Addr) (p : Ps), vs = [.ref a] ∧ SqL K H a (wstrs p.words) ∧ p.ok ∧ p.words.length ≤ 1000 ∧ p.size ≤ 1000 ∧ ∀ H', Same H H' → Q (.str (txS p.steps)) H'
theorem ok_stepsL (D : Ds K) (T : Tx K mg) : FnOk P w K mg base CX0 1 (d_law_steps.adr K) D.fd__law_steps ["words"] (spStepsL K) := by
  refine D.F__law_steps.ok sc_law_steps (fun vs H Q E h => ?_) (fun cdv A outer s H vs Q E hr h => ?_)
  · obtain ⟨a, p, rfl, _⟩ := h
    rfl
  · obtain ⟨a, p, rfl, ha, okp, few, sz, q⟩ := h
    have nd := sc_law_steps.nd
    refine ⟨_, PSs.nox (pss_cons (ps_set (i := 1) nd rfl (.inl rfl) (pe_lst (pa_cons pe_str pa_nil)))
        (pss_cons (ps_for PassesOwn.never rfl (pi_list (pv 0)) (pg_name (i := 2) nd rfl (.inl rfl))
        (pss_one (ps_if (pt_cmpR op_eq (pv 2) pe_str (nomark _))
        (pss_one (ps_expr (pe_bm PySem.F.plainAttrs_list PySem.F.slot_list_append PySem.F.type_list_append mt_append (pv 1) (pa_cons pe_str pa_nil))))
        (pss_one (ps_if (pt_cmpR op_eq (pe_ix ix_str (pv 2) pe_int (fun _ _ => rfl)) pe_str (nomark _))
        (pss_cons (ps_set (i := 3) nd rfl (.inl rfl) (pe_bm0 PySem.F.plainAttrs_list PySem.F.slot_list_pop PySem.F.type_list_pop mt_pop (pv 1)))
        (pss_one (ps_asg (pe_op op_add_str (pe_ix ix_list (pv 1) (pe_un un_neg pe_int) (fun _ _ => rfl)) (pe_op op_mulS (pv 3) (pe_callTy call_int_str (by rfl) T.z_int (by decide +kernel) (pa_cons (pe_slice sl_str (pv 2) (po_some pe_int) po_none) pa_nil)))) (pg_sub (pv 1) (pe_un un_neg pe_int) set_list))))
        (pss_one (ps_asg (pe_op op_add_str (pe_ix ix_list (pv 1) (pe_un un_neg pe_int) (fun _ _ => rfl)) (pe_op op_mulS (pe_ix ix_str (pv 2) pe_int (fun _ _ => rfl)) (pe_op op_add (pe_callTy call_int_str (by rfl) T.z_int (by decide +kernel) (pa_cons (pe_op op_add_str pe_str (pe_slice sl_str (pv 2) (po_some pe_int) po_none)) pa_nil)) (pe_callTy call_int1 (by rfl) T.z_int (by decide +kernel) (pa_cons (pe_cmpR op_eq (pe_callB call_len_str (by rfl) T.z_len PySem.boot_len (pa_cons (pv 2) pa_nil)) pe_int (nomark _)) pa_nil))))) (pg_sub (pv 1) (pe_un un_neg pe_int) set_list))))))))
        (pss_one (ps_ret (pe_ix ix_list (pv 1) pe_int (fun _ _ => rfl)))))), ?_⟩
    have oks := words_ok p okp
    have z1000 : 100000 ≤ sizeLine := by decide
    refine ⟨by show 1 ≤ sizeLine; decide, fun t ht => ?_⟩
    have st := same_new (o := .lst [.str ""]) ht
    refine ⟨_, rfl, a, rfl, ⟨_, Same.sql st ha⟩, ?_⟩
    refine for_list (xs := wstrs p.words) (fun i σ H' => ∃ z2 z3, Same H H' ∧ H' t = some (.lst (txV (foldT [[]] (p.words.take i)))) ∧ ((foldT [[]] (p.words.take i)).length : Int) = dep p.words i + 1 ∧ σ = [some (.ref a), some (.ref t), z2, z3])
      ⟨none, none, st, (show _ = some (HO.lst [V.str ""]) from upd_same), rfl, rfl⟩ (fun i σ H' hi hp => by obtain ⟨_, _, s2, _⟩ := hp; exact Same.sql s2 ha) (fun i x σ H1 hx hp => ?_) fun σ H' hp => ?_
    · obtain ⟨z2, z3, sm, et, dl, rfl⟩ := hp
      obtain ⟨y, hy, rfl⟩ : ∃ y, p.words[i]? = some y ∧ x = .str y.str := by
        unfold wstrs at hx
        rw [List.getElem?_map] at hx
        cases e : p.words[i]? with
        | none => rw [e] at hx; cases hx
        | some y =>
          rw [e] at hx
          injection hx with hx
          exact ⟨y, rfl, hx.symm⟩
      have yo := oks y (List.mem_of_getElem? hy)
      have yn := num_le p okp y (List.mem_of_getElem? hy)
      have il := (List.getElem?_eq_some_iff.mp hy).1
      have ds := dep_succ hy
      have zl : y.str.length ≤ sizeLine := by
        have := cps_len yo
        have e : y.str.length = y.cps.length := WM.len_tl _
        omega
      have bd : ∀ l ∈ foldT [[]] (p.words.take i), l.length ≤ 1000 := fun l hl => Nat.le_trans (txt_le okp i hl) sz
      have bd2 : ∀ l ∈ stepT (foldT [[]] (p.words.take i)) y, l.length ≤ 1000 := fun l hl => Nat.le_trans (txt_le okp (i + 1) (by rw [foldT_succ hy]; exact hl)) sz
      rw [foldT_succ hy]
      have lens : ((foldT [[]] (p.words.take i)).length : Int) ≤ 2000 := by
        rw [dl]
        have := (dep_tree p).1 i
        have : p.lev ≤ p.words.length := lev_le p
        omega
      cases y with
      | op =>
        refine ⟨_, rfl, rfl, true, rfl, iteT ⟨_, rfl, .inl ⟨rfl, _, lstL et⟩, t, _, _, rfl, rfl, et, by rw [txV_len]; omega, _, _, fun q o e => ?_, ?_, ?_, rfl⟩⟩
        · rw [upd_ne (ne_of_none e ht)]
          exact sm _ _ e
        · rw [upd_same]
          show _ = some (HO.lst (txV ([] :: _)))
          rw [txV_cons]
          rfl
        · show (((foldT [[]] (p.words.take i)).length + 1 : Nat) : Int) = _
          have : b2 (isOp Wd.op) = 1 := rfl
          have : b2 (isCl Wd.op) = 0 := rfl
          omega
      | cl n =>
        obtain ⟨hd0, _⟩ := cl_tree p okp i n hy
        obtain ⟨S, eS⟩ : ∃ S, S = foldT [[]] (p.words.take i) := ⟨_, rfl⟩
        rw [← eS] at et dl bd bd2 lens ⊢
        obtain ⟨x1, y1, S', rfl⟩ : ∃ x1 y1 S', S = x1 :: y1 :: S' := by
          cases S with
          | nil => rw [List.length_nil] at dl; omega
          | cons x1 S =>
            cases S with
            | nil => rw [List.length_singleton] at dl; omega
            | cons y1 S' => exact ⟨x1, y1, S', rfl⟩
        rw [txV_cons, txV_cons] at et
        have bx := bd x1 (List.mem_cons_self ..)
        have bY := bd2 _ (List.mem_cons_self ..)
        have n1000 : n ≤ 1000 := Nat.le_trans yn sz
        have ci : (Wd.cl n).str.cps.toList = 41 :: numL n := rfl
        refine ⟨_, rfl, rfl, false, ?_, iteF ⟨_, rfl, _, _, 41, rfl, rfl, zl, by rw [ci]; exact atI_nat (j := 0) rfl, rfl, true, rfl, iteT ?_⟩⟩
        · exact congrArg V.bl (decide_eq_false fun z => by injection z with z; have := (is_op (.cl n) yo).mp z; cases this)
        refine ⟨_, rfl, .inl ⟨rfl, _, lstL et⟩, t, _, .str (txS x1), rfl, rfl, et, ?_, ?_⟩
        · rw [List.length_append, List.getElem?_append_right (by show _ ≤ _ + 1 - 1; omega)]
          show [V.str (txS x1)][_]? = _
          rw [show (txV S' ++ [V.str (txS y1)]).length + [V.str (txS x1)].length - 1 - (txV S' ++ [V.str (txS y1)]).length = 0 by show _ + 1 - 1 - _ = 0; omega]
          rfl
        rw [List.dropLast_concat]
        have et2 : upd H1 t (.lst (txV S' ++ [.str (txS y1)])) t = some (.lst (txV S' ++ [.str (txS y1)])) := upd_same
        refine ⟨_, rfl, 1, rfl, t, _, _, _, rfl, rfl, lstL et2, atI_last _ _, _, rfl, _, rfl, 1, rfl, _, rfl, zl, _, (n : Int), rfl, ?_, ?_, _, _, rfl, rfl, mul_okS bx n1000, _, _, rfl, rfl, ?_, _, rfl, 1, rfl, t, _, _, (txV S').length, rfl, rfl, et2, ?_, ?_⟩
        · rw [(cl_cut n).2]
          exact dg_int yo.2
        · rw [(cl_cut n).2]
          exact Nat.le_trans (dg_len yo.2) (by decide)
        · rw [tx_mul, tx_len, tx_len, ← List.length_append]
          exact Nat.le_trans bY (by decide)
        · rw [List.length_append]
          exact ixN_last _
        rw [set_last, tx_mul, tx_app]
        refine ⟨_, _, fun q o e => ?_, ?_, ?_, rfl⟩
        · rw [upd_ne (ne_of_none e ht), upd_ne (ne_of_none e ht)]
          exact sm _ _ e
        · rw [upd_same]
          show _ = some (HO.lst (txV ((y1 ++ (List.replicate n x1).flatten) :: S')))
          rw [txV_cons]
        · show ((((y1 ++ (List.replicate n x1).flatten) :: S').length : Nat) : Int) = _
          have : b2 (isOp (Wd.cl n)) = 0 := rfl
          have : b2 (isCl (Wd.cl n)) = 1 := rfl
          rw [List.length_cons] at dl ⊢
          rw [List.length_cons] at dl
          omega
      | lt c n =>
        have dpos := ((dep_tree p).1 i).1
        obtain ⟨S, eS⟩ : ∃ S, S = foldT [[]] (p.words.take i) := ⟨_, rfl⟩
        rw [← eS] at et dl bd bd2 lens ⊢
        obtain ⟨x1, S', rfl⟩ : ∃ x1 S', S = x1 :: S' := by
          cases S with
          | nil => rw [List.length_nil] at dl; omega
          | cons x1 S => exact ⟨x1, S, rfl⟩
        rw [txV_cons] at et
        have bY := bd2 _ (List.mem_cons_self ..)
        have n1000 : n ≤ 1000 := Nat.le_trans yn sz
        have sl := six_low yo.1
        obtain ⟨rest, er⟩ : ∃ rest, (Wd.lt c n).str.cps.toList = c :: rest := by
          by_cases h1 : n = 1
          · exact ⟨[], if_pos h1⟩
          · exact ⟨numL n, if_neg h1⟩
        refine ⟨_, rfl, rfl, false, ?_, iteF ⟨_, rfl, _, _, c, rfl, rfl, zl, by rw [er]; exact atI_nat (j := 0) rfl, rfl, false, ?_, iteF ?_⟩⟩
        · exact congrArg V.bl (decide_eq_false fun z => by injection z with z; have := (is_op (.lt c n) yo).mp z; cases this)
        · exact congrArg V.bl (decide_eq_false fun z => by
            injection z with z
            have h0 := congrArg tl z
            have h41 : c = 41 := by injection h0
            omega)
        have key : ∃ (k : Nat) (b : Bool), intText? (("0" : Str) ++ cutS (Wd.lt c n).str (some 1) none) = some (k : Int) ∧ (("0" : Str) ++ cutS (Wd.lt c n).str (some 1) none).length ≤ 40 ∧ (cutS (Wd.lt c n).str (some 1) none).length ≤ 31 ∧ decide (V.int ((Wd.lt c n).str.length : Int) = V.int 1) = b ∧ (k : Int) + (if b = true then 1 else 0) = ((n : Nat) : Int) := by
          by_cases h1 : n = 1
          · subst h1
            have ec : cutS (Wd.lt c 1).str (some 1) none = "" := cut_rest c []
            rw [ec]
            exact ⟨0, true, by decide +kernel, by decide, by decide, decide_eq_true rfl, rfl⟩
          · have ec := (lt_cut c h1).2
            have dl2 := dg_len yo.2.2
            rw [ec]
            refine ⟨n, false, zero_int yo.2.2, ?_, dl2, decide_eq_false fun z => ?_, ?_⟩
            · rw [WM.len_tl, tl_append, List.length_append]
              have : (tl ("0" : Str)).length = 1 := rfl
              have : (tl (dgS n)).length = (dgS n).length := (WM.len_tl _).symm
              omega
            · injection z with z
              have e2 : (Wd.lt c n).str.length = (c :: numL n).length := by
                rw [WM.len_tl]
                show (if n = 1 then [c] else c :: numL n).length = _
                rw [if_neg h1]
              have : (numL n).length ≠ 0 := fun z => numL_ne n (List.length_eq_zero_iff.mp z)
              rw [List.length_cons] at e2
              omega
            · rw [if_neg (by decide)]
              omega
        obtain ⟨k, b, k1, k2, k3, k4, k5⟩ := key
        have l0 : ("0" : Str).length = 1 := rfl
        have one : (List.replicate n ([c] : List Nat)).flatten = List.replicate n c := by
          rw [List.flatten_replicate_singleton]
        refine ⟨_, rfl, 1, rfl, t, _, _, _, rfl, rfl, lstL et, atI_last _ _, _, rfl, _, _, c, rfl, rfl, zl, by rw [er]; exact atI_nat (j := 0) rfl, _, rfl, 1, rfl, _, rfl, zl, _, _, rfl, rfl, by omega, _, _, rfl, k1, by omega, _, rfl, _, rfl, zl, rfl, .inr ⟨_, congrArg (fun z => [V.bl z]) k4, _, _, rfl, rfl, ?_⟩⟩
        have k6 : V.int ((k : Int) + (if b = true then 1 else 0)) = V.int (n : Int) := congrArg V.int k5
        refine ⟨txS [c], (n : Int), rfl, k6, mul_okS (l := [c]) (by show 1 ≤ 1000; decide) n1000, _, _, rfl, rfl, ?_, _, rfl, 1, rfl, t, _, _, (txV S').length, rfl, rfl, et, ?_, ?_⟩
        · rw [tx_mul, tx_len, tx_len, one, ← List.length_append]
          exact Nat.le_trans bY (by decide)
        · rw [List.length_append]
          exact ixN_last _
        rw [set_last, tx_mul, tx_app, one]
        refine ⟨_, _, fun q o e => ?_, ?_, ?_, rfl⟩
        · rw [upd_ne (ne_of_none e ht)]
          exact sm _ _ e
        · rw [upd_same]
          show _ = some (HO.lst (txV ((x1 ++ List.replicate n c) :: S')))
          rw [txV_cons]
        · show ((((x1 ++ List.replicate n c) :: S').length : Nat) : Int) = _
          have : b2 (isOp (Wd.lt c n)) = 0 := rfl
          have : b2 (isCl (Wd.lt c n)) = 0 := rfl
          rw [List.length_cons] at dl ⊢
          omega
    · obtain ⟨z2, z3, sm, et, dl, rfl⟩ := hp
      have len : (wstrs p.words).length = p.words.length := List.length_map ..
      rw [len, List.take_length, foldT_tree p [] []] at et
      have e0 : txV [[] ++ p.steps] = [.str (txS p.steps)] := rfl
      rw [e0] at et
      exact ⟨_, rfl, t, _, 0, _, rfl, rfl, lstL et, atI_nat (j := 0) rfl, q H' sm⟩
end
end K05P

set_option Elab.async false
set_option linter.all false
set_option maxRecDepth 100000
set_option maxHeartbeats 4000000
/-! the laws' draws behind a counter that always comes: from there on one fixed row of draws, whose names are known -/
namespace LN
/-- what a draw is made of, behind counter c -/
def fstI (B c : Int) : Int := (B % 2147483629 * 48271 + c * 69621 + 12345) % 2147483647
def sndI (B c : Int) : Int := (fstI B c * fstI B c + c * 40692) % 2147483587
def toldI (B c m : Int) : Int := (fstI B c * 2147483587 + sndI B c) / 32 % m
/-- the fixed row -/
def fN (d : Nat) : Nat := d * 69621 % 2147483647
def wN (d : Nat) : Nat := (fN d * 2147483587 + (fN d * fN d + d * 40692) % 2147483587) / 32
def Star (B : Int) (C : Nat) : Prop := (B % 2147483629 * 48271 + (C : Int) * 69621 + 12345) % 2147483647 = 0 ∧ (C : Int) % 2147483587 = 0
theorem star (B : Int) (n : Nat) : ∃ C : Nat, n ≤ C ∧ C ≤ n + 9223371770566803578 ∧ Star B C := by
  obtain ⟨b, hb⟩ : ∃ b, b = B % 2147483629 := ⟨_, rfl⟩
  have b0 : 0 ≤ b := hb ▸ Int.emod_nonneg _ (by decide)
  have b1 : b < 2147483629 := hb ▸ Int.emod_lt_of_pos _ (by decide)
  obtain ⟨y, hy⟩ : ∃ y : Int, y = (-12345 - b * 48271) * 631919809 := ⟨_, rfl⟩
  obtain ⟨x, hx⟩ : ∃ x : Int, x = y % 2147483647 := ⟨_, rfl⟩
  have x0 : 0 ≤ x := hx ▸ Int.emod_nonneg _ (by decide)
  have x1 : x < 2147483647 := hx ▸ Int.emod_lt_of_pos _ (by decide)
  obtain ⟨k, hk⟩ : ∃ k : Nat, k = n / 4611685885283401789 + 1 := ⟨_, rfl⟩
  refine ⟨(2147483587 * x + 4611685885283401789 * (k : Int)).toNat, by omega, by omega, ?_, ?_⟩
  · have e : (((2147483587 * x + 4611685885283401789 * (k : Int)).toNat : Nat) : Int) = 2147483587 * x + 4611685885283401789 * (k : Int) := Int.toNat_of_nonneg (by omega)
    rw [e, ← hb]
    have hx2 : x = y - 2147483647 * (y / 2147483647) := by
      have := Int.emod_add_mul_ediv y 2147483647
      omega
    generalize y / 2147483647 = t at hx2
    refine Int.emod_eq_zero_of_dvd ⟨(-12345 - b * 48271) * 43994887793186 - 2147483587 * 69621 * t + 2147483587 * 69621 * (k : Int), ?_⟩
    rw [hx2, hy]
    omega
  · have e : (((2147483587 * x + 4611685885283401789 * (k : Int)).toNat : Nat) : Int) = 2147483587 * x + 4611685885283401789 * (k : Int) := Int.toNat_of_nonneg (by omega)
    rw [e]
    omega
theorem fst_fix {B : Int} {C : Nat} (h : Star B C) (d : Nat) : fstI B ((C : Int) + d) = (fN d : Int) := by
  obtain ⟨h1, _⟩ := h
  unfold fstI fN
  rw [Int.natCast_emod, Int.natCast_mul]
  generalize B % 2147483629 = b at h1 ⊢
  show _ = ((d : Int) * 69621) % 2147483647
  omega
theorem mod_star {C d z : Nat} (h2 : (C : Int) % 2147483587 = 0) : ((z : Int) + ((C : Int) + (d : Int)) * 40692) % 2147483587 = (((z + d * 40692) % 2147483587 : Nat) : Int) := by
  rw [Int.natCast_emod, Int.natCast_add, Int.natCast_mul]
  have e : (z : Int) + ((C : Int) + (d : Int)) * 40692 = ((z : Int) + (d : Int) * 40692) + (C : Int) * 40692 := by omega
  rw [e]
  have e2 : (C : Int) * 40692 % 2147483587 = 0 := by omega
  refine (Int.add_emod _ _ _).trans ?_
  rw [e2, Int.add_zero, Int.emod_emod_of_dvd _ (Int.dvd_refl _)]
  rfl
theorem snd_fix {B : Int} {C : Nat} (h : Star B C) (d : Nat) : sndI B ((C : Int) + (d : Int)) = (((fN d * fN d + d * 40692) % 2147483587 : Nat) : Int) := by
  have e1 : sndI B ((C : Int) + (d : Int)) = ((fN d : Int) * (fN d : Int) + ((C : Int) + (d : Int)) * 40692) % 2147483587 := by
    unfold sndI
    exact congrArg (fun z : Int => (z * z + ((C : Int) + (d : Int)) * 40692) % 2147483587) (fst_fix h d)
  refine e1.trans ?_
  have e2 : (fN d : Int) * (fN d : Int) = ((fN d * fN d : Nat) : Int) := (Int.natCast_mul _ _).symm
  rw [e2]
  generalize fN d * fN d = z
  exact mod_star h.2
theorem told_fix {B : Int} {C : Nat} (h : Star B C) (d m : Nat) : toldI B ((C : Int) + d) (m : Int) = ((wN d % m : Nat) : Int) := by
  unfold toldI
  rw [fst_fix h d, snd_fix h d]
  unfold wN
  generalize (fN d * fN d + d * 40692) % 2147483587 = s
  generalize fN d = f
  obtain ⟨X, hX⟩ : ∃ X, X = f * 2147483587 + s := ⟨_, rfl⟩
  have e : (f : Int) * 2147483587 + (s : Int) = (X : Int) := by rw [hX]; omega
  rw [e, ← hX, Int.natCast_emod, Int.natCast_ediv]
  rfl
/-- a name drawn behind d draws of the row, and where it ends -/
def letN (d : Nat) : Nat := 97 + wN (d + 2) % (if wN (d + 1) % 2 = 0 then 3 else 26)
def nameN : Nat → Nat → List Nat
  | _, 0 => []
  | d, k + 1 => letN d :: nameN (d + 2) k
def sizN (d : Nat) : Nat := 2 + wN (d + 1) % 7
def nextN (d : Nat) : Nat := d + 1 + 2 * sizN d
def oneN (d : Nat) : List Nat := nameN (d + 1) (sizN d)
def atN (d : Nat) : Nat → Nat
  | 0 => d
  | k + 1 => nextN (atN d k)
def namesN (d : Nat) : Nat → List (List Nat)
  | 0 => []
  | k + 1 => let r := namesN d k; let x := oneN (atN d k); if x ∈ r then r else r ++ [x]
theorem many_names : ∀ a, a < 17 → 19 ≤ (namesN a 19).length := by decide +kernel
theorem next_le (d : Nat) : d + 5 ≤ nextN d ∧ nextN d ≤ d + 17 := by
  unfold nextN sizN
  have := Nat.mod_lt (wN (d + 1)) (show 0 < 7 by decide)
  omega
theorem len_sub {α : Type} [BEq α] [LawfulBEq α] : ∀ (l l' : List α), l.Nodup → (∀ x ∈ l, x ∈ l') → l.length ≤ l'.length
  | [], _, _, _ => Nat.zero_le _
  | x :: l, l', hn, hs => by
    have hx := hs x (List.mem_cons_self ..)
    have nx := (List.nodup_cons.mp hn)
    have ih := len_sub l (l'.erase x) nx.2 fun y hy => (List.mem_erase_of_ne (fun z => nx.1 (by rw [← z]; exact hy))).mpr (hs y (List.mem_cons_of_mem _ hy))
    rw [List.length_erase_of_mem hx] at ih
    have : 0 < l'.length := List.length_pos_of_mem hx
    show l.length + 1 ≤ _
    omega
theorem namesN_nodup (d : Nat) : ∀ k, (namesN d k).Nodup
  | 0 => List.nodup_nil
  | k + 1 => by
    show (if oneN (atN d k) ∈ namesN d k then namesN d k else namesN d k ++ [oneN (atN d k)]).Nodup
    split
    · exact namesN_nodup d k
    · rename_i h
      refine List.nodup_append.mpr ⟨namesN_nodup d k, List.nodup_cons.mpr ⟨(nomatch ·), List.nodup_nil⟩, fun a ha b hb => ?_⟩
      rw [List.mem_singleton.mp hb]
      exact fun z => h (z ▸ ha)
theorem namesN_sub {d k : Nat} {l : List (List Nat)} (h : ∀ x ∈ namesN d k, x ∈ l) (h2 : oneN (atN d k) ∈ l) : ∀ x ∈ namesN d (k + 1), x ∈ l := by
  show ∀ x ∈ (if oneN (atN d k) ∈ namesN d k then namesN d k else namesN d k ++ [oneN (atN d k)]), x ∈ l
  split
  · exact h
  · intro x hx
    rcases List.mem_append.mp hx with hx | hx
    · exact h x hx
    · rw [List.mem_singleton.mp hx]
      exact h2
theorem atN_le (d : Nat) : ∀ k, d + 5 * k ≤ atN d k ∧ atN d k ≤ d + 17 * k
  | 0 => ⟨Nat.le_refl _, Nat.le_refl _⟩
  | k + 1 => by
    have h := atN_le d k
    have h2 := next_le (atN d k)
    show d + 5 * (k + 1) ≤ nextN (atN d k) ∧ nextN (atN d k) ≤ d + 17 * (k + 1)
    omega
/-- how far the names of a loop are, that began at counter c0 with A -/
def Far (B : Int) (C : Nat) (c : Nat) (A : Int) (found : List (List Nat)) : Prop :=
  c < C ∨ (A = 0 ∧ ∃ a k, a < 17 ∧ c = C + atN a k ∧ ∀ x ∈ namesN a k, x ∈ found)
theorem far_end {B : Int} {C c : Nat} {A : Int} {found : List (List Nat)} (h : Far B C c A found) (few : found.length < 19) : c < C + 400 := by
  rcases h with h | ⟨_, a, k, ha, rfl, hs⟩
  · omega
  · have hk : k < 19 := by
      refine Classical.byContradiction fun no => ?_
      have mono : ∀ i, 19 ≤ (namesN a (19 + i)).length := fun i => by
        induction i with
        | zero => exact many_names a ha
        | succ i ih =>
          show 19 ≤ (if oneN (atN a (19 + i)) ∈ namesN a (19 + i) then namesN a (19 + i) else namesN a (19 + i) ++ [oneN (atN a (19 + i))]).length
          split
          · exact ih
          · rw [List.length_append]
            omega
      have h19 := mono (k - 19)
      rw [show 19 + (k - 19) = k by omega] at h19
      have := len_sub _ _ (namesN_nodup a k) hs
      omega
    have := (atN_le a k).2
    omega
end LN

set_option Elab.async false
set_option linter.all false
set_option maxRecDepth 100000
set_option maxHeartbeats 4000000
set_option exponentiation.threshold 3000
namespace K05P
open PySem PySem.Spec PyProof.Rows L2 RT WM K05 TL
/-- a bag of the law, exactly -/
def BgX (H : Hp) (b : Addr) (A B : Int) (c : Nat) : Prop := H b = some (.lst [.int A, .int B, .int c]) ∧ 0 ≤ A
theorem BgX.same {H H' : Hp} {b : Addr} {A B : Int} {c : Nat} (h : BgX H b A B c) (e : Same H H') : BgX H' b A B c := ⟨e _ _ h.1, h.2⟩
theorem BgX.bg {H : Hp} {b : Addr} {A B : Int} {c : Nat} (h : BgX H b A B c) : Bg H b c := ⟨A, B, h⟩
section
variable {P : Program} {w : World} {K : PySem.W.Frag} {mg : Str → Option Value} {base : Heap}
def spPickX : Sp := fun vs H Q _ => ∃ (b : Addr) (m A B : Int) (c : Nat), vs = [.ref b, .int m] ∧ BgX H b A B c ∧ c ≤ 10000000000000000000000 ∧ 1 ≤ m ∧ m.natAbs < 2 ^ 1500 ∧
  ∀ H', Keep b H H' → BgX H' b (if 0 < A then A / m else A) B (c + 1) → Q (.int (if 0 < A then A % m else LN.toldI B ((c : Int) + 1) m)) H'
theorem ok_pickX (D : Ds K) (T : Tx K mg) : FnOk P w K mg base CX0 1 (d_law_pick.adr K) D.fd__law_pick ["bag", "many"] spPickX := by
  refine D.F__law_pick.ok sc_law_pick (fun vs H Q E h => ?_) (fun cdv A outer s H vs Q E hr h => ?_)
  · obtain ⟨b, m, A1, B, c, rfl, _⟩ := h
    rfl
  · obtain ⟨b, m, A1, B, c, rfl, ⟨eb, hA⟩, hc, hm, hm2, q⟩ := h
    have nd := sc_law_pick.nd
    refine ⟨_, PSs.nox (pss_cons (ps_asg (pe_op op_add (pe_ix ix_list (pv 0) pe_int (fun _ _ => rfl)) pe_int) (pg_sub (pv 0) pe_int set_list))
        (pss_cons (ps_if (pt_cmpR op_gt (pe_ix ix_list (pv 0) pe_int (fun _ _ => rfl)) pe_int (nomark _)) (pss_cons (ps_set (i := 2) nd rfl (.inl rfl) (pe_op op_mod (pe_ix ix_list (pv 0) pe_int (fun _ _ => rfl)) (pv 1)))
        (pss_cons (ps_asg (pe_op op_fdivW (pe_ix ix_list (pv 0) pe_int (fun _ _ => rfl)) (pv 1)) (pg_sub (pv 0) pe_int set_list))
        (pss_one (ps_ret (pv 2))))) pss_nil)
        (pss_cons (ps_set (i := 3) nd rfl (.inl rfl) (pe_op op_mod (pe_op op_add (pe_op op_add (pe_op op_mulW (pe_op op_mod (pe_ix ix_list (pv 0) pe_int (fun _ _ => rfl)) pe_int) pe_int) (pe_op op_mulW (pe_ix ix_list (pv 0) pe_int (fun _ _ => rfl)) pe_int)) pe_int) pe_int))
        (pss_cons (ps_set (i := 4) nd rfl (.inl rfl) (pe_op op_mod (pe_op op_add (pe_op op_mulW (pv 3) (pv 3)) (pe_op op_mulW (pe_ix ix_list (pv 0) pe_int (fun _ _ => rfl)) pe_int)) pe_int))
        (pss_one (ps_ret (pe_op op_mod (pe_op op_fdivW (pe_op op_add (pe_op op_mulW (pv 3) pe_int) (pv 4)) pe_int) (pv 1)))))))), ?_⟩
    have g2 : atI [V.int A1, V.int B, V.int c] 2 = some (.int c) := atI_nat (j := 2) rfl
    refine ⟨_, rfl, b, _, 2, _, rfl, rfl, lstL eb, g2, _, _, rfl, rfl, _, rfl, b, _, 2, 2, rfl, rfl, eb, rfl, ?_⟩
    have e2 : upd H b (.lst ([V.int A1, V.int B, V.int c].set 2 (.int ((c : Int) + 1)))) b = some (.lst [.int A1, .int B, .int ((c : Int) + 1)]) := upd_same
    have k0 : atI [V.int A1, V.int B, V.int ((c : Int) + 1)] 0 = some (.int A1) := atI_nat (j := 0) rfl
    have k1 : atI [V.int A1, V.int B, V.int ((c : Int) + 1)] 1 = some (.int B) := atI_nat (j := 1) rfl
    have k2 : atI [V.int A1, V.int B, V.int ((c : Int) + 1)] 2 = some (.int ((c : Int) + 1)) := atI_nat (j := 2) rfl
    refine ⟨_, rfl, b, _, 0, _, rfl, rfl, lstL e2, k0, _, _, rfl, rfl, _, rfl, ite2 (fun e => ?_) (fun e => ?_)⟩
    · have e0 : 0 < A1 := of_decide_eq_true e
      refine ⟨_, rfl, b, _, 0, _, rfl, rfl, lstL e2, k0, _, rfl, _, _, rfl, rfl, by show 0 < m; omega, ?_⟩
      refine ⟨_, rfl, b, _, 0, _, rfl, rfl, lstL e2, k0, _, rfl, _, _, rfl, rfl, wide_div (b := 1500) (by omega) hm2 (by decide) (by decide), ?_⟩
      refine ⟨_, rfl, b, _, 0, 0, rfl, rfl, e2, rfl, _, rfl, ?_⟩
      rw [if_pos e0, if_pos e0] at q
      exact q _ (keep_upd.trans keep_upd) ⟨upd_same, Int.ediv_nonneg hA (by omega)⟩
    · have e0 : ¬ 0 < A1 := fun z => e (decide_eq_true z)
      rw [if_neg e0, if_neg e0] at q
      have m0 : 0 ≤ B % 2147483629 := Int.emod_nonneg _ (by decide)
      have m1 : B % 2147483629 < 2147483629 := Int.emod_lt_of_pos _ (by decide)
      refine ⟨_, rfl, b, _, 1, _, rfl, rfl, lstL e2, k1, _, _, rfl, rfl, by show (0 : Int) < _; decide, _, _, rfl, rfl, wide_mul (a := 40) (b := 40) (by omega) (by decide) (by decide) (by decide) (by decide), _, rfl, b, _, 2, _, rfl, rfl, lstL e2, k2, _, _, rfl, rfl, wide_mul (a := 80) (b := 40) (by omega) (by decide) (by decide) (by decide) (by decide), _, _, rfl, rfl, _, _, rfl, rfl, _, _, rfl, rfl, by show (0 : Int) < _; decide, ?_⟩
      obtain ⟨f, hf⟩ : ∃ f, f = (B % 2147483629 * 48271 + ((c : Int) + 1) * 69621 + 12345) % 2147483647 := ⟨_, rfl⟩
      have f0 : 0 ≤ f := hf ▸ Int.emod_nonneg _ (by decide)
      have f1 : f < 2147483647 := hf ▸ Int.emod_lt_of_pos _ (by decide)
      show gName 3 (V.int ((B % 2147483629 * 48271 + ((c : Int) + 1) * 69621 + 12345) % 2147483647)) _ _ _
      rw [← hf]
      have fb : f.natAbs < 2 ^ 40 := by omega
      refine ⟨_, rfl, _, rfl, _, _, rfl, rfl, wide_mul (a := 40) (b := 40) fb fb (by decide) (by decide) (by decide), _, rfl, b, _, 2, _, rfl, rfl, lstL e2, k2, _, _, rfl, rfl, wide_mul (a := 80) (b := 40) (by omega) (by decide) (by decide) (by decide) (by decide), _, _, rfl, rfl, _, _, rfl, rfl, by show (0 : Int) < _; decide, ?_⟩
      refine ⟨_, rfl, _, _, rfl, rfl, wide_mul (a := 40) (b := 40) fb (by decide) (by decide) (by decide) (by decide), _, rfl, _, _, rfl, rfl, _, _, rfl, rfl, wide_div (b := 10) (by decide) (by decide) (by decide) (by decide), _, rfl, _, _, rfl, rfl, by show 0 < m; omega, ?_⟩
      rw [hf]
      exact q _ keep_upd ⟨e2, hA⟩
end
end K05P

set_option Elab.async false
set_option linter.all false
set_option maxRecDepth 100000
set_option maxHeartbeats 1000000
set_option exponentiation.threshold 300000
namespace K05P
open PySem PySem.Spec PyProof.Rows L2 RT WM K05 TL
theorem words_zero {p : Ps} (h : p.words.length = 0) : p = .nil := by
  cases p with
  | nil => rfl
  | lf c n r => exact absurd h (by show (Wd.lt c n :: r.words).length ≠ 0; simp)
  | rp b n r => exact absurd h (by show (Wd.op :: (b.words ++ Wd.cl n :: r.words)).length ≠ 0; simp)
theorem one_small {p : Ps} (h : p.words.length = 1) (s : Sm 0 p) : p.size ≤ 4 := by
  cases p with
  | nil => exact absurd h (by decide)
  | lf c n r =>
    have h0 : r.words.length = 0 := by
      have : (Wd.lt c n :: r.words).length = 1 := h
      rw [List.length_cons] at this
      omega
    obtain rfl := words_zero h0
    have := s rfl (.lt c n) (by show Wd.lt c n ∈ [Wd.lt c n]; simp)
    show n + 0 ≤ 4
    exact this
  | rp b n r =>
    have : (Wd.op :: (b.words ++ Wd.cl n :: r.words)).length = 1 := h
    rw [List.length_cons, List.length_append, List.length_cons] at this
    omega
section
variable {P : Program} {w : World} {K : PySem.W.Frag} {mg : Str → Option Value} {base : Heap}
def spShort : Sp := fun vs H Q _ => ∃ (b : Addr) (S : Str) (c : Nat), vs = [.ref b, .int 30, .str S, .int 1000] ∧ Bg H b c ∧ c ≤ 8000000000000000000000 ∧ (∀ x ∈ S.cps.toList, x ∈ six) ∧ 1 ≤ S.length ∧ S.length ≤ 10 ∧
  ∀ (wl : Addr) (p : Ps) (c' : Nat) H', Keep b H H' → Bg H' b c' → c ≤ c' → c' ≤ c + 1201 → p.ok → p.lev ≤ 3 → 1 ≤ p.words.length → p.words.length ≤ 30 → p.size ≤ 1000 → H wl = none → H' wl = some (.lst (wstrs p.words)) → Q (.ref wl) H'
theorem ok_short (D : Ds K) (T : Tx K mg) : FnOk P w K mg base CX0 8 (d_law_short.adr K) D.fd__law_short ["bag", "most", "letters", "size"] spShort := by
  have GW : FnOk P w K mg base CX0 7 _ _ _ (spLW 4) := ok_lw D T 4
  have GL : FnOk P w K mg base CX0 1 _ _ _ (spLengthL K) := ok_lengthL D T
  refine D.F__law_short.ok sc_law_short (fun vs H Q E h => ?_) (fun cdv A outer s H vs Q E hr h => ?_)
  · obtain ⟨b, S, c, rfl, _⟩ := h
    rfl
  · obtain ⟨b, S, c, rfl, hb, hc, hS, S1, S2, q⟩ := h
    have nd := sc_law_short.nd
    refine ⟨_, PSs.nox (pss_cons (ps_set (i := 4) nd rfl (.inl rfl) (pe_call GW hr (by rfl) T.g__law_words D.F__law_words.kp (b__law_words D) .nil pass0 (pa_cons (pv 0) (pa_cons (pv 1) (pa_cons pe_int (pa_cons (pv 2) (pa_cons pe_int pa_nil)))))))
      (pss_cons (ps_while PassesOwn.never (pt_cmpR op_gt (pe_call GL (hr.mono (by decide)) (by rfl) T.g__law_length D.F__law_length.kp (b__law_length D) .nil pass0 (pa_cons (pv 4) pa_nil)) (pv 3) (nomark _))
        (pss_one (ps_set (i := 4) nd rfl (.inl rfl) (pe_call GW hr (by rfl) T.g__law_words D.F__law_words.kp (b__law_words D) .nil pass0 (pa_cons (pv 0) (pa_cons (pe_callB (call_max2 rfl) (by rfl) T.z_max (by decide +kernel) (pa_cons pe_int (pa_cons (pe_op op_fdivW (pe_callB call_len_seq (by rfl) T.z_len PySem.boot_len (pa_cons (pv 4) pa_nil)) pe_int) pa_nil))) (pa_cons pe_int (pa_cons (pv 2) (pa_cons pe_int pa_nil)))))))))
      (pss_one (ps_ret (pv 4))))), ?_⟩
    refine ⟨_, rfl, _, rfl, _, rfl, b, 30, 3, S, 0, c, rfl, by decide, hb, by omega, by decide, by decide, hS, S1, S2, by decide, by decide, fun wl p c' H1 k1 b1 c1 c2 okp sp lv n1 n2 hw ew => ?_⟩
    refine ⟨fun r σ H' => ∃ (wl : Addr) (p : Ps) (c' : Nat), r = p.words.length ∧ Keep b H H' ∧ Bg H' b c' ∧ c ≤ c' ∧ c' + 30 * p.words.length ≤ c + 1201 ∧ p.ok ∧ Sm 0 p ∧ p.lev ≤ 3 ∧ 1 ≤ p.words.length ∧ p.words.length ≤ 30 ∧ H wl = none ∧ H' wl = some (.lst (wstrs p.words)) ∧
      σ = [some (.ref b), some (.int 30), some (.str S), some (.int 1000), some (.ref wl)], ⟨_, wl, p, c', rfl, k1, b1, c1, by omega, okp, sp, lv, n1, n2, hw, ew, rfl⟩, fun r σ H' h => ?_⟩
    clear c1 c2 okp sp lv n1 n2 hw ew k1 b1
    obtain ⟨wl, p, c', rfl, k1, b1, c1, c2, okp, sp, lv, n1, n2, hw, ew, rfl⟩ := h
    refine ⟨_, rfl, wl, p, rfl, lstL ew, okp, by omega, fun H2 s2 => ?_⟩
    refine ⟨_, rfl, _, _, rfl, rfl, decide ((p.size : Int) > 1000), rfl, ?_⟩
    by_cases hs : p.size ≤ 1000
    · rw [decide_eq_false (show ¬ (p.size : Int) > 1000 by omega)]
      exact iteF ⟨_, rfl, q wl p c' H2 (k1.trans (Same.keep s2)) (b1.same s2) c1 (by omega) okp lv n1 n2 hs hw (s2 _ _ ew)⟩
    · rw [decide_eq_true (show (p.size : Int) > 1000 by omega)]
      refine iteT ?_
      have n2' : 2 ≤ p.words.length := by
        rcases Nat.lt_or_ge p.words.length 2 with h | h
        · have := one_small (p := p) (by omega) sp
          omega
        · exact h
      refine ⟨fun σ' H'' => ∃ (wl : Addr) (p2 : Ps) (c' : Nat), p2.words.length < p.words.length ∧ Keep b H H'' ∧ Bg H'' b c' ∧ c ≤ c' ∧ c' + 30 * p2.words.length ≤ c + 1201 ∧ p2.ok ∧ Sm 0 p2 ∧ p2.lev ≤ 3 ∧ 1 ≤ p2.words.length ∧ p2.words.length ≤ 30 ∧ H wl = none ∧ H'' wl = some (.lst (wstrs p2.words)) ∧
        σ' = [some (.ref b), some (.int 30), some (.str S), some (.int 1000), some (.ref wl)], fun σ' H'' h => ?_, ?_⟩
      · obtain ⟨wl, p2, c', g1, g⟩ := h
        exact ⟨p2.words.length, g1, wl, p2, c', rfl, g⟩
      have lw : (wstrs p.words).length = p.words.length := List.length_map ..
      have kk := k1.trans (Same.keep s2)
      refine ⟨_, rfl, _, rfl, wl, _, rfl, .inl (lstL (s2 _ _ ew)), _, _, rfl, rfl, ?_, _, _, rfl, ?_⟩
      · rw [lw]
        exact wide_div (b := 20) (by decide) (by decide) (by decide) (by decide)
      rw [lw]
      have e : (if ((p.words.length : Int) / 2) > 1 then ((p.words.length : Int) / 2) else 1) = ((p.words.length / 2 : Nat) : Int) := by
        split <;> omega
      refine ⟨_, rfl, b, p.words.length / 2, 2, S, 0, c', ?_, by decide, b1.same s2, by omega, by omega, by omega, hS, S1, S2, by decide, by decide, fun wl2 p2 c3 H3 k3 b3 c4 c5 ok2 sp2 lv2 m1 m2 hw2 ew2 => ?_⟩
      · rw [← e]
        rfl
      obtain ⟨A1, B1, e1, _⟩ := id (b1.same s2)
      refine ⟨wl2, p2, c3, by omega, kk.trans k3, b3, by omega, by omega, ok2, sp2, by omega, m1, by omega, Keep.freeB kk hw2 (Ne.symm (ne_of_none e1 hw2)), ew2, rfl⟩
end
end K05P

set_option Elab.async false
set_option linter.all false
set_option maxRecDepth 100000
set_option maxHeartbeats 1000000
/-! and, or, where sleepers may be left behind. -/
namespace GT
open PySem PySem.Spec PyProof.Rows L2
open Sem (wp)
structure PWx (X : Cx) (e : Expr) (t : TT) : Prop where
  run : ∀ (whole : Sem Value) (pins : Pn) (s : Shared) (σ : L2.St) (H : Hp) (Q : Bool → Hp → Prop), IM X pins σ H s → t σ H Q → wpAny (MM X) X.A (isTrue e X.env whole) (TX X pins σ Q s) (XX X) s
theorem PWx.pt {X : Cx} {e : Expr} {t : TT} (h : PWx X e t) : PTx X e t := ⟨h.run _⟩
section
variable {X : Cx} {a b : Expr} {rest : List Expr} {tA tB : TT} {ta tb : TE} {pos : Pos}
theorem xw_or1 (ha : PTx X a tA) : PWx X (.BoolOp .Or [a] pos) tA := ⟨fun wh pins s σ H Q I h => isTrue_or (nxt (ha.run pins s σ H Q I h) fun c s1 e => by
  cases c with
  | false => exact isTrue_or_nil e
  | true => exact e)⟩
theorem xw_and1 (ha : PTx X a tA) : PWx X (.BoolOp .And [a] pos) tA := ⟨fun wh pins s σ H Q I h => isTrue_and (nxt (ha.run pins s σ H Q I h) fun c s1 e => by
  cases c with
  | true => exact isTrue_and_nil e
  | false => exact e)⟩
theorem xw_or (ha : PTx X a tA) (hb : PWx X (.BoolOp .Or (b :: rest) pos) tB) : PWx X (.BoolOp .Or (a :: b :: rest) pos) (tOr tA tB) := ⟨fun wh pins s σ H Q I h => isTrue_or (nxt (ha.run pins s σ H _ I h) fun c s1 ⟨pn, H1, g, I1, q1⟩ => by
  cases c with
  | true => exact ⟨pn, H1, g, I1, q1⟩
  | false => exact nxt (hb.run wh pn s1 σ H1 Q I1 q1) fun _ _ y => TX.older g y)⟩
theorem xw_and (ha : PTx X a tA) (hb : PWx X (.BoolOp .And (b :: rest) pos) tB) : PWx X (.BoolOp .And (a :: b :: rest) pos) (tAnd tA tB) := ⟨fun wh pins s σ H Q I h => isTrue_and (nxt (ha.run pins s σ H _ I h) fun c s1 ⟨pn, H1, g, I1, q1⟩ => by
  cases c with
  | true => exact nxt (hb.run wh pn s1 σ H1 Q I1 q1) fun _ _ y => TX.older g y
  | false => exact ⟨pn, H1, g, I1, q1⟩)⟩
theorem xe_one {op} (h : PEx X a ta) : PEx X (.BoolOp op [a] pos) ta := ⟨fun pins s σ H Q I hw => BoolOp_one (h.run pins s σ H Q I hw)⟩
theorem xe_and (ha : PEx X a ta) (hb : PEx X (.BoolOp .And (b :: rest) pos) tb) : PEx X (.BoolOp .And (a :: b :: rest) pos) (tAndV ta tb) := by
  refine ⟨fun pins s σ H Q I h => ?_⟩
  refine BoolOp_and (nxt (ha.run pins s σ H _ I h) fun v s1 ⟨pn, x, H1, g, I1, r1, q1⟩ => ?_)
  obtain ⟨c, rfl, q1⟩ := q1
  cases r1
  refine wpAny_truthy_bool ?_
  cases c with
  | true => exact nxt (hb.run pn s1 σ H1 Q I1 q1) fun _ _ y => EX.older g y
  | false => exact ⟨pn, .bl false, H1, g, I1, rfl, q1⟩
theorem xe_or (ha : PEx X a ta) (hb : PEx X (.BoolOp .Or (b :: rest) pos) tb) : PEx X (.BoolOp .Or (a :: b :: rest) pos) (tOrV ta tb) := by
  refine ⟨fun pins s σ H Q I h => ?_⟩
  refine BoolOp_or (nxt (ha.run pins s σ H _ I h) fun v s1 ⟨pn, x, H1, g, I1, r1, q1⟩ => ?_)
  obtain ⟨c, rfl, q1⟩ := q1
  cases r1
  refine wpAny_truthy_bool ?_
  cases c with
  | false => exact nxt (hb.run pn s1 σ H1 Q I1 q1) fun _ _ y => EX.older g y
  | true => exact ⟨pn, .bl true, H1, g, I1, rfl, q1⟩
end
end GT

set_option Elab.async false
set_option linter.all false
set_option maxRecDepth 100000
set_option maxHeartbeats 4000000
/-! list(text) -/
namespace RT
open PySem PySem.Spec PyProof.Rows L2
section
variable {X : Cx}
theorem call_list_strV (hc : X.calm = true) : CallR X (.type "list") (fun xs H Q => ∃ x : Str, xs = [.str x] ∧ x.length ≤ sizeLine ∧ ∀ l, H l = none → Q (.ref l) (upd H l (.lst (x.cps.toList.map fun c => V.str ⟨#[c]⟩)))) := by
  intro pins s σ H xs us Q I r h
  obtain ⟨x, rfl, hz, q⟩ := h
  obtain ⟨u, rfl, rx⟩ := vals1 r
  obtain ⟨t, rfl⟩ := (show ∃ t, u = Value.str x t from rx)
  refine PySem.call_list_str (I.ok.hd hc) x t (fun h' tk acc' c' kp e it => ?_) hz
  refine ⟨.ref s.heap.objs.size, _, I.laid (t' := tk) kp (Nat.le_refl _) (show ObjOk X.prog X.w _ h' _ (.lst _) from ⟨?_, acc'.toList, c', ?_, e⟩), rfl, q _ (I.hok.fresh (Nat.le_refl _))⟩
  · rw [List.length_map, Array.length_toList]
    exact hz
  · have hs : acc'.toList.length = x.cps.toList.length := by
      rw [Array.length_toList, Array.length_toList]
      exact it.1
    have go : ∀ (cs : List Nat) (us : List Value), us.length = cs.length → (∀ (j : Nat) (v : Value), us[j]? = some v → ∃ c u, cs[j]? = some c ∧ v = .str ⟨#[c]⟩ u) → Vals (cs.map fun c => V.str ⟨#[c]⟩) us := by
      intro cs
      induction cs with
      | nil =>
        intro us hl _
        cases us with
        | nil => exact .nil
        | cons a b => cases hl
      | cons c cs ih =>
        intro us hl hv
        cases us with
        | nil => cases hl
        | cons a b =>
          obtain ⟨d, u, e1, e2⟩ := hv 0 a rfl
          injection e1 with e1
          subst e1
          exact .cons ⟨u, e2⟩ (ih b (Nat.succ.inj hl) fun j v e => hv (j + 1) v e)
    refine go _ _ hs fun j v e => ?_
    rw [Array.getElem?_toList] at e
    obtain ⟨c, u, e1, e2⟩ := it.2 j v e
    exact ⟨c, u, by rw [Array.getElem?_toList]; exact e1, e2⟩
end
end RT

set_option Elab.async false
set_option linter.all false
set_option maxRecDepth 100000
set_option maxHeartbeats 1000000
set_option exponentiation.threshold 300000
namespace K05P
open PySem PySem.Spec PyProof.Rows L2 RT WM K05 TL GT
theorem eqvA_S : ∀ ss : List Str, PyData.eqvAll (ss.map PyData.str) (ss.map PyData.str) = true
  | [] => by simp [PyData.eqvAll]
  | s :: ss => by simp [PyData.eqvAll, PyData.eqv, eqvA_S ss]
theorem dpS {K : PySem.W.Frag} {H : Hp} : ∀ ss : List Str, DpAll K H (ss.map V.str) (ss.map PyData.str)
  | [] => .nil
  | s :: ss => .cons (.str s) (dpS ss)
theorem depth_S : ∀ ss : List Str, PyData.depthAll (ss.map PyData.str) = 0
  | [] => rfl
  | _ :: r => by simp [PyData.depthAll, PyData.depth, depth_S r]
theorem shaped_S (l : List Nat) (h : ∀ c ∈ l, c ∈ six) : SeqAt.shaped (.list ((l.map sgl).map PyData.str)) = true := by
  have c : PyData.canLayAll0 ((l.map sgl).map PyData.str) = true := by
    induction l with
    | nil => rfl
    | cons x l ih =>
      have i := ih fun y hy => h y (List.mem_cons_of_mem _ hy)
      have lo := six_low (h x (List.mem_cons_self ..))
      rw [List.map_cons, List.map_cons]
      simp only [PyData.canLayAll0, PyData.canLay0, i, Bool.and_true]
      show (sgl x).cps.all _ = true
      rw [← Array.all_toList]
      refine List.all_eq_true.mpr fun c hc => ?_
      have hc : c = x := List.mem_singleton.mp hc
      simp
      omega
  simp only [SeqAt.shaped, PyData.canLay0, PyData.depth, c, depth_S]
  decide
/-- two lists of the same letters -/
theorem neS {K : PySem.W.Frag} {H : Hp} {p q : Addr} (l : List Nat) {Q : VK} (low : ∀ c ∈ l, c ∈ six) (hp : H p = some (.lst (l.map cS))) (hq : H q = some (.lst (l.map cS))) (h : Q (.bl false) H) : rNeD K (.ref p) (.ref q) H Q := by
  have e : l.map cS = (l.map sgl).map V.str := by rw [List.map_map]; rfl
  rw [e] at hp hq
  refine ⟨.list ((l.map sgl).map .str), .list ((l.map sgl).map .str), .lst (lstL hp) (dpS _), .lst (lstL hq) (dpS _), shaped_S l low, shaped_S l low, ?_⟩
  rw [show PyData.eqv (.list ((l.map sgl).map .str)) (.list ((l.map sgl).map .str)) = true from by rw [PyData.eqv]; exact eqvA_S _]
  exact h
theorem eqS {K : PySem.W.Frag} {H : Hp} {p q : Addr} (l : List Nat) {Q : VK} (low : ∀ c ∈ l, c ∈ six) (hp : H p = some (.lst (l.map cS))) (hq : H q = some (.lst (l.map cS))) (h : Q (.bl true) H) : rEqD K (.ref p) (.ref q) H Q := by
  have e : l.map cS = (l.map sgl).map V.str := by rw [List.map_map]; rfl
  rw [e] at hp hq
  refine ⟨.list ((l.map sgl).map .str), .list ((l.map sgl).map .str), .lst (lstL hp) (dpS _), .lst (lstL hq) (dpS _), shaped_S l low, shaped_S l low, ?_⟩
  rw [show PyData.eqv (.list ((l.map sgl).map .str)) (.list ((l.map sgl).map .str)) = true from by rw [PyData.eqv]; exact eqvA_S _]
  exact h
theorem steps_six : ∀ {p : Ps}, p.ok → ∀ c ∈ p.steps, c ∈ six
  | .nil, _, c, h => absurd h (by simp [Ps.steps])
  | .lf k n r, ok, c, h => by
    rcases List.mem_append.mp (show c ∈ List.replicate n k ++ r.steps from h) with h | h
    · rw [(List.mem_replicate.mp h).2]; exact ok.1.1
    · exact steps_six ok.2 c h
  | .rp b n r, ok, c, h => by
    rcases List.mem_append.mp (show c ∈ (List.replicate n b.steps).flatten ++ r.steps from h) with h | h
    · obtain ⟨l, hl, hc⟩ := List.mem_flatten.mp h
      rw [(List.mem_replicate.mp hl).2] at hc
      exact steps_six ok.2.1 c hc
    · exact steps_six ok.2.2.2 c h
theorem sum_rep (k : Nat) : ∀ n : Nat, (List.replicate n k).sum = n * k
  | 0 => by simp
  | n + 1 => by rw [List.replicate_succ, List.sum_cons, sum_rep k n, Nat.succ_mul, Nat.add_comm]
theorem count_steps (c : Nat) : ∀ p : Ps, p.steps.count c = p.cnt c
  | .nil => rfl
  | .lf k n r => by
    show (List.replicate n k ++ r.steps).count c = n * (if k = c then 1 else 0) + r.cnt c
    rw [List.count_append, count_steps c r, List.count_replicate]
    by_cases h : k = c
    · rw [if_pos h, if_pos (by simpa using h)]; omega
    · rw [if_neg h, if_neg (by simpa using h)]; omega
  | .rp b n r => by
    show ((List.replicate n b.steps).flatten ++ r.steps).count c = n * b.cnt c + r.cnt c
    rw [List.count_append, count_steps c r, List.count_flatten, List.map_replicate, count_steps c b, sum_rep]
theorem cnt_nat (c : Nat) : ∀ l : List Nat, cnt c l = ((l.count c : Nat) : Int)
  | [] => rfl
  | x :: l => by
    rw [cnt_cons, cnt_nat c l, List.count_cons]
    by_cases h : x = c
    · rw [if_pos h, if_pos (by simpa using h)]; omega
    · rw [if_neg h, if_neg (by simpa using h)]; omega
theorem txt_count (p : Ps) (c : Nat) : Txt.count (txS p.steps) ⟨#[c]⟩ = ((p.cnt c : Nat) : Int) := by
  rw [count_cnt]
  show cnt c p.steps = _
  rw [cnt_nat, count_steps]
end K05P

set_option Elab.async false
set_option linter.all false
set_option maxRecDepth 100000
set_option maxHeartbeats 1000000
set_option exponentiation.threshold 300000
namespace K05P
open PySem PySem.Spec PyProof.Rows L2 RT WM K05 TL GT
theorem partsKeepL {C l : Addr} {H H' : Hp} {us ys : List V} {p : Ps} (h : PartsAt C H us p) (el : H l = some (.lst ys)) (k : ∀ b o, b ≠ l → H b = some o → H' b = some o) : PartsAt C H' us p := by
  induction h with
  | nil => exact .nil
  | lf h1 h2 _ ih =>
    refine .lf (k _ _ (fun z => ?_) h1) (k _ _ (fun z => ?_) h2) ih
    · rw [z, el] at h1; cases h1
    · rw [z, el] at h2; cases h2
  | rp h1 h2 _ _ ih1 ih2 =>
    refine .rp (k _ _ (fun z => ?_) h1) (k _ _ (fun z => ?_) h2) ih1 ih2
    · rw [z, el] at h1; cases h1
    · rw [z, el] at h2; cases h2
theorem IsP.keep {K : PySem.W.Frag} {H H' : Hp} {a b : Addr} {c : Nat} {p : Ps} (h : IsP K H a p) (hb : Bg H b c) (k : Keep b H H') : IsP K H' a p := by
  obtain ⟨h1, h2, h3, d, w, t, us, e1, e2, e3, e4⟩ := h
  obtain ⟨A, B, eb, _⟩ := hb
  refine ⟨h1, h2, h3, d, w, t, us, k _ _ (fun z => ?_) e1, k _ _ (fun z => ?_) e2, k _ _ (fun z => ?_) e3, partsKeepL e4 eb k⟩
  · rw [z, eb] at e1; cases e1
  · rw [z, eb] at e2; cases e2
  · rw [z, eb] at e3; cases e3
theorem cut_drop (l : List Nat) (i : Nat) (h : i ≤ l.length) : cutS (txS l) (some ((i : Nat) : Int)) none = txS (l.drop i) := by
  have e1 : HT.sIx (txS l).length 0 (some ((i : Nat) : Int)) = i := by rw [HT.sIx_nat, tx_len]; exact Nat.min_eq_left h
  have e2 : HT.sIx (txS l).length (txS l).length none = (txS l).length := rfl
  unfold cutS
  rw [e1, e2, tx_len]
  show (⟨((l.drop i).take (l.length - i)).toArray⟩ : Str) = _
  rw [List.take_of_length_le (by rw [List.length_drop]; exact Nat.le_refl _)]
theorem ne_self (x : V) : V.bl (!decide (x = x)) = V.bl false := by rw [decide_eq_true rfl]; rfl
abbrev NSR : List Str := ["bag", "words", "told", "steps", "at", "letter", "k"]
theorem scSR : FnScope NSR ["bag", "words"] (defScope s_law_short_right) := ⟨rfl, rfl, rfl, by decide +kernel, rfl, by decide +kernel, by decide +kernel⟩
section
variable {P : Program} {w : World} {K : PySem.W.Frag} {mg : Str → Option Value} {base : Heap}
def spSR (K : PySem.W.Frag) : Sp := fun vs H Q _ => ∃ (b wl : Addr) (p : Ps) (c : Nat), vs = [.ref b, .ref wl] ∧ Bg H b c ∧ c ≤ 9000000000000000000000 ∧ H wl = some (.lst (wstrs p.words)) ∧ p.ok ∧ p.lev ≤ 12 ∧ p.words.length ≤ 1000 ∧ p.size ≤ 1000 ∧
  ∀ H', Keep b H H' → Bg H' b (c + 1) → Q (.bl true) H'
theorem ok_sr (D : Ds K) (T : Tx K mg) : FnX P w K mg base CX0 45 (d_law_short_right.adr K) D.fd__law_short_right ["bag", "words"] (spSR K) := by
  have GI : FnOk P w K mg base CX0 19 _ _ _ (spProg K) := ok_prog D T
  have GS : FnOk P w K mg base CX0 1 _ _ _ (spStepsL K) := ok_stepsL D T
  have GW : FnM P w K mg base CX0 44 _ _ _ (spWr K) := ok_wr D T
  have GF : GenD P w K mg base 43 _ _ _ (spFrom K) := gen_from D T
  have GP : FnOk P w K mg base CX0 1 _ _ _ spPick := ok_pick D T
  have GC : FnOk P w K mg base CX0 15 _ _ _ (spCS K) := ok_cs D T
  have GA : FnOk P w K mg base CX0 15 _ _ _ (spAt K) := ok_at D T
  refine okX D.F__law_short_right scSR (fun vs H Q E h => ?_) (fun cdv A outer s H vs Q E hG hr h => ?_)
  · obtain ⟨b, wl, p, c, rfl, _⟩ := h
    rfl
  · obtain ⟨b, wl, p, c, rfl, hb, hc, ew, okp, lv, few, sz, q⟩ := h
    have nd := scSR.nd
    refine ⟨_, xb_cons (s_c (ps_asg (pe_tup (pa_cons (pe_make T.k_Program GI (hr.mono (by decide)) (by rfl) T.g_Program (b_Program_init D) .nil pass0 (pa_cons (pe_join pe_str (pv 1)) pa_nil)) (pa_cons (pe_call GS (hr.mono (by decide)) (by rfl) T.g__law_steps D.F__law_steps.kp (b__law_steps D) .nil pass0 (pa_cons (pv 1) pa_nil)) pa_nil))) (pg_tup (by rfl) (pgs_cons (pg_name (i := 2) nd rfl (.inr rfl)) (pgs_cons (pg_name (i := 3) nd rfl (.inl rfl)) pgs_nil)))))
      (xb_cons (xs_if (PWx.pt (xw_or (xt_cmp op_ne (e_x (e_call GW hG hr (by rfl) T.g_written D.F_written.kp (b_written D) .nil pass0 (a_cons (e_m (pv 2)) a_nil))) (e_c (pv 3)) (nomark _))
          (xw_or1 (xt_cmp (op_neD hr.units) (e_x (e_listG GF hG hr (by rfl) T.z_list (by rfl) T.g_steps_from D.F_steps_from.kp (b_steps_from D) .nil (pa_cons (pv 2) (pa_cons pe_int pa_nil)))) (e_c (pe_callTy (call_list_strV rfl) (by rfl) T.z_list (by decide +kernel) (pa_cons (pv 3) pa_nil))) (nomark _))))) (xb_one (xs_ret (e_c pe_bl))) xb_nil)
      (xb_cons (s_c (ps_set (i := 4) nd rfl (.inl rfl) (pe_call GP (hr.mono (by decide)) (by rfl) T.g__law_pick D.F__law_pick.kp (b__law_pick D) .nil pass0 (pa_cons (pv 0) (pa_cons (pe_op op_add (pe_callB call_len_str (by rfl) T.z_len PySem.boot_len (pa_cons (pv 3) pa_nil)) pe_int) pa_nil)))))
      (xb_cons (xs_if (PWx.pt (xw_or (xt_cmp (op_neD hr.units) (e_x (e_listG GF hG hr (by rfl) T.z_list (by rfl) T.g_steps_from D.F_steps_from.kp (b_steps_from D) .nil (pa_cons (pv 2) (pa_cons (pv 4) pa_nil)))) (e_c (pe_callTy (call_list_strV rfl) (by rfl) T.z_list (by decide +kernel) (pa_cons (pe_slice sl_str (pv 3) (po_some (pv 4)) po_none) pa_nil))) (nomark _))
          (xw_or1 (xt_cmp (op_neD hr.units) (e_x (e_listG GF hG hr (by rfl) T.z_list (by rfl) T.g_steps_from D.F_steps_from.kp (b_steps_from D) .nil (pa_cons (pv 2) (pa_cons (pe_callB call_len_str (by rfl) T.z_len PySem.boot_len (pa_cons (pv 3) pa_nil)) pa_nil)))) (e_c (pe_lst pa_nil)) (nomark _))))) (xb_one (xs_ret (e_c pe_bl))) xb_nil)
      (b_c (PSs.nox (pss_cons (ps_for PassesOwn.never rfl (pi_str pe_str) (pg_name (i := 5) nd rfl (.inl rfl)) (pss_one (ps_if (pt_cmpR op_ne (pe_callB SkE.call_repr_int (by rfl) T.z_repr (by decide +kernel) (pa_cons (pe_call GC (hr.mono (by decide)) (by rfl) T.g_count_steps D.F_count_steps.kp (b_count_steps D) .nil pass0 (pa_cons (pv 2) (pa_cons (pv 5) pa_nil))) pa_nil)) (pe_callB SkE.call_repr_int (by rfl) T.z_repr (by decide +kernel) (pa_cons (pe_m1 PySem.F.slot_str_count PySem.F.type_str_count mt_count (pv 3) (pv 5)) pa_nil)) (nomark _)) (pss_one (ps_ret pe_bl)) pss_nil)))
      (pss_one (ps_ret (pe_cmpR (op_eqD hr.units) (pe_lc (own := [(("k" : Str), 6)]) (g := gName 6) (tt := tYes) (te := tCall (spAt K) [] E0 (tCons (tVar 2) (tCons (tVar 6) tNil))) rfl nd (pi_range1 (by rfl) T.z_range (pa_cons (pe_callB call_len_str (by rfl) T.z_len PySem.boot_len (pa_cons (pv 3) pa_nil)) pa_nil)) (blkOk_by (own := [(("k" : Str), 6)]) (N := NSR) (sc := defScope s_law_short_right) (by decide +kernel)) (fun _ _ _ _ _ => pg_name (i := 6) nd rfl (Or.inl rfl)) (fun _ _ _ _ _ => pts_nil)
        (fun _ _ _ _ _ => pe_call GA (hr.mono (by decide)) (by rfl) T.g_step_at D.F_step_at.kp (b_step_at D) .nil pass0 (pa_cons (pv 2) (pa_cons (pv 6) pa_nil)))) (pe_callTy (call_list_strV rfl) (by rfl) T.z_list (by decide +kernel) (pa_cons (pv 3) pa_nil)) (nomark _)))))))))), ?_⟩
    have sums : ((p.words.map Wd.str).map (·.length)).sum + (p.words.map Wd.str).length * (" " : Str).length ≤ 16777216 := by
      have h1 := lens_le (words_ok _ okp)
      have h2 : (" " : Str).length = 1 := rfl
      rw [List.length_map, h2]
      omega
    have lz : p.steps.length ≤ sizeLine := by rw [steps_len]; exact Nat.le_trans sz (by decide)
    have lz2 : (txS p.steps).length ≤ sizeLine := by rw [tx_len]; exact lz
    have sx := steps_six okp
    refine ⟨⟨_, rfl⟩, _, rfl, (" " : Str), wl, p.words.map Wd.str, rfl, rfl, .inl (lstL (by rw [← wstrs_map]; exact ew)), sums, fun x dx nx ndx _ => make_p nx ndx (join_eq _ _) okp lv few fun H2 s2 hp2 => ⟨rfl, ?_⟩⟩
    refine ⟨_, rfl, wl, p, rfl, lstL (s2 _ _ ew), okp, few, sz, fun H3 s3 => ⟨by show 2 ≤ sizeLine; decide, fun t0 ht0 => ⟨t0, _, rfl, tupT upd_same, rfl, _, _, rfl, _, _, rfl, rfl, ?_⟩⟩⟩
    have s4 := same_new (o := .tup [.ref x, .str (txS p.steps)]) ht0
    have s04 := s2.trans (s3.trans s4)
    have hp4 := (hp2.same s3).same s4
    generalize upd H3 t0 (.tup [.ref x, .str (txS p.steps)]) = H4 at *
    have nx4 : x ≠ b := fun z => by
      obtain ⟨_, _, e, _⟩ := hb
      rw [← z, nx] at e
      cases e
    show tSeq _ _ _ [some (.ref b), some (.ref wl), some (.ref x), some (.str (txS p.steps)), none, none, none] H4
    refine ⟨_, rfl, x, p, rfl, hp4, sz, _, rfl, rfl, false, ?_, iteF ?_⟩
    · exact ne_self _
    refine ⟨_, rfl, flt H4, (p.steps.drop 0).map cS, flt_sub, ⟨x, p, 0, rfl, hp4.flt, Nat.zero_le _, rfl⟩, ?_, fun S hS => ⟨_, rfl, txS p.steps, rfl, lz2, fun l hl => ?_⟩⟩
    · rw [List.length_map, List.drop_zero]; exact lz
    have s5 := same_new (o := .lst ((p.steps.drop 0).map cS)) hS
    have s6 := same_new (o := .lst (p.steps.map cS)) hl
    refine neS p.steps sx (s6 _ _ upd_same) upd_same ⟨false, rfl, iteF ?_⟩
    have s46 := s04.trans (s5.trans s6)
    have hp5 := (hp4.same s5).same s6
    have bg5 := hb.same s46
    generalize upd (upd H4 S (.lst ((p.steps.drop 0).map cS))) l (.lst (p.steps.map cS)) = H5 at *
    refine ⟨_, rfl, _, rfl, _, rfl, lz2, _, _, rfl, rfl, b, ((txS p.steps).length : Int) + 1, c, rfl, bg5, by omega, by omega, ?_, fun u H6 k6 b6 u0 u1 => ?_⟩
    · rw [tx_len, steps_len]
      exact Nat.lt_of_lt_of_le (show ((p.size : Int) + 1).natAbs < 2 ^ 20 by omega) (Nat.pow_le_pow_right (by decide) (by decide))
    obtain ⟨i, rfl⟩ := Int.eq_ofNat_of_zero_le u0
    have hi : i ≤ p.size := by rw [tx_len, steps_len] at u1; omega
    have hil : i ≤ p.steps.length := by rw [steps_len]; exact hi
    have hp6 := hp5.keep bg5 k6
    have kk6 : Keep b H H6 := (Same.keep s46).trans k6
    show tSeq _ _ _ [some (.ref b), some (.ref wl), some (.ref x), some (.str (txS p.steps)), some (.int (i : Int)), none, none] H6
    have sxd : ∀ c ∈ p.steps.drop i, c ∈ six := fun c hc => sx c (List.mem_of_mem_drop hc)
    have lzd : (p.steps.drop i).length ≤ sizeLine := Nat.le_trans (by rw [List.length_drop]; exact Nat.sub_le _ _) lz
    refine ⟨_, rfl, _, rfl, flt H6, (p.steps.drop i).map cS, flt_sub, ⟨x, p, i, rfl, hp6.flt, hi, rfl⟩, by rw [List.length_map]; exact lzd, fun S2 hS2 => ⟨_, rfl, _, rfl, (i : Int), rfl, _, rfl, lz2, ?_⟩⟩
    rw [cut_drop _ _ hil]
    refine ⟨_, rfl, by rw [tx_len]; exact lzd, fun l2 hl2 => ?_⟩
    have s7 := same_new (o := .lst ((p.steps.drop i).map cS)) hS2
    have s8 := same_new (o := .lst ((p.steps.drop i).map cS)) hl2
    refine neS (p.steps.drop i) sxd (s8 _ _ upd_same) upd_same ⟨false, rfl, iteF ?_⟩
    have hp8 := (hp6.same s7).same s8
    have bg8 := (b6.same s7).same s8
    have kk8 : Keep b H _ := kk6.trans (Same.keep (s7.trans s8))
    generalize upd (upd H6 S2 (.lst ((p.steps.drop i).map cS))) l2 (.lst ((p.steps.drop i).map cS)) = H8 at *
    have ln : (txS p.steps).length = p.size := by rw [tx_len, steps_len]
    refine ⟨_, rfl, _, rfl, _, rfl, lz2, flt H8, ([] : List Nat).map cS, flt_sub, ⟨x, p, (txS p.steps).length, rfl, hp8.flt, Nat.le_of_eq ln, ?_⟩, Nat.zero_le _, fun S3 hS3 => ⟨by show 0 ≤ sizeLine; decide, fun l3 hl3 => ?_⟩⟩
    · rw [List.drop_eq_nil_of_le (by rw [ln, steps_len]; exact Nat.le_refl _)]
    have s9 := same_new (o := .lst (([] : List Nat).map cS)) hS3
    have s10 := same_new (o := .lst []) hl3
    refine neS [] (fun c hc => absurd hc (by simp)) (s10 _ _ upd_same) upd_same ⟨false, rfl, iteF ?_⟩
    have hp10 := (hp8.same s9).same s10
    have bg10 := (bg8.same s9).same s10
    have kk10 : Keep b H _ := kk8.trans (Same.keep (s9.trans s10))
    generalize upd (upd H8 S3 (.lst (([] : List Nat).map cS))) l3 (.lst []) = H10 at *
    refine ⟨_, rfl, ?_⟩
    refine for_it walk_str (fun j σ H' => ∃ z5, Same H10 H' ∧ σ = [some (.ref b), some (.ref wl), some (.ref x), some (.str (txS p.steps)), some (.int (i : Int)), z5, none])
      ⟨none, fun _ _ e => e, rfl⟩ (fun _ _ _ _ _ => True.intro) (fun j x1 σ' H1 H' hj hpj hy => ?_) fun σ' H' hpj => ?_
    · obtain ⟨z5, sm, rfl⟩ := hpj
      obtain ⟨rfl, c1, hc1, rfl⟩ := hy
      have c6 : c1 ∈ six := by
        have h2 : ("fblrud" : Str).cps.toList[j]? = some c1 := by rw [Array.getElem?_toList]; exact hc1
        have h3 : ("fblrud" : Str).cps.toList = six := by decide
        rw [h3] at h2
        exact List.mem_of_getElem? h2
      have hcn : p.cnt c1 ≤ 1000 := Nat.le_trans (cnt_le c1 p) sz
      have h20 : (((p.cnt c1 : Nat) : Int)).natAbs < 2 ^ 20 := by
        rw [Int.natAbs_natCast]
        exact Nat.lt_of_le_of_lt hcn (by decide)
      have lb : (((p.cnt c1 : Nat) : Int)).natAbs.log2 < 1920 := Nat.lt_trans (PySem.Flt.log2_lt_of (by decide) h20) (by decide)
      refine ⟨_, rfl, _, rfl, x, p, c1, rfl, hp10.same sm, c6, fun H2 s2 => ⟨_, rfl, lb, _, rfl, ⟨_, rfl⟩, _, rfl, _, _, rfl, rfl, ?_⟩⟩
      rw [txt_count]
      exact ⟨_, rfl, lb, rfl, false, ne_self _, iteF ⟨_, sm.trans s2, rfl⟩⟩
    · obtain ⟨z5, sm, rfl⟩ := hpj
      have hpa := hp10.same sm
      refine ⟨_, rfl, _, rfl, lz2, _, rfl, by omega, by rw [ln]; omega, fun Dl hDl => lc_range (fun j H'' => Same H' H'' ∧ H'' Dl = some (.lst ((p.steps.take j).map cS))) ⟨same_new hDl, upd_same⟩ (fun j H'' hj hpj => ?_) fun H'' hpj => ?_⟩
      · obtain ⟨s11, e11⟩ := hpj
        have hj : j < p.steps.length := by
          rw [Int.toNat_natCast, tx_len] at hj
          exact hj
        obtain ⟨c1, hc1⟩ : ∃ c1, p.steps[j]? = some c1 := ⟨_, List.getElem?_eq_getElem hj⟩
        rw [Int.zero_add]
        refine ⟨rfl, ?_⟩
        show tCall (spAt K) [] E0 (tCons (tVar 2) (tCons (tVar 6) tNil)) _ _ _
        refine ⟨_, rfl, _, rfl, x, p, j, c1, rfl, hpa.same s11, hc1, _, e11, ?_, fun a o e => ?_, ?_⟩
        · rw [List.length_map, List.length_take]
          exact Nat.lt_of_lt_of_le (show min j p.steps.length < 1001 by rw [steps_len]; omega) (by decide)
        · rw [upd_ne (ne_of_none e hDl)]
          exact s11 _ _ e
        · rw [upd_same, List.take_succ, hc1, List.map_append]
          rfl
      · obtain ⟨s11, e11⟩ := hpj
        refine ⟨_, rfl, txS p.steps, rfl, lz2, fun l4 hl4 => ?_⟩
        have s12 := same_new (o := .lst (p.steps.map cS)) hl4
        have e12 : H'' Dl = some (.lst (p.steps.map cS)) := by
          rw [e11, Int.toNat_natCast, tx_len, List.take_length]
        refine eqS p.steps sx (s12 _ _ e12) upd_same (q _ (kk10.trans (Same.keep (sm.trans (s11.trans s12)))) ((bg10.same sm).same (s11.trans s12)))
end
end K05P

set_option Elab.async false
set_option linter.all false
set_option maxRecDepth 100000
set_option maxHeartbeats 1000000
set_option exponentiation.threshold 300000
namespace K05P
open PySem PySem.Spec PyProof.Rows L2 RT WM K05 TL
theorem cut_to (xs : List V) (k : Nat) : cutV xs none (some ((k : Nat) : Int)) = xs.take k := by
  have e1 : HT.sIx xs.length 0 none = 0 := rfl
  unfold cutV
  rw [e1, HT.sIx_nat, List.drop_zero, Nat.sub_zero]
  by_cases h : k ≤ xs.length
  · rw [Nat.min_eq_left h]
  · rw [Nat.min_eq_right (by omega), List.take_length, List.take_of_length_le (by omega)]
theorem cut_fr (xs : List V) (k : Nat) (h : k ≤ xs.length) : cutV xs (some ((k : Nat) : Int)) none = xs.drop k := by
  have e1 : HT.sIx xs.length xs.length none = xs.length := rfl
  unfold cutV
  rw [e1, HT.sIx_nat, Nat.min_eq_left h, List.take_of_length_le (by rw [List.length_drop]; exact Nat.le_refl _)]
theorem cut_in (xs : List V) (k : Nat) (h : k ≤ xs.length) : cutV xs (some ((1 : Nat) : Int)) (some ((k : Nat) : Int)) = (xs.drop 1).take (k - 1) := by
  unfold cutV
  rw [HT.sIx_nat, HT.sIx_nat, Nat.min_eq_left h]
  by_cases h1 : 1 ≤ xs.length
  · rw [Nat.min_eq_left h1]
  · have e : xs = [] := List.length_eq_zero_iff.mp (by omega)
    subst e
    simp
theorem op_dec {x : Wd} (hx : x.ok) : decide (V.str x.str = V.str ("(" : Str)) = isOp x := by
  cases x with
  | op => rfl
  | cl n => exact decide_eq_false fun z => by injection z with z; have := (is_op (.cl n) hx).mp z; cases this
  | lt c n => exact decide_eq_false fun z => by injection z with z; have := (is_op (.lt c n) hx).mp z; cases this
theorem head_of {x : Wd} (hx : x.ok) : ∃ ch rest, x.str.cps.toList = ch :: rest ∧ decide (V.str ⟨#[ch]⟩ = V.str (")" : Str)) = isCl x ∧ ∀ c n, x = .lt c n → ch = c := by
  cases x with
  | op => exact ⟨40, [], rfl, decide_eq_false fun z => absurd (sgl_inj (b := 41) z) (by decide), fun _ _ z => by cases z⟩
  | cl n => exact ⟨41, numL n, rfl, decide_eq_true rfl, fun _ _ z => by cases z⟩
  | lt c n =>
    have sl := six_low hx.1
    obtain ⟨rest, er⟩ : ∃ rest, (Wd.lt c n).str.cps.toList = c :: rest := by
      by_cases h1 : n = 1
      · exact ⟨[], if_pos h1⟩
      · exact ⟨numL n, if_neg h1⟩
    exact ⟨c, rest, er, decide_eq_false fun z => absurd (sgl_inj (b := 41) z) (by omega), fun _ _ z => by cases z; rfl⟩
theorem str_le {x : Wd} (hx : x.ok) : x.str.length ≤ sizeLine := by
  have := cps_len hx
  have e : x.str.length = x.cps.length := WM.len_tl _
  have : 100000 ≤ sizeLine := by decide
  omega
theorem wget {ws : List Wd} {j : Nat} {x : Wd} (h : ws[j]? = some x) : (wstrs ws)[j]? = some (.str x.str) := by
  unfold wstrs
  rw [List.getElem?_map, h]
  rfl
/-- how the words of a repeat stand -/
theorem rp_at (b : Ps) (n : Nat) (r : Ps) : (Ps.rp b n r).words = Wd.op :: (b.words ++ Wd.cl n :: r.words) := rfl
theorem rp_in {b : Ps} {n : Nat} {r : Ps} {j : Nat} {x : Wd} (h : b.words[j]? = some x) : (Ps.rp b n r).words[j + 1]? = some x := by
  rw [rp_at, List.getElem?_cons_succ, List.getElem?_append_left (List.getElem?_eq_some_iff.mp h).1]
  exact h
theorem rp_cl (b : Ps) (n : Nat) (r : Ps) : (Ps.rp b n r).words[b.words.length + 1]? = some (.cl n) := by
  rw [rp_at, List.getElem?_cons_succ, List.getElem?_append_right (Nat.le_refl _), Nat.sub_self]
  rfl
section
variable {P : Program} {w : World} {K : PySem.W.Frag} {mg : Str → Option Value} {base : Heap}
def spLAt (K : PySem.W.Frag) : Sp := fun vs H Q _ => ∃ (a : Addr) (p : Ps) (i c : Nat), vs = [.ref a, .int (i : Int)] ∧ SqL K H a (wstrs p.words) ∧ p.ok ∧ p.lev ≤ 12 ∧ p.words.length ≤ 1000 ∧ p.steps[i]? = some c ∧ ∀ H', Same H H' → Q (.str ⟨#[c]⟩) H'
theorem ok_lat (D : Ds K) (T : Tx K mg) : FnOk P w K mg base CX0 2 (d_law_at.adr K) D.fd__law_at ["words", "index"] (spLAt K) := by
  have GL : FnOk P w K mg base CX0 1 _ _ _ (spLengthL K) := ok_lengthL D T
  refine D.F__law_at.ok sc_law_at (fun vs H Q E h => ?_) (fun cdv A outer s H vs Q E hr h => ?_)
  · obtain ⟨a, p, i, c, rfl, _⟩ := h
    rfl
  · obtain ⟨a, p, i, c, rfl, ha, okp, lv, few, hc, q⟩ := h
    have nd := sc_law_at.nd
    refine ⟨_, PSs.nox (pss_cons (ps_while PassesOwn.never (PW.pt (pw_or (pt_cmpR op_gt (pe_callB call_len_seq (by rfl) T.z_len PySem.boot_len (pa_cons (pv 0) pa_nil)) pe_int (nomark _)) (pw_or1 (pt_cmpR op_eq (pe_ix ix_list (pv 0) pe_int (fun _ _ => rfl)) pe_str (nomark _)))))
      (pss_cons (ps_par (i := 2) (j := 3) (by rfl) nd rfl rfl (by decide) rfl rfl (pa_cons pe_int (pa_cons (pe_callTy call_int1 (by rfl) T.z_int (by decide +kernel) (pa_cons (pe_cmpR op_eq (pe_ix ix_list (pv 0) pe_int (fun _ _ => rfl)) pe_str (nomark _)) pa_nil)) pa_nil)) rfl)
      (pss_cons (ps_while PassesOwn.never (pt_cmpR op_gt (pv 3) pe_int (nomark _))
        (pss_cons (ps_set (i := 2) nd rfl (.inl rfl) (pe_op op_add (pv 2) pe_int))
        (pss_one (ps_set (i := 3) nd rfl (.inl rfl) (pe_op op_sub (pe_op op_add (pv 3) (pe_callTy call_int1 (by rfl) T.z_int (by decide +kernel) (pa_cons (pe_cmpR op_eq (pe_ix ix_list (pv 0) (pv 2) (fun _ _ => rfl)) pe_str (nomark _)) pa_nil))) (pe_callTy call_int1 (by rfl) T.z_int (by decide +kernel) (pa_cons (pe_cmpR op_eq (pe_ix ix_str (pe_ix ix_list (pv 0) (pv 2) (fun _ _ => rfl)) pe_int (fun _ _ => rfl)) pe_str (nomark _)) pa_nil)))))))
      (pss_cons (ps_set (i := 4) nd rfl (.inl rfl) (pe_call GL hr (by rfl) T.g__law_length D.F__law_length.kp (b__law_length D) .nil pass0 (pa_cons (pe_slice sl_list (pv 0) po_none (po_some (pe_op op_add (pv 2) pe_int))) pa_nil)))
      (pss_one (ps_if (pt_cmpR op_ge (pv 1) (pv 4) (nomark _))
        (pss_one (ps_par (i := 0) (j := 1) (by rfl) nd rfl rfl (by decide) rfl rfl (pa_cons (pe_slice sl_list (pv 0) (po_some (pe_op op_add (pv 2) pe_int)) po_none) (pa_cons (pe_op op_sub (pv 1) (pv 4)) pa_nil)) rfl))
        (pss_one (ps_if (pt_cmpR op_ne (pe_ix ix_list (pv 0) pe_int (fun _ _ => rfl)) pe_str (nomark _))
          (pss_one (ps_ret (pe_ix ix_str (pe_ix ix_list (pv 0) pe_int (fun _ _ => rfl)) pe_int (fun _ _ => rfl))))
          (pss_cons (ps_set (i := 0) nd rfl (.inl rfl) (pe_slice sl_list (pv 0) (po_some pe_int) (po_some (pv 2))))
          (pss_one (ps_set (i := 1) nd rfl (.inl rfl) (pe_op op_mod (pv 1) (pe_call GL hr (by rfl) T.g__law_length D.F__law_length.kp (b__law_length D) .nil pass0 (pa_cons (pv 0) pa_nil))))))))))))))
      (pss_one (ps_ret (pe_ix ix_str (pe_ix ix_list (pv 0) pe_int (fun _ _ => rfl)) pe_int (fun _ _ => rfl))))), ?_⟩
    refine ⟨fun m σ H' => ∃ (a : Addr) (p : Ps) (i : Nat) (z2 z3 z4 : Option V), m = p.words.length ∧ Same H H' ∧ SqL K H' a (wstrs p.words) ∧ p.ok ∧ p.words.length ≤ 1000 ∧ p.lev ≤ 12 ∧ p.steps[i]? = some c ∧ σ = [some (.ref a), some (.int (i : Int)), z2, z3, z4],
      ⟨_, a, p, i, none, none, none, rfl, fun _ _ e => e, ha, okp, few, lv, hc, rfl⟩, fun m σ H' h => ?_⟩
    clear ha okp few lv hc
    obtain ⟨a, p, i, z2, z3, z4, rfl, sm, ha, okp, few, lv, hc, rfl⟩ := h
    have hi : i < p.size := by
      have := (List.getElem?_eq_some_iff.mp hc).1
      rwa [steps_len] at this
    have lw : (wstrs p.words).length = p.words.length := List.length_map ..
    have i14 : i < 2 ^ 1400 := Nat.lt_trans hi (size_top okp lv few)
    cases p with
    | nil => exact absurd hi (Nat.not_lt_zero _)
    | lf k n r =>
      have g0 : (wstrs (Ps.lf k n r).words)[0]? = some (.str (Wd.lt k n).str) := rfl
      have x0 : (Wd.lt k n).ok := okp.1
      obtain ⟨ch, rest, ech, dch, hch⟩ := head_of x0
      have hk := hch k n rfl
      subst hk
      have ret : i < n → ∀ (z2 z3 z4 : Option V) (H1 : Hp), Same H' H1 → tRet (tOp rIxS (tOp (rIxL K) (tVar 0) (tC (.int 0))) (tC (.int 0))) { nx := fun _ H' => Q V.non H', rt := Q } [some (.ref a), some (.int (i : Int)), z2, z3, z4] H1 := fun hin z2 z3 z4 H1 s1 => by
        have ec : ch = c := by
          rw [show (Ps.lf ch n r).steps = List.replicate n ch ++ r.steps from rfl, List.getElem?_append_left (by simpa using hin), List.getElem?_replicate, if_pos hin] at hc
          cases hc
          rfl
        subst ec
        exact ⟨_, rfl, a, _, 0, _, rfl, rfl, Same.sql s1 ha, atI_nat (j := 0) g0, _, 0, ch, rfl, rfl, str_le x0, by rw [ech]; exact atI_nat (j := 0) rfl, q H1 (sm.trans s1)⟩
      by_cases hr0 : r.words.length = 0
      · obtain rfl := words_zero hr0
        refine ⟨_, rfl, a, _, rfl, .inl ha, _, _, rfl, rfl, false, ?_, iteF ⟨_, rfl, a, _, 0, _, rfl, rfl, ha, atI_nat (j := 0) g0, rfl, false, ?_, iteF ?_⟩⟩
        · rfl
        · exact congrArg V.bl (op_dec x0)
        · exact ret hi _ _ _ _ (fun _ _ e => e)
      · refine ⟨_, rfl, a, _, rfl, .inl ha, _, _, rfl, rfl, true, ?_, iteT (iteT ?_)⟩
        · rw [lw]
          exact congrArg V.bl (decide_eq_true (by show (1 : Int) < (((Wd.lt ch n :: r.words).length : Nat) : Int); rw [List.length_cons]; omega))
        have few2 : r.words.length + 1 ≤ 1000 := few
        refine ⟨_, fun σ' H'' h => ⟨r.words.length, by show r.words.length < (Wd.lt ch n :: r.words).length; rw [List.length_cons]; omega, h⟩, ?_⟩
        refine ⟨_, rfl, a, _, 0, _, rfl, rfl, ha, atI_nat (j := 0) g0, rfl, .inr ⟨_, rfl, _, _, rfl, ?_⟩⟩
        rw [op_dec x0]
        show tSeq _ _ _ [some (.ref a), some (.int (i : Int)), some (.int 0), some (.int 0), z4] H'
        refine ⟨fun m σ H1 => σ = [some (.ref a), some (.int (i : Int)), some (.int 0), some (.int 0), z4] ∧ H1 = H', ⟨0, rfl, rfl⟩, fun m σ H1 h => ?_⟩
        obtain ⟨rfl, rfl⟩ := h
        refine ⟨_, rfl, _, _, rfl, rfl, false, rfl, iteF ?_⟩
        refine ⟨_, rfl, _, rfl, _, _, rfl, rfl, _, rfl, a, _, rfl, ha, fun l hl => ⟨l, .lf ch n .nil, rfl, lstL (by rw [upd_same]; exact congrArg (fun z => some (HO.lst z)) (cut_to _ 1)), ⟨x0, trivial⟩, by show 1 ≤ 1000; decide, fun H2 s2 => ?_⟩⟩
        have s02 := (same_new (o := .lst (cutV (wstrs (Ps.lf ch n r).words) none (some ((0 : Int) + 1)))) hl).trans s2
        refine ⟨_, rfl, _, rfl, _, _, rfl, rfl, decide ((((Ps.lf ch n .nil).size : Nat) : Int) ≤ (i : Int)), rfl, ?_⟩
        by_cases hge : n ≤ i
        · rw [decide_eq_true (show (((Ps.lf ch n .nil).size : Nat) : Int) ≤ (i : Int) from Int.ofNat_le.mpr hge)]
          refine iteT ?_
          refine ⟨_, rfl, _, rfl, _, _, rfl, rfl, _, rfl, a, _, rfl, Same.sql s02 ha, fun l2 hl2 => ⟨_, rfl, _, rfl, _, _, rfl, rfl, _, _, rfl, ?_⟩⟩
          have s3 := same_new (o := .lst (cutV (wstrs (Ps.lf ch n r).words) (some ((0 : Int) + 1)) none)) hl2
          refine ⟨l2, r, i - n, some (.int 0), some (.int 0), some (.int (((Ps.lf ch n .nil).size : Nat) : Int)), rfl, sm.trans (s02.trans s3), lstL ?_, okp.2, by omega, lv, ?_, ?_⟩
          · rw [upd_same]
            refine congrArg (fun z => some (HO.lst z)) ?_
            exact cut_fr _ 1 (by rw [lw]; exact Nat.succ_le_succ (Nat.zero_le _))
          · rw [show (Ps.lf ch n r).steps = List.replicate n ch ++ r.steps from rfl, List.getElem?_append_right (by simpa using hge), List.length_replicate] at hc
            exact hc
          · have e : (i : Int) - (((Ps.lf ch n .nil).size : Nat) : Int) = ((i - n : Nat) : Int) := (Int.natCast_sub hge).symm
            show [some (V.ref l2), some (V.int ((i : Int) - (((Ps.lf ch n .nil).size : Nat) : Int))), some (V.int 0), some (V.int 0), some (V.int (((Ps.lf ch n .nil).size : Nat) : Int))] = _
            rw [e]
        · rw [decide_eq_false (show ¬ (((Ps.lf ch n .nil).size : Nat) : Int) ≤ (i : Int) from fun z => hge (Int.ofNat_le.mp z))]
          refine iteF ?_
          refine ⟨_, rfl, a, _, 0, _, rfl, rfl, Same.sql s02 ha, atI_nat (j := 0) g0, rfl, true, ?_, iteT (ret (by omega) _ _ _ _ s02)⟩
          exact congrArg (fun z => V.bl (!z)) (op_dec x0)
    | rp b n r =>
      obtain ⟨hbn, okb, hn, okr⟩ := id okp
      have bp := WM.size_pos okb hbn
      have lwp : (Ps.rp b n r).words.length = b.words.length + r.words.length + 2 := by
        rw [rp_at, List.length_cons, List.length_append, List.length_cons]
        omega
      have lv2 : b.lev ≤ 12 ∧ r.lev ≤ 12 := by
        have h : max (1 + b.lev) r.lev ≤ 12 := lv
        omega
      have g0 : (wstrs (Ps.rp b n r).words)[0]? = some (.str Wd.op.str) := rfl
      refine ⟨_, rfl, a, _, rfl, .inl ha, _, _, rfl, rfl, true, ?_, iteT (iteT ?_)⟩
      · rw [lw, lwp]
        exact congrArg V.bl (decide_eq_true (by omega))
      refine ⟨_, fun σ' H'' h => h, ?_⟩
      refine ⟨_, rfl, a, _, 0, _, rfl, rfl, ha, atI_nat (j := 0) g0, rfl, .inr ⟨_, rfl, _, _, rfl, ?_⟩⟩
      rw [op_dec (x := Wd.op) trivial]
      show tSeq _ _ _ [some (.ref a), some (.int (i : Int)), some (.int 0), some (.int 1), z4] H'
      refine ⟨fun m σ H1 => ∃ (j : Nat) (o : Int), H1 = H' ∧ σ = [some (.ref a), some (.int (i : Int)), some (.int (j : Int)), some (.int o), z4] ∧ ((j ≤ b.words.length ∧ o = 1 + dep b.words j ∧ m = b.words.length + 1 - j) ∨ (j = b.words.length + 1 ∧ o = 0 ∧ m = 0)),
        ⟨_, 0, 1, rfl, rfl, .inl ⟨Nat.zero_le _, rfl, rfl⟩⟩, fun m σ H1 h => ?_⟩
      obtain ⟨j, o, rfl, rfl, h⟩ := h
      rcases h with ⟨hj, rfl, rfl⟩ | ⟨rfl, rfl, rfl⟩
      · have dj := ((dep_tree b).1 j).1
        refine ⟨_, rfl, _, _, rfl, rfl, true, congrArg V.bl (decide_eq_true (by omega)), iteT ?_⟩
        refine ⟨_, fun σ' H'' h => h, ?_⟩
        obtain ⟨y, hy, yo, hd⟩ : ∃ y, (Ps.rp b n r).words[j + 1]? = some y ∧ y.ok ∧ ((j < b.words.length ∧ b.words[j]? = some y) ∨ (j = b.words.length ∧ y = .cl n)) := by
          by_cases hjl : j < b.words.length
          · have e := List.getElem?_eq_getElem hjl
            exact ⟨_, rp_in e, words_ok b okb _ (List.mem_of_getElem? e), .inl ⟨hjl, e⟩⟩
          · obtain rfl : j = b.words.length := by omega
            exact ⟨.cl n, rp_cl b n r, hn, .inr ⟨rfl, rfl⟩⟩
        obtain ⟨ch, rest, ech, dch, _⟩ := head_of yo
        have ay : atI (wstrs (Ps.rp b n r).words) ((j : Int) + 1) = some (.str y.str) := atI_nat (j := j + 1) (wget hy)
        refine ⟨_, rfl, _, _, rfl, rfl, ?_⟩
        refine ⟨_, rfl, _, rfl, _, rfl, a, _, _, .str y.str, rfl, rfl, ha, ay, rfl, .inr ⟨_, rfl, ?_⟩⟩
        rw [op_dec yo]
        refine ⟨_, _, rfl, rfl, _, rfl, _, rfl, a, _, _, .str y.str, rfl, rfl, ha, ay, _, _, ch, rfl, rfl, str_le yo, by rw [ech]; exact atI_nat (j := 0) rfl, rfl, .inr ⟨_, rfl, ?_⟩⟩
        rw [dch]
        refine ⟨_, _, rfl, rfl, ?_⟩
        rcases hd with ⟨hjl, hy2⟩ | ⟨rfl, rfl⟩
        · have ds := dep_succ hy2
          unfold b2 at ds
          refine ⟨b.words.length + 1 - (j + 1), by omega, j + 1, 1 + dep b.words (j + 1), rfl, ?_, .inl ⟨hjl, rfl, rfl⟩⟩
          have e : 1 + dep b.words j + (if isOp y = true then 1 else 0) - (if isCl y = true then 1 else 0) = 1 + dep b.words (j + 1) := by omega
          show [some (V.ref a), some (V.int (i : Int)), some (V.int ((j : Int) + 1)), some (V.int (1 + dep b.words j + (if isOp y = true then 1 else 0) - (if isCl y = true then 1 else 0))), z4] = _
          rw [e]
          rfl
        · refine ⟨0, by omega, b.words.length + 1, 0, rfl, ?_, .inr ⟨rfl, rfl, rfl⟩⟩
          have d0 := (dep_tree b).2
          show [some (V.ref a), some (V.int (i : Int)), some (V.int ((b.words.length : Int) + 1)), some (V.int (1 + dep b.words b.words.length + 0 - 1)), z4] = _
          rw [d0]
          rfl
      · refine ⟨_, rfl, _, _, rfl, rfl, false, rfl, iteF ?_⟩
        have w1 : (Ps.rp b n .nil).words = Wd.op :: (b.words ++ [Wd.cl n]) := rfl
        have l1 : (Ps.rp b n .nil).words.length = b.words.length + 2 := by
          rw [w1, List.length_cons, List.length_append]
          rfl
        have split : (Ps.rp b n r).words = (Ps.rp b n .nil).words ++ r.words := by
          rw [rp_at, w1, List.cons_append, List.append_assoc]
          rfl
        have tk : (wstrs (Ps.rp b n r).words).take (b.words.length + 2) = wstrs (Ps.rp b n .nil).words := by
          unfold wstrs
          rw [split, ← l1, List.map_append, ← List.length_map (f := fun x : Wd => V.str x.str), List.take_left]
        have dr : (wstrs (Ps.rp b n r).words).drop (b.words.length + 2) = wstrs r.words := by
          unfold wstrs
          rw [split, ← l1, List.map_append, ← List.length_map (f := fun x : Wd => V.str x.str), List.drop_left]
        have mid : ((wstrs (Ps.rp b n r).words).drop 1).take (b.words.length + 1 - 1) = wstrs b.words := by
          unfold wstrs
          rw [rp_at, List.map_cons, List.drop_succ_cons, List.drop_zero, List.map_append, Nat.add_sub_cancel, ← List.length_map (f := fun x : Wd => V.str x.str), List.take_left]
        have len2 : b.words.length + 2 ≤ (wstrs (Ps.rp b n r).words).length := by rw [lw, lwp]; omega
        refine ⟨_, rfl, _, rfl, _, _, rfl, rfl, _, rfl, a, _, rfl, ha, fun l hl => ⟨l, .rp b n .nil, rfl, lstL (by rw [upd_same]; exact congrArg (fun z => some (HO.lst z)) ((cut_to _ (b.words.length + 2)).trans tk)), ⟨hbn, okb, hn, trivial⟩, by omega, fun H2 s2 => ?_⟩⟩
        have s02 := (same_new (o := .lst (cutV (wstrs (Ps.rp b n r).words) none (some (((b.words.length + 1 : Nat) : Int) + 1)))) hl).trans s2
        refine ⟨_, rfl, _, rfl, _, _, rfl, rfl, decide ((((Ps.rp b n .nil).size : Nat) : Int) ≤ (i : Int)), rfl, ?_⟩
        have sz1 : (Ps.rp b n .nil).size = b.size * n := rfl
        have fl : (List.replicate n b.steps).flatten.length = b.size * n := by
          have := steps_len (Ps.rp b n .nil)
          rw [show (Ps.rp b n .nil).steps = (List.replicate n b.steps).flatten ++ [] from rfl, List.append_nil] at this
          exact this
        by_cases hge : b.size * n ≤ i
        · rw [decide_eq_true (show (((Ps.rp b n .nil).size : Nat) : Int) ≤ (i : Int) from Int.ofNat_le.mpr hge)]
          refine iteT ?_
          refine ⟨_, rfl, _, rfl, _, _, rfl, rfl, _, rfl, a, _, rfl, Same.sql s02 ha, fun l2 hl2 => ⟨_, rfl, _, rfl, _, _, rfl, rfl, _, _, rfl, ?_⟩⟩
          have s3 := same_new (o := .lst (cutV (wstrs (Ps.rp b n r).words) (some (((b.words.length + 1 : Nat) : Int) + 1)) none)) hl2
          refine ⟨r.words.length, by omega, l2, r, i - b.size * n, some (.int ((b.words.length + 1 : Nat) : Int)), some (.int 0), some (.int (((Ps.rp b n .nil).size : Nat) : Int)), rfl, sm.trans (s02.trans s3), lstL ?_, okr, by omega, lv2.2, ?_, ?_⟩
          · rw [upd_same]
            refine congrArg (fun z => some (HO.lst z)) ?_
            exact (cut_fr _ (b.words.length + 2) len2).trans dr
          · rw [show (Ps.rp b n r).steps = (List.replicate n b.steps).flatten ++ r.steps from rfl, List.getElem?_append_right (by rw [fl]; exact hge), fl] at hc
            exact hc
          · have e : (i : Int) - (((Ps.rp b n .nil).size : Nat) : Int) = ((i - b.size * n : Nat) : Int) := (Int.natCast_sub hge).symm
            show [some (V.ref l2), some (V.int ((i : Int) - (((Ps.rp b n .nil).size : Nat) : Int))), some (V.int ((b.words.length + 1 : Nat) : Int)), some (V.int 0), some (V.int (((Ps.rp b n .nil).size : Nat) : Int))] = _
            rw [e]
        · rw [decide_eq_false (show ¬ (((Ps.rp b n .nil).size : Nat) : Int) ≤ (i : Int) from fun z => hge (Int.ofNat_le.mp z))]
          refine iteF ?_
          refine ⟨_, rfl, a, _, 0, _, rfl, rfl, Same.sql s02 ha, atI_nat (j := 0) g0, rfl, false, ?_, iteF ?_⟩
          · exact congrArg (fun z => V.bl (!z)) (op_dec (x := Wd.op) trivial)
          rw [show (Ps.rp b n r).steps = (List.replicate n b.steps).flatten ++ r.steps from rfl, List.getElem?_append_left (by rw [fl]; omega)] at hc
          have hcb := rep_get b.steps b.size (steps_len b) bp n i hc
          refine ⟨_, rfl, _, rfl, _, rfl, _, rfl, a, _, rfl, Same.sql s02 ha, fun l2 hl2 => ?_⟩
          have s3 := same_new (o := .lst (cutV (wstrs (Ps.rp b n r).words) (some 1) (some ((b.words.length + 1 : Nat) : Int)))) hl2
          have e3 : (upd H2 l2 (.lst (cutV (wstrs (Ps.rp b n r).words) (some 1) (some ((b.words.length + 1 : Nat) : Int))))) l2 = some (.lst (wstrs b.words)) := by
            rw [upd_same]
            exact congrArg (fun z => some (HO.lst z)) ((cut_in _ (b.words.length + 1) (by omega)).trans mid)
          refine ⟨_, rfl, _, rfl, l2, b, rfl, lstL e3, okb, by omega, fun H3 s4 => ⟨_, _, rfl, rfl, by show (0 : Int) < (b.size : Int); omega, ?_⟩⟩
          exact ⟨b.words.length, by omega, l2, b, i % b.size, some (.int ((b.words.length + 1 : Nat) : Int)), some (.int 0), some (.int (((Ps.rp b n .nil).size : Nat) : Int)), rfl, sm.trans (s02.trans (s3.trans s4)), lstL (s4 _ _ e3), okb, by omega, lv2.1, hcb, rfl⟩
end
end K05P

set_option Elab.async false
set_option linter.all false
set_option maxRecDepth 100000
set_option maxHeartbeats 1000000
/-! A def that never raises: loops of its body, where sleepers may be left behind. -/
namespace GT
open PySem PySem.Spec PyProof.Rows L2
/-- no exception passes -/
theorem own_none {M : Model} {A : Around} {env : Env} {E : Value → Shared → Prop} (h : ∀ e s, ¬ E e s) : PassesOwn M A env E := fun e s z => (h e s z).elim
/-- a calm statement that wants no wish -/
theorem s_nox {X : Cx} {st : Stmt} {t : TS} (h : PS X.nox st t) : PSx X st t := s_c ⟨fun pins s σ H D I hw => wpAny_mono (h.run pins s σ H D (I.wish _) hw) (fun _ _ q => q.unwish) fun _ _ z => False.elim z⟩
end GT

set_option Elab.async false
set_option linter.all false
set_option maxRecDepth 100000
set_option maxHeartbeats 1000000
/-! range(a, b) between ints of any size. -/
namespace RT
open PySem PySem.Spec PyProof.Rows L2
theorem turn_long {P : Program} {w : World} {K : PySem.W.Frag} {tg : Expr} (it : Addr) (lo : Int) (n : Nat) : Turn P w K tg (Itr lo n) [it] it (fun i h => IsLongIter h it (lo + (i : Nat) * 1) ((n : Int) - (i : Nat)) 1) where
  mem := List.mem_singleton.mpr rfl
  obj := fun i h st b hb => by
    rw [List.mem_singleton.mp hb]
    exact ⟨_, st, fun v z => nomatch z⟩
  keep := fun i h g st k => k it (List.mem_singleton.mpr rfl) _ st
  item := by
    intro X hP hw hK hc i pins s σ H E I hf st hg
    subst hP hw hK
    obtain ⟨m0, m1, m2, m3, m4, m5⟩ := hf it (List.mem_singleton.mpr rfl)
    refine (Walks.longrange (prog := X.prog) (w := X.w) (I.ok.hd hc) it lo 1 n).item i s _ _ hg st fun v g tk hv sg kk => ?_
    obtain ⟨t, rfl⟩ := hv
    have J : Inv X pins σ H { s with heap := g, toks := tk } := I.turned (fun b o hb e => kk b o (fun z => hb (List.mem_singleton.mp z)) e) m0 m1 m3 m4 m5
    refine ⟨_, rfl, go_of (s := { s with heap := g, toks := tk }) (n := "longrange_iterator") sg rfl rfl (by decide) ⟨.int (lo + i), H, J, ⟨t, ?_⟩, ⟨rfl, rfl⟩, sg, fun b hb => (hf b hb).1⟩⟩
    rw [Int.mul_one]
  done := by
    intro X hP hw hK hc i pins s σ H E I hf st hg
    subst hP hw hK
    obtain ⟨m0, m1, m2, m3, m4, m5⟩ := hf it (List.mem_singleton.mpr rfl)
    exact wpAny_pyNext_long_end (I.ok.hd hc) st (by have : n ≤ i := hg; omega) fun g eb => ⟨rfl, I.turned (t' := s.toks) (fun b o hb e => eb b o hb e) m0 m1 m3 m4 m5⟩
  self := fun A i s Q E st h => wpAny_pyIter_longiter st h
/-- two ints of any size -/
def iRngL (ta : TA) : TI := fun σ H R => ta σ H fun vs H1 => ∃ i j : Int, vs = [.int i, .int j] ∧ R (Itr i (j - i).toNat) H1
theorem size_one (i j : Int) : Builtin.Range.rangeSize i j 1 = (((j - i).toNat : Nat) : Int) := by
  rw [rangeSize_one]
  split <;> omega
section
variable {X : Cx} {tg : Expr}
theorem pi_rangeL {a b : Expr} {ta : TA} {p pos : Pos} (hg : Gl X "range") (hm : X.mg "range" = none) (ha : PA X [a, b] ta) (hs : starEach [a, b] X.env = (false, eval a X.env) :: starEach [b] X.env := by rfl) (hpl : (backTo pos (starEach [b] X.env)).any (·.1) = false := by rfl) :
    PI X tg (.Call (.Name "range" p) [a, b] [] pos) (iRngL ta) := by
  refine ⟨fun pins s σ H R I h => ?_⟩
  refine Call_ (ld_blt I hg hm boot_range (PyProof.Rows.callWith_type1 (thn (ha.run pos pins s σ H _ I h) fun us s1 ⟨vs, H1, I1, r1, q1⟩ => ?_) hs hpl))
  obtain ⟨i, j, e, q⟩ := q1
  subst e
  cases r1 with
  | cons r rr =>
    cases rr with
    | cons r' rr =>
      cases rr
      obtain ⟨t, rfl⟩ := r
      obtain ⟨t', rfl⟩ := r'
      refine call_range_2 ?_
      have I2 : Inv X pins σ H1 { s1 with heap := s1.heap.push { cls := .type "range", data := .fields #[.int i t, .int j t', .int 1 s1.toks] }, toks := s1.toks + 1 } := I1.kept (t' := s1.toks + 1) fun b o e => Heap.get?_push_of_some _ e
      have z1 : i + ((0 : Nat) : Int) * 1 = i := by simp
      have z2 : (((j - i).toNat : Nat) : Int) - ((0 : Nat) : Int) = Builtin.Range.rangeSize i j 1 := by rw [size_one]; simp
      cases hsm : Builtin.Range.small i j 1 with
      | true =>
        refine wpAny_pyIter_range (IsRange.new ..) hsm (pi_one (tk := s1.toks + 1) I2 _ (turn_range _ i _) ?_ q)
        show IsRangeIter _ _ (i + ((0 : Nat) : Int) * 1) ((((j - i).toNat : Nat) : Int) - ((0 : Nat) : Int)) 1
        rw [z1, z2]
        exact Heap.get?_push_size _ rfl
      | false =>
        refine wpAny_pyIter_longrange (IsRange.new ..) hsm (pi_one (tk := s1.toks + 1) I2 _ (turn_long _ i _) ?_ q)
        show IsLongIter _ _ (i + ((0 : Nat) : Int) * 1) ((((j - i).toNat : Nat) : Int) - ((0 : Nat) : Int)) 1
        rw [z1, z2]
        exact Heap.get?_push_size _ rfl
end
end RT

set_option Elab.async false
set_option linter.all false
set_option maxRecDepth 100000
set_option maxHeartbeats 1000000
set_option exponentiation.threshold 300000
namespace K05P
open PySem PySem.Spec PyProof.Rows L2 RT WM K05 TL GT
abbrev NFR : List Str := ["bag", "words", "told", "size", "letter", "at", "some", "k", "step"]
theorem scFR : FnScope NFR ["bag", "words"] (defScope s_law_far_right) := ⟨rfl, rfl, rfl, by decide +kernel, rfl, by decide +kernel, by decide +kernel⟩
section
variable {P : Program} {w : World} {K : PySem.W.Frag} {mg : Str → Option Value} {base : Heap}
def spFR (K : PySem.W.Frag) : Sp := fun vs H Q _ => ∃ (b wl : Addr) (p : Ps) (c : Nat), vs = [.ref b, .ref wl] ∧ Bg H b c ∧ c ≤ 9000000000000000000000 ∧ H wl = some (.lst (wstrs p.words)) ∧ p.ok ∧ p.lev ≤ 12 ∧ p.words.length ≤ 1000 ∧ 1 ≤ p.words.length ∧
  ∀ H', Keep b H H' → Bg H' b (c + 2) → Q (.bl true) H'
theorem ok_fr (D : Ds K) (T : Tx K mg) : FnX P w K mg base CX0 45 (d_law_far_right.adr K) D.fd__law_far_right ["bag", "words"] (spFR K) := by
  have GI : FnOk P w K mg base CX0 19 _ _ _ (spProg K) := ok_prog D T
  have GLl : FnOk P w K mg base CX0 1 _ _ _ (spLengthL K) := ok_lengthL D T
  have GLp : FnOk P w K mg base CX0 1 _ _ _ (spLength K) := ok_length D T
  have GN : FnOk P w K mg base CX0 1 _ _ _ (spCntL K) := ok_cntL D T
  have GF : GenD P w K mg base 43 _ _ _ (spFrom K) := gen_from D T
  have GP : FnOk P w K mg base CX0 1 _ _ _ spPick := ok_pick D T
  have GC : FnOk P w K mg base CX0 15 _ _ _ (spCS K) := ok_cs D T
  have GA : FnOk P w K mg base CX0 15 _ _ _ (spAt K) := ok_at D T
  have GT' : FnOk P w K mg base CX0 2 _ _ _ (spLAt K) := ok_lat D T
  refine okX D.F__law_far_right scFR (fun vs H Q E h => ?_) (fun cdv A outer s H vs Q E hG hr h => ?_)
  · obtain ⟨b, wl, p, c, rfl, _⟩ := h
    rfl
  · obtain ⟨b, wl, p, c, rfl, hb, hc, ew, okp, lv, few, n1, q⟩ := h
    have nd := scFR.nd
    refine ⟨_, xb_cons (s_c (ps_par (i := 2) (j := 3) (by rfl) nd rfl rfl (by decide) rfl rfl (pa_cons (pe_make T.k_Program GI (hr.mono (by decide)) (by rfl) T.g_Program (b_Program_init D) .nil pass0 (pa_cons (pe_join pe_str (pv 1)) pa_nil)) (pa_cons (pe_call GLl (hr.mono (by decide)) (by rfl) T.g__law_length D.F__law_length.kp (b__law_length D) .nil pass0 (pa_cons (pv 1) pa_nil)) pa_nil)) rfl))
      (xb_cons (s_c (ps_if (pt_cmpR op_ne (pe_prop (pv 2) T.c_Program T.p_Program_length GLp (hr.mono (by decide)) (b_Program_length D) .nil pass0 rfl) (pv 3) (nomark _)) (pss_one (ps_ret pe_bl)) pss_nil))
      (xb_cons (s_nox (ps_for PassesOwn.never rfl (pi_str pe_str) (pg_name (i := 4) nd rfl (.inl rfl)) (pss_one (ps_if (pt_cmpR op_ne (pe_call GC (hr.mono (by decide)) (by rfl) T.g_count_steps D.F_count_steps.kp (b_count_steps D) .nil pass0 (pa_cons (pv 2) (pa_cons (pv 4) pa_nil))) (pe_call GN (hr.mono (by decide)) (by rfl) T.g__law_count D.F__law_count.kp (b__law_count D) .nil pass0 (pa_cons (pv 1) (pa_cons (pv 4) pa_nil))) (nomark _)) (pss_one (ps_ret pe_bl)) pss_nil))))
      (xb_cons (xs_for PassesOwn.leaving rfl (pi_list (pe_lst (pa_cons pe_int (pa_cons (pe_op op_sub (pv 3) pe_int) (pa_cons (pe_op op_fdivW (pv 3) pe_int) (pa_cons (pe_call GP (hr.mono (by decide)) (by rfl) T.g__law_pick D.F__law_pick.kp (b__law_pick D) .nil pass0 (pa_cons (pv 0) (pa_cons (pv 3) pa_nil))) (pa_cons (pe_call GP (hr.mono (by decide)) (by rfl) T.g__law_pick D.F__law_pick.kp (b__law_pick D) .nil pass0 (pa_cons (pv 0) (pa_cons (pv 3) pa_nil))) pa_nil))))))) (pg_name (i := 5) nd rfl (.inl rfl))
        (xb_cons (s_nox (ps_setLc (i := 6) (own := [(("k" : Str), 7)]) (g := gName 7) (tt := tYes) (te := tCall (spLAt K) [] E0 (tCons (tVar 1) (tCons (tVar 7) tNil))) rfl nd rfl rfl (sw_true rfl rfl rfl (by decide +kernel)) (pi_rangeL (by rfl) T.z_range (pa_cons (pv 5) (pa_cons (pe_callB (call_min2 rfl) (by rfl) T.z_min (by decide +kernel) (pa_cons (pv 3) (pa_cons (pe_op op_add (pv 5) pe_int) pa_nil))) pa_nil))) (blkOk_by (own := [(("k" : Str), 7)]) (N := NFR) (sc := defScope s_law_far_right) (by decide +kernel)) (fun _ _ _ _ _ => pg_name (i := 7) nd rfl (Or.inl rfl)) (fun _ _ _ _ _ => pts_nil)
          (fun _ _ _ _ _ => pe_call GT' (hr.mono (by decide)) (by rfl) T.g__law_at D.F__law_at.kp (b__law_at D) .nil pass0 (pa_cons (pv 1) (pa_cons (pv 7) pa_nil)))))
        (xb_cons (s_c (ps_if (pt_cmpR op_ne (pe_call GA (hr.mono (by decide)) (by rfl) T.g_step_at D.F_step_at.kp (b_step_at D) .nil pass0 (pa_cons (pv 2) (pa_cons (pv 5) pa_nil))) (pe_ix ix_list (pv 6) pe_int (fun _ _ => rfl)) (nomark _)) (pss_one (ps_ret pe_bl)) pss_nil))
        (xb_one (xs_if (xt_cmp (op_neD hr.units) (xe_lcZip (own := [(("k" : Str), 7), (("step" : Str), 8)]) (g := gTup K 2 (gCons (gName 7) (gCons (gName 8) gNil))) (te := tVar 8) GF hG hr (by rfl) T.z_zip (by rfl) T.z_range nd pe_int (by rfl) T.g_steps_from D.F_steps_from.kp (b_steps_from D) .nil (pa_cons (pv 2) (pa_cons (pv 5) pa_nil)) (blkOk_by (own := [(("k" : Str), 7), (("step" : Str), 8)]) (N := NFR) (sc := defScope s_law_far_right) (by decide +kernel)) (by decide +kernel)
            (fun _ _ _ _ _ => pg_tup (by rfl) (pgs_cons (pg_name (i := 7) nd rfl (Or.inl rfl)) (pgs_cons (pg_name (i := 8) nd rfl (Or.inl rfl)) pgs_nil))) (fun _ _ _ _ _ => pv 8)) (e_c (pv 6)) (nomark _)) (xb_one (xs_ret (e_c pe_bl))) xb_nil)))))
      (xb_one (xs_ret (e_c pe_bl)))))), ?_⟩
    have sums : ((p.words.map Wd.str).map (·.length)).sum + (p.words.map Wd.str).length * (" " : Str).length ≤ 16777216 := by
      have h1 := lens_le (words_ok _ okp)
      have h2 : (" " : Str).length = 1 := rfl
      rw [List.length_map, h2]
      omega
    have sx := steps_six okp
    have top := size_top okp lv few
    refine ⟨⟨_, rfl⟩, _, rfl, (" " : Str), wl, p.words.map Wd.str, rfl, rfl, .inl (lstL (by rw [← wstrs_map]; exact ew)), sums, fun x dx nx ndx _ => make_p nx ndx (join_eq _ _) okp lv few fun H2 s2 hp2 => ⟨rfl, ?_⟩⟩
    refine ⟨_, rfl, wl, p, rfl, lstL (s2 _ _ ew), okp, few, fun H3 s3 => ⟨_, _, rfl, ?_⟩⟩
    have hp3 := hp2.same s3
    have s03 := s2.trans s3
    obtain ⟨_, _, _, d, wd, t, us, e1, _⟩ := id hp3
    refine ⟨_, rfl, x, d, _, rfl, e1, x, p, rfl, hp3, _, rfl, rfl, false, ne_self _, iteF ?_⟩
    refine ⟨_, rfl, ?_⟩
    refine for_it walk_str (fun j σ H' => ∃ z4, Same H3 H' ∧ σ = [some (.ref b), some (.ref wl), some (.ref x), some (.int (p.size : Int)), z4, none, none, none, none])
      ⟨none, fun _ _ e => e, rfl⟩ (fun _ _ _ _ _ => True.intro) (fun j x1 σ' H1 H' hj hpj hy => ?_) fun σ' H' hpj => ?_
    · obtain ⟨z4, sm, rfl⟩ := hpj
      obtain ⟨rfl, c1, hc1, rfl⟩ := hy
      have c6 : c1 ∈ six := by
        have h2 : ("fblrud" : Str).cps.toList[j]? = some c1 := by rw [Array.getElem?_toList]; exact hc1
        have h3 : ("fblrud" : Str).cps.toList = six := by decide
        rw [h3] at h2
        exact List.mem_of_getElem? h2
      refine ⟨_, rfl, _, rfl, x, p, c1, rfl, hp3.same sm, c6, fun H4 s4 => ⟨_, rfl, _, rfl, wl, p, c1, rfl, lstL ((s03.trans (sm.trans s4)) _ _ ew), okp, few, fun H5 s5 => ⟨rfl, false, ne_self _, iteF ⟨_, sm.trans (s4.trans s5), rfl⟩⟩⟩⟩
    · obtain ⟨z4, sm, rfl⟩ := hpj
      have hpa := hp3.same sm
      have s0a := s03.trans sm
      have bga := hb.same s0a
      have pne : p ≠ .nil := fun z => by
        rw [z] at n1
        exact absurd n1 (by decide)
      have spos := WM.size_pos okp pne
      have sb : ((p.size : Int)).natAbs < 2 ^ 1500 := by
        rw [Int.natAbs_natCast]
        exact Nat.lt_trans top (Nat.pow_lt_pow_right (by decide) (by decide))
      refine ⟨_, rfl, _, _, rfl, rfl, _, rfl, _, _, rfl, rfl, wide_div (b := 20) (by decide) (by decide) (by decide) (by decide), _, rfl, _, rfl, b, (p.size : Int), c, rfl, bga, by omega, by omega, sb, fun v1 H5 k5 b5 v10 v11 =>
        ⟨_, rfl, _, rfl, b, (p.size : Int), c + 1, rfl, b5, by omega, by omega, sb, fun v2 H6 k6 b6 v20 v21 => ⟨by show 5 ≤ sizeLine; decide, fun l hl => ?_⟩⟩⟩
      have s7 := same_new (o := .lst [.int 0, .int ((p.size : Int) - 1), .int ((p.size : Int) / 2), .int v1, .int v2]) hl
      have kk := (Same.keep s0a).trans (k5.trans (k6.trans (Same.keep s7)))
      have bgl := b6.same s7
      have hpl := ((hpa.keep bga k5).keep b5 k6).same s7
      refine ⟨l, rfl, ⟨_, lstL upd_same⟩, ?_⟩
      have ats : ∀ (j : Nat) (y : V), [V.int 0, .int ((p.size : Int) - 1), .int ((p.size : Int) / 2), .int v1, .int v2][j]? = some y → ∃ i : Nat, y = .int (i : Int) ∧ i < p.size := fun j y hy => by
        have h5 : j < 5 := (List.getElem?_eq_some_iff.mp hy).1
        have e : j = 0 ∨ j = 1 ∨ j = 2 ∨ j = 3 ∨ j = 4 := by omega
        have key : ∀ z : Int, 0 ≤ z → z < (p.size : Int) → ∃ i : Nat, V.int z = .int (i : Int) ∧ i < p.size := fun z h0 h1 => by
          obtain ⟨i, rfl⟩ := Int.eq_ofNat_of_zero_le h0
          exact ⟨i, rfl, by omega⟩
        rcases e with rfl | rfl | rfl | rfl | rfl <;> cases hy
        · exact key 0 (by omega) (by omega)
        · exact key _ (by omega) (by omega)
        · exact key _ (by omega) (by omega)
        · exact key _ v10 v11
        · exact key _ v20 v21
      have wb : wl ≠ b := fun z => by
        obtain ⟨A, B, e, _⟩ := hb
        rw [z, e] at ew
        injection ew with ew
        injection ew with ew
        cases hw : p.words with
        | nil => rw [hw] at n1; exact absurd n1 (by decide)
        | cons y ys => rw [hw] at ew; cases ew
      have ewl := kk _ _ wb ew
      have el : upd H6 l (.lst [.int 0, .int ((p.size : Int) - 1), .int ((p.size : Int) / 2), .int v1, .int v2]) l = some (.lst [.int 0, .int ((p.size : Int) - 1), .int ((p.size : Int) / 2), .int v1, .int v2]) := upd_same
      generalize upd H6 l (.lst [.int 0, .int ((p.size : Int) - 1), .int ((p.size : Int) / 2), .int v1, .int v2]) = Hl at *
      refine for_list (xs := [V.int 0, .int ((p.size : Int) - 1), .int ((p.size : Int) / 2), .int v1, .int v2]) (fun j σ H'' => ∃ z5 z6, Same Hl H'' ∧ σ = [some (.ref b), some (.ref wl), some (.ref x), some (.int (p.size : Int)), z4, z5, z6, none, none])
        ⟨none, none, fun _ _ e => e, rfl⟩ (fun j σ H'' _ hpj => ?_) (fun j y σ H'' hy hpj => ?_) fun σ H'' hpj => ?_
      · obtain ⟨z5, z6, s8, rfl⟩ := hpj
        exact lstL (s8 _ _ el)
      · obtain ⟨z5, z6, s8, rfl⟩ := hpj
        obtain ⟨i, rfl, hi⟩ := ats j y hy
        have hp8 := hpl.same s8
        show tSeq _ _ _ [some (.ref b), some (.ref wl), some (.ref x), some (.int (p.size : Int)), z4, some (.int (i : Int)), z6, none, none] H''
        refine ⟨_, rfl, _, rfl, _, rfl, _, _, rfl, rfl, _, _, rfl, _, _, rfl, fun Dl hDl => lc_range (fun k G => Same H'' G ∧ G Dl = some (.lst (((p.steps.drop i).take k).map cS))) ⟨same_new hDl, upd_same⟩ (fun k G hk hpk => ?_) fun G hpk => ?_⟩
        · obtain ⟨s9, e9⟩ := hpk
          have hk5 : i + k < p.steps.length := by
            rw [steps_len]
            split at hk <;> omega
          have kk5 : k < 5 := by split at hk <;> omega
          obtain ⟨c1, hc1⟩ : ∃ c1, p.steps[i + k]? = some c1 := ⟨_, List.getElem?_eq_getElem hk5⟩
          rw [show (i : Int) + (k : Nat) = ((i + k : Nat) : Int) from (Int.natCast_add ..).symm]
          refine ⟨rfl, ?_⟩
          show tCall (spLAt K) [] E0 (tCons (tVar 1) (tCons (tVar 7) tNil)) _ _ _
          refine ⟨_, rfl, _, rfl, wl, p, i + k, c1, rfl, lstL (s9 _ _ (s8 _ _ ewl)), okp, lv, few, hc1, fun H9 s9' => ⟨_, s9' _ _ e9, ?_, fun a o e => ?_, ?_⟩⟩
          · rw [List.length_map, List.length_take]
            exact Nat.lt_of_le_of_lt (Nat.min_le_left _ _) (Nat.lt_of_lt_of_le kk5 (by decide))
          · rw [upd_ne (ne_of_none e hDl)]
            exact s9' _ _ (s9 _ _ e)
          · rw [upd_same, List.take_succ, List.getElem?_drop, hc1, List.map_append]
            rfl
        · obtain ⟨s9, e9⟩ := hpk
          have e5 : (p.steps.drop i).take ((if (i : Int) + 5 < (p.size : Int) then (i : Int) + 5 else (p.size : Int)) - (i : Int)).toNat = (p.steps.drop i).take 5 := by
            have hl5 : (p.steps.drop i).length = p.size - i := by rw [List.length_drop, steps_len]
            split
            · rw [show ((i : Int) + 5 - (i : Int)).toNat = 5 from by omega]
            · rw [List.take_of_length_le (by omega), List.take_of_length_le (by omega)]
          rw [e5] at e9
          have hi2 : i < p.steps.length := by rw [steps_len]; exact hi
          obtain ⟨c1, hc1⟩ : ∃ c1, p.steps[i]? = some c1 := ⟨_, List.getElem?_eq_getElem hi2⟩
          have at0 : atI (((p.steps.drop i).take 5).map cS) 0 = some (cS c1) := atI_nat (j := 0) (by rw [List.getElem?_map, List.getElem?_take, if_pos (by decide), List.getElem?_drop, Nat.add_zero, hc1]; rfl)
          have hp9 := hp8.same s9
          have s6l : ∀ y ∈ (p.steps.drop i).take 5, y ∈ six := fun y hy => sx y (List.mem_of_mem_drop (List.mem_of_mem_take hy))
          show tSeq _ _ _ [some (.ref b), some (.ref wl), some (.ref x), some (.int (p.size : Int)), z4, some (.int (i : Int)), some (.ref Dl), none, none] G
          refine ⟨_, rfl, _, rfl, x, p, i, c1, rfl, hp9, hc1, _, rfl, Dl, _, 0, _, rfl, rfl, lstL e9, at0, rfl, false, ne_self _, iteF ?_⟩
          refine ⟨5, rfl, 5, by decide, by decide, _, rfl, _, rfl, flt G, (p.steps.drop i).map cS, flt_sub, ⟨x, p, i, rfl, hp9.flt, Nat.le_of_lt hi, rfl⟩, fun D2 hD2 =>
            ⟨fun j H' => Held (flt G) G H' ∧ j ≤ 5 ∧ Same G H' ∧ H' D2 = some (.lst (((p.steps.drop i).take j).map cS)), ⟨⟨fun b u e => ?_, fun b u e => ?_⟩, Nat.zero_le _, same_new hD2, upd_same⟩, fun j H' w => w.1, fun j H' hj w => ?_, fun j y H' T hj hy w hT => ?_⟩⟩
          · have e' := (flt_of e).1
            rw [upd_ne (ne_of_none e' hD2)]
            exact e'
          · by_cases hbD : b = D2
            · subst hbD
              rw [upd_same] at e
              cases e
              exact .inr trivial
            · rw [upd_ne hbD] at e
              exact .inl ⟨u, e⟩
          · obtain ⟨w1, j5, w2, w3⟩ := w
            have e3 : H' D2 = some (.lst (((p.steps.drop i).take 5).map cS)) := by
              rcases hj with rfl | rfl
              · exact w3
              · rw [List.length_map] at j5 w3
                rw [w3, List.take_length, List.take_of_length_le j5]
            exact ⟨_, rfl, neS _ s6l e3 (w2 _ _ e9) ⟨false, rfl, iteF ⟨_, _, s8.trans (s9.trans w2), rfl⟩⟩⟩
          · obtain ⟨w1, j5, w2, w3⟩ := w
            obtain ⟨y', hy', rfl⟩ : ∃ y', (p.steps.drop i)[j]? = some y' ∧ cS y' = y := by
              rw [List.getElem?_map] at hy
              exact Option.map_eq_some_iff.mp hy
            refine ⟨T, _, rfl, tupT upd_same, rfl, _, _, rfl, _, _, rfl, rfl, ?_⟩
            have e8 : (p.steps.drop i)[j]? = some y' := hy'
            have nT : T ≠ D2 := fun z => by rw [z] at hT; rw [hT] at w3; cases w3
            refine ⟨rfl, _, rfl, _, (upd_ne (Ne.symm nT)).trans w3, ?_, ⟨⟨fun b u e => ?_, fun b u e => ?_⟩, hj, fun b u e => ?_, ?_⟩⟩
            · rw [List.length_map, List.length_take]
              exact Nat.lt_of_le_of_lt (Nat.min_le_left _ _) (Nat.lt_of_lt_of_le hj (by decide))
            · have e' := w1.1 b u e
              rw [upd_ne (ne_of_none (flt_of e).1 hD2), upd_ne (ne_of_none e' hT)]
              exact e'
            · by_cases hbD : b = D2
              · subst hbD
                rw [upd_same] at e
                cases e
                exact .inr trivial
              · rw [upd_ne hbD] at e
                by_cases hbT : b = T
                · subst hbT
                  rw [upd_same] at e
                  cases e
                  exact .inr trivial
                · rw [upd_ne hbT] at e
                  exact w1.2 b u e
            · have e' := w2 b u e
              rw [upd_ne (ne_of_none e hD2), upd_ne (ne_of_none e' hT)]
              exact e'
            · rw [upd_same, List.take_succ, e8, List.map_append]
              rfl
      · obtain ⟨z5, z6, s8, rfl⟩ := hpj
        exact q _ (kk.trans (Same.keep s8)) (bgl.same s8)
end
end K05P

set_option Elab.async false
set_option linter.all false
set_option maxRecDepth 100000
set_option maxHeartbeats 1000000
/-! Methods of builtin types and tuples, with arguments that may leave sleepers behind. -/
namespace GT
open PySem PySem.Spec PyProof.Rows L2
open Sem (wp)
section
variable {X : Cx} {o e : Expr} {es : List Expr} {to : TE} {t : TA} {name : Str} {apos cpos pos : Pos} {T id : String} {r : V → List V → Hp → VK → Prop}
theorem xe_tup {x1} (h : PAx X es t) : PEx X (.Tuple es x1 pos) (tTup t) := by
  refine ⟨fun pins s σ H Q I hq => ?_⟩
  rw [arm_eval_Tuple]
  refine wpAny_bind (wpAny_standAt (wpAny_bind (nxt (h.run pos pins s σ H _ I hq) fun us s1 ⟨pn, xs, H1, g1, I1, r, z, q⟩ => wpAny_newTuple ?_ (by rw [← r.length]; exact z))))
  have hf : H1 s1.heap.objs.size = none := I1.inv.hok.fresh (Nat.le_refl _)
  refine ⟨pn, .ref s1.heap.objs.size, upd H1 s1.heap.objs.size (.tup xs), g1.trans (.of (.refl _) (by show _ ≤ (s1.heap.push _).objs.size; rw [Heap.size_push]; exact Nat.le_succ _)), ⟨I1.inv.laid (t' := s1.toks) (fun b u e => Heap.get?_push_of_some _ e) (Nat.le_refl _) ?_, I1.wf⟩, rfl, q _ hf⟩
  exact ⟨z, us, r, ⟨_, Heap.get?_push_size _ rfl, rfl, _, rfl⟩⟩
theorem mt_m (hm : MtR X id r) {pins : List (Addr × Obj)} {s : Shared} {σ : L2.St} {H : Hp} {x : V} {xs : List V} {v : Value} {us : List Value} {Q : VK} (I : IM X pins σ H s) (rx : RelV x v) (rv : Vals xs us) (q : r x xs H Q) :
    wpAny (MM X) X.A (call (.builtin id) (v :: us)) (EM X pins σ Q s.gens) (XM X s.gens) s :=
  lift I (hm pins _ σ H x xs v us Q I.calm rx rv q) fun u γ s' ⟨v, H', J, r, q⟩ => ⟨J.bare, fun w c => ⟨v, H', .of J w, r, q, c⟩⟩
theorem xe_bm (pa : PlainAttrs T) (slot : Slot T name id) (hty : typeOf (.builtin id) = pure (.type "method_descriptor")) (hm : MtR X id r) (ho : PEx X o to) (ha : PAx X (e :: es) t)
    (hbase : attributeBase o name X.env (eval o X.env) = eval o X.env := by rfl)
    (hfew : ((backTo cpos (starEach (e :: es) X.env)).all (fun x => !x.1) && (backToKw cpos (keywordEach [] X.env)).all (fun x => x.1.isSome)
      && decide ((e :: es).length + ([] : List Keyword).length + (if ([] : List Keyword).isEmpty then 0 else 1) < 30)) = true := by rfl)
    (hline : (apos.endLine == cpos.line) = true := by rfl) (hs : starEach (e :: es) X.env = (false, eval e X.env) :: starEach es X.env := by rfl) (hplain : (backTo cpos (starEach es X.env)).any (·.1) = false := by rfl) :
    PEx X (.Call (.Attribute o name apos) (e :: es) [] cpos) (tBM X.K T r to t) := by
  refine ⟨fun pins s σ H Q I h => ?_⟩
  rw [arm_eval_Call, hbase]
  refine wpAny_bind (nxt (ho.run pins s σ H _ I h) fun v s1 ⟨pn, x, H1, g1, I1, r1, ty, q1⟩ => ?_)
  obtain ⟨h1, h2⟩ := tyV_is I1.inv r1 ty
  refine wpAny_bind (wpAny_standAt ?_)
  have hform : methodCallForm ((e :: es).length + ([] : List Keyword).length) (backTo cpos (starEach (e :: es) X.env)) (backToKw cpos (keywordEach [] X.env)) = true := hfew
  have hpos : methodCallPos true o X.env apos cpos = pure cpos := by unfold methodCallPos; simp [hline]
  unfold methodCall
  rw [hform]
  refine wpAny_bind (wpAny_holding (getMethod_builtin (s := s1) h1 pa slot hty h2 ?_))
  refine wpAny_bind (wpAny_of_eq hpos ?_)
  have hA := ha.run cpos pn s1 σ H1 _ I1 q1
  rw [hs] at hA ⊢
  refine Calls.callWith_builtin (by show (false || (backTo cpos (starEach es X.env)).any (·.1)) = false; rw [hplain] <;> rfl) (Calls.evalArgs_plain ?_)
  refine nxt hA fun us s2 ⟨qn, vs, H2, g2, I2, r2, q2⟩ => ?_
  exact any_sz (wpAny_mono (mt_m hm I2 r1 r2 q2) (fun _ _ ⟨v, H', J, r, q, c⟩ z => ⟨qn, v, H', (g1.trans g2).trans (.of c z), J, r, q⟩) fun _ _ z => XM.x z)
end
end GT

set_option Elab.async false
set_option linter.all false
set_option maxRecDepth 100000
set_option maxHeartbeats 1000000
set_option exponentiation.threshold 300000
namespace K05P
open PySem PySem.Spec PyProof.Rows L2 RT WM K05 TL GT
/-- pairs of a step and of all steps; nothing of them lies at z -/
inductive Pr (z : Addr) (S : List Nat) (H : Hp) : List V → List Nat → Prop
  | nil : Pr z S H [] []
  | cons {t l : Addr} {c : Nat} {xs : List V} {cs : List Nat} : t ≠ z → l ≠ z → H t = some (.tup [cS c, .ref l]) → H l = some (.lst (S.map cS)) → Pr z S H xs cs → Pr z S H (.ref t :: xs) (c :: cs)
theorem Pr.keep {z : Addr} {S : List Nat} {H H' : Hp} {xs : List V} {cs : List Nat} (h : Pr z S H xs cs) (k : Keep z H H') : Pr z S H' xs cs := by
  induction h with
  | nil => exact .nil
  | cons n1 n2 h1 h2 _ ih => exact .cons n1 n2 (k _ _ n1 h1) (k _ _ n2 h2) ih
theorem Pr.snoc {z : Addr} {S : List Nat} {H : Hp} {xs : List V} {cs : List Nat} {t l : Addr} {c : Nat} (h : Pr z S H xs cs) (n1 : t ≠ z) (n2 : l ≠ z) (h1 : H t = some (.tup [cS c, .ref l])) (h2 : H l = some (.lst (S.map cS))) : Pr z S H (xs ++ [.ref t]) (cs ++ [c]) := by
  induction h with
  | nil => exact .cons n1 n2 h1 h2 .nil
  | cons m1 m2 g1 g2 _ ih => exact .cons m1 m2 g1 g2 ih
theorem Pr.len {z : Addr} {S : List Nat} {H : Hp} {xs : List V} {cs : List Nat} (h : Pr z S H xs cs) : xs.length = cs.length := by
  induction h with
  | nil => rfl
  | cons _ _ _ _ _ ih => rw [List.length_cons, List.length_cons, ih]
def prD (S : List Nat) (c : Nat) : PyData := .tuple [.str (sgl c), .list ((S.map sgl).map .str)]
theorem Pr.dp {K : PySem.W.Frag} {z : Addr} {S : List Nat} {H : Hp} {xs : List V} {cs : List Nat} (h : Pr z S H xs cs) : DpAll K H xs (cs.map (prD S)) := by
  induction h with
  | nil => exact .nil
  | cons n1 n2 h1 h2 _ ih =>
    have e : S.map cS = (S.map sgl).map V.str := by rw [List.map_map]; rfl
    rw [e] at h2
    exact .cons (.tup (tupT h1) (.cons (.str _) (.cons (.lst (lstL h2) (dpS _)) .nil))) ih
theorem eqv_pr (S : List Nat) (c : Nat) : PyData.eqv (prD S c) (prD S c) = true := by
  unfold prD
  simp [PyData.eqv, PyData.eqvAll, eqvA_S, -List.map_map]
theorem eqvA_pr (S : List Nat) : ∀ cs : List Nat, PyData.eqvAll (cs.map (prD S)) (cs.map (prD S)) = true
  | [] => by simp [PyData.eqvAll]
  | c :: cs => by simp [PyData.eqvAll, eqv_pr, eqvA_pr S cs]
theorem lay_S (l : List Nat) (h : ∀ c ∈ l, c ∈ six) : PyData.canLayAll0 ((l.map sgl).map PyData.str) = true := by
  induction l with
  | nil => rfl
  | cons x l ih =>
    have i := ih fun y hy => h y (List.mem_cons_of_mem _ hy)
    have lo := six_low (h x (List.mem_cons_self ..))
    rw [List.map_cons, List.map_cons]
    simp only [PyData.canLayAll0, PyData.canLay0, i, Bool.and_true]
    show (sgl x).cps.all _ = true
    rw [← Array.all_toList]
    refine List.all_eq_true.mpr fun c hc => ?_
    have hc : c = x := List.mem_singleton.mp hc
    simp
    omega
theorem depth_pr (S : List Nat) : ∀ cs : List Nat, PyData.depthAll (cs.map (prD S)) ≤ 2
  | [] => by simp [PyData.depthAll]
  | c :: cs => by
    have := depth_pr S cs
    simp [PyData.depthAll, PyData.depth, prD, depth_S, -List.map_map]
    omega
theorem shaped_pr (S cs : List Nat) (h : ∀ c ∈ S, c ∈ six) (h2 : ∀ c ∈ cs, c ∈ six) : SeqAt.shaped (.list (cs.map (prD S))) = true := by
  have c1 : PyData.canLayAll0 (cs.map (prD S)) = true := by
    induction cs with
    | nil => rfl
    | cons x cs ih =>
      have i := ih fun y hy => h2 y (List.mem_cons_of_mem _ hy)
      have lx := lay_S [x] (fun c hc => by rw [List.mem_singleton.mp hc]; exact h2 x (List.mem_cons_self ..))
      have lx2 : PyData.canLay0 (.str (sgl x)) = true := by
        simp only [List.map_cons, List.map_nil, PyData.canLayAll0, Bool.and_true] at lx
        exact lx
      rw [List.map_cons]
      simp only [PyData.canLayAll0, i, Bool.and_true]
      unfold prD
      simp only [PyData.canLay0] at lx2 ⊢
      simp only [PyData.canLayAll0, PyData.canLay0, lx2, lay_S S h, Bool.and_true]
  have d := depth_pr S cs
  simp only [SeqAt.shaped, PyData.canLay0, PyData.depth, c1, Bool.true_and]
  exact decide_eq_true (by omega)
/-- two lists of the same pairs -/
theorem neP {K : PySem.W.Frag} {H : Hp} {p q z1 z2 : Addr} {S cs : List Nat} {xs ys : List V} {Q : VK} (low : ∀ c ∈ S, c ∈ six) (low2 : ∀ c ∈ cs, c ∈ six) (hp : H p = some (.lst xs)) (hq : H q = some (.lst ys)) (h1 : Pr z1 S H xs cs) (h2 : Pr z2 S H ys cs) (h : Q (.bl false) H) : rNeD K (.ref p) (.ref q) H Q := by
  refine ⟨.list (cs.map (prD S)), .list (cs.map (prD S)), .lst (lstL hp) h1.dp, .lst (lstL hq) h2.dp, shaped_pr S cs low low2, shaped_pr S cs low low2, ?_⟩
  rw [show PyData.eqv (.list (cs.map (prD S))) (.list (cs.map (prD S))) = true from by rw [PyData.eqv]; exact eqvA_pr S cs]
  exact h
end K05P

set_option Elab.async false
set_option linter.all false
set_option maxRecDepth 100000
set_option maxHeartbeats 4000000
set_option exponentiation.threshold 300000
namespace K05P
open PySem PySem.Spec PyProof.Rows L2 RT WM K05 TL GT
theorem cut10 (ns : List Int) {z : V} (hz : z ∈ cutV (ns.map V.int) none (some 10) ++ [V.int 0]) : ∃ n : Int, z = .int n := by
  rcases List.mem_append.mp hz with hx | hx
  · unfold cutV at hx
    obtain ⟨n, hn, rfl⟩ := List.mem_map.mp (List.mem_of_mem_drop (List.mem_of_mem_take hx))
    exact ⟨n, rfl⟩
  · exact ⟨0, List.mem_singleton.mp hx⟩
theorem cut10_len (ns : List Int) : (cutV (ns.map V.int) none (some 10)).length ≤ 10 := by
  unfold cutV
  rw [List.length_take]
  refine Nat.le_trans (Nat.min_le_left _ _) (Nat.le_trans (Nat.sub_le _ _) ?_)
  have := HT.sIx_nat (ns.map V.int).length (ns.map V.int).length 10
  show HT.sIx (ns.map V.int).length (ns.map V.int).length (some ((10 : Nat) : Int)) ≤ 10
  rw [this]
  exact Nat.min_le_left _ _
theorem at_most {u : Int} (h0 : 0 ≤ u) (h : u < 2) : ∃ m : Nat, atI [V.int 4, V.int 40] u = some (.int (m : Int)) ∧ 1 ≤ m ∧ m ≤ 40 := by
  have e : u = 0 ∨ u = 1 := by omega
  rcases e with rfl | rfl
  · exact ⟨4, atI_nat (j := 0) rfl, by decide, by decide⟩
  · exact ⟨40, atI_nat (j := 1) rfl, by decide, by decide⟩
theorem at_deep {u : Int} (h0 : 0 ≤ u) (h : u < 2) : ∃ m : Nat, atI [V.int 2, V.int 12] u = some (.int (m : Int)) ∧ m < 13 := by
  have e : u = 0 ∨ u = 1 := by omega
  rcases e with rfl | rfl
  · exact ⟨2, atI_nat (j := 0) rfl, by decide⟩
  · exact ⟨12, atI_nat (j := 1) rfl, by decide⟩
theorem letters_six : ∀ x ∈ ("fblrud" : Str).cps.toList, x ∈ six := by decide
theorem take_mn {α : Type} (l : List α) (k : Nat) : l.take (min k l.length) = l.take k := by
  by_cases h : k ≤ l.length
  · rw [Nat.min_eq_left h]
  · rw [Nat.min_eq_right (by omega), List.take_length, List.take_of_length_le (by omega)]
theorem cut_take (l : List Nat) (k : Nat) : cutS (txS l) none (some ((k : Nat) : Int)) = txS (l.take k) := by
  have e1 : HT.sIx (txS l).length 0 none = 0 := rfl
  unfold cutS
  rw [e1, HT.sIx_nat, tx_len]
  show (⟨((l.drop 0).take (min k l.length - 0)).toArray⟩ : Str) = _
  rw [List.drop_zero, Nat.sub_zero, take_mn]
/-- the program ( f l )500 -/
def exP : Ps := .rp (.lf 102 1 (.lf 108 1 .nil)) 500 .nil
theorem exP_text : ("( f l )500" : Str) = textOf exP.words := by decide +kernel
theorem exP_ok : exP.ok := by
  exact ⟨nofun, ⟨⟨by decide, by decide, by decide⟩, ⟨by decide, by decide, by decide⟩, trivial⟩, ⟨by decide, by decide⟩, trivial⟩
theorem exP_fit : exP.lev ≤ 12 ∧ exP.words.length ≤ 1000 := by decide +kernel
theorem exP_size : exP.size ≤ 1000 := by decide +kernel
theorem exP_steps : (⟨exP.steps.toArray⟩ : Str) = Txt.mul "fl" 500 := by
  have e1 : ("fl" : Str) = txS [102, 108] := by decide
  have e2 : exP.steps = (List.replicate 500 [102, 108]).flatten := by
    show (List.replicate 500 (List.replicate 1 102 ++ (List.replicate 1 108 ++ []))).flatten ++ [] = _
    rw [List.append_nil]
    rfl
  rw [e1, e2]
  exact (tx_mul [102, 108] 500).symm
theorem IsP.keep2 {K : PySem.W.Frag} {H H' : Hp} {a b : Addr} {us : List V} {p : Ps} (h : IsP K H a p) (eb : H b = some (.lst us)) (k : Keep b H H') : IsP K H' a p := by
  obtain ⟨h1, h2, h3, d, w, t, us, e1, e2, e3, e4⟩ := h
  refine ⟨h1, h2, h3, d, w, t, us, k _ _ (fun z => ?_) e1, k _ _ (fun z => ?_) e2, k _ _ (fun z => ?_) e3, partsKeepL e4 eb k⟩
  · rw [z, eb] at e1; cases e1
  · rw [z, eb] at e2; cases e2
  · rw [z, eb] at e3; cases e3
section
variable {P : Program} {w : World} {K : PySem.W.Frag} {mg : Str → Option Value} {base : Heap}
def spLaw (K : PySem.W.Frag) : Sp := fun vs H Q _ => ∃ (a : Addr) (ns : List Int), vs = [.ref a] ∧ SqL K H a (ns.map V.int) ∧ ∀ H', Q (.bl true) H'
theorem ok_law (D : Ds K) (T : Tx K mg) : FnX P w K mg base CX0 46 (dlaw.adr K) D.fd_law ["script"] (spLaw K) := by
  have GI : FnOk P w K mg base CX0 19 _ _ _ (spProg K) := ok_prog D T
  have GB : FnOk P w K mg base CX0 1 _ _ _ spBag := ok_bag D T
  have GP : FnOk P w K mg base CX0 1 _ _ _ spPick := ok_pick D T
  have GSh : FnOk P w K mg base CX0 8 _ _ _ spShort := ok_short D T
  have GW : FnOk P w K mg base CX0 16 _ _ _ (spLW 13) := ok_lw D T 13
  have GS : FnOk P w K mg base CX0 1 _ _ _ (spStepsL K) := ok_stepsL D T
  have GSR : FnX P w K mg base CX0 45 _ _ _ (spSR K) := ok_sr D T
  have GFR : FnX P w K mg base CX0 45 _ _ _ (spFR K) := ok_fr D T
  have GWr : FnM P w K mg base CX0 44 _ _ _ (spWr K) := ok_wr D T
  have GF : GenD P w K mg base 43 _ _ _ (spFrom K) := gen_from D T
  refine okX D.F_law sclaw (fun vs H Q E h => ?_) (fun cdv A outer s H vs Q E hG hr h => ?_)
  · obtain ⟨a, ns, rfl, _⟩ := h
    rfl
  · obtain ⟨a, ns, rfl, hS, q⟩ := h
    have nd := sclaw.nd
    refine ⟨_, xb_cons (xs_for PassesOwn.leaving rfl (pi_list (pe_op op_cat (pe_slice sl_list (pv 0) po_none (po_some pe_int)) (pe_lst (pa_cons pe_int pa_nil)))) (pg_name (i := 1) nd rfl (.inl rfl))
        (xb_cons (s_c (ps_set (i := 2) nd rfl (.inl rfl) (pe_call GB (hr.mono (by decide)) (by rfl) T.g__law_bag D.F__law_bag.kp (b__law_bag D) .nil pass0 (pa_cons (pv 1) pa_nil))))
        (xb_cons (s_c (ps_set (i := 3) nd rfl (.inr rfl) (pe_call GSh (hr.mono (by decide)) (by rfl) T.g__law_short D.F__law_short.kp (b__law_short D) .nil pass0 (pa_cons (pv 2) (pa_cons pe_int (pa_cons pe_str (pa_cons pe_int pa_nil)))))))
        (xb_cons (xs_if (xt_not (xt_val (xe_call GSR hG (hr.mono (by decide)) (by rfl) T.g__law_short_right D.F__law_short_right.kp (b__law_short_right D) .nil pass0 (xa_cons (e_c (pv 2)) (xa_cons (e_c (pv 3)) xa_nil))))) (xb_one (xs_ret (e_c pe_bl))) xb_nil)
        (xb_cons (s_c (ps_set (i := 4) nd rfl (.inl rfl) (pe_call GW (hr.mono (by decide)) (by rfl) T.g__law_words D.F__law_words.kp (b__law_words D) .nil pass0 (pa_cons (pv 2)
            (pa_cons (pe_ix ix_list (pe_lst (pa_cons pe_int (pa_cons pe_int pa_nil))) (pe_call GP (hr.mono (by decide)) (by rfl) T.g__law_pick D.F__law_pick.kp (b__law_pick D) .nil pass0 (pa_cons (pv 2) (pa_cons pe_int pa_nil))) (fun _ _ => rfl))
            (pa_cons (pe_ix ix_list (pe_lst (pa_cons pe_int (pa_cons pe_int pa_nil))) (pe_call GP (hr.mono (by decide)) (by rfl) T.g__law_pick D.F__law_pick.kp (b__law_pick D) .nil pass0 (pa_cons (pv 2) (pa_cons pe_int pa_nil))) (fun _ _ => rfl)) (pa_cons pe_str (pa_cons pe_int pa_nil))))))))
        (xb_cons (xs_if (xt_not (xt_val (xe_call GFR hG (hr.mono (by decide)) (by rfl) T.g__law_far_right D.F__law_far_right.kp (b__law_far_right D) .nil pass0 (xa_cons (e_c (pv 2)) (xa_cons (e_c (pv 4)) xa_nil))))) (xb_one (xs_ret (e_c pe_bl))) xb_nil)
        (xb_cons (s_c (ps_set (i := 5) nd rfl (.inl rfl) (pe_make T.k_Program GI (hr.mono (by decide)) (by rfl) T.g_Program (b_Program_init D) .nil pass0 (pa_cons (pe_join pe_str (pv 3)) pa_nil))))
        (xb_cons (s_c (ps_set (i := 6) nd rfl (.inl rfl) (pe_lst pa_nil)))
        (xb_cons (xs_forG PassesOwn.leaving GF hG (hr.mono (by decide)) (by rfl) T.g_steps_from D.F_steps_from.kp (b_steps_from D) .nil (pa_cons (pv 5) (pa_cons pe_int pa_nil)) (pg_name (i := 7) nd rfl (.inl rfl))
          (xb_one (xs_if (t_c (pt_cmpR op_lt (pe_callB call_len_seq (by rfl) T.z_len PySem.boot_len (pa_cons (pv 6) pa_nil)) pe_int (nomark _))) (xb_one (xs_drop (xe_bm PySem.F.plainAttrs_list PySem.F.slot_list_append PySem.F.type_list_append mt_append (e_c (pv 6))
            (xa_cons (xe_tup (xa_cons (e_c (pv 7)) (xa_cons (e_x (e_listG GF hG (hr.mono (by decide)) (by rfl) T.z_list (by rfl) T.g_steps_from D.F_steps_from.kp (b_steps_from D) .nil (pa_cons (pv 5) (pa_cons pe_int pa_nil)))) xa_nil))) xa_nil)))) xb_nil)))
        (xb_one (s_c (ps_if (pt_cmpR (op_neD hr.units) (pv 6) (pe_lc (own := [(("step" : Str), 7)]) (g := gName 7) (tt := tYes) (te := tTup (tCons (tVar 7) (tCons (tCB (fun xs H Q => ∃ x : Str, xs = [.str x] ∧ x.length ≤ sizeLine ∧ ∀ l, H l = none → Q (.ref l) (upd H l (.lst (x.cps.toList.map fun c => V.str ⟨#[c]⟩)))) (tCons (tCall (spStepsL K) [] E0 (tCons (tVar 3) tNil)) tNil)) tNil))) rfl nd
            (pi_str (pe_slice sl_str (pe_call GS (hr.mono (by decide)) (by rfl) T.g__law_steps D.F__law_steps.kp (b__law_steps D) .nil pass0 (pa_cons (pv 3) pa_nil)) po_none (po_some pe_int))) (blkOk_by (own := [(("step" : Str), 7)]) (N := Nlaw) (sc := defScope slaw) (by decide +kernel)) (fun _ _ _ _ _ => pg_name (i := 7) nd rfl (Or.inl rfl)) (fun _ _ _ _ _ => pts_nil)
            (fun _ _ _ _ _ => pe_tup (pa_cons (pv 7) (pa_cons (pe_callTy (call_list_strV rfl) (by rfl) T.z_list (by decide +kernel) (pa_cons (pe_call GS (hr.mono (by decide)) (by rfl) T.g__law_steps D.F__law_steps.kp (b__law_steps D) .nil pass0 (pa_cons (pv 3) pa_nil)) pa_nil)) pa_nil)))) (nomark _)) (pss_one (ps_ret pe_bl)) pss_nil))))))))))))
      (xb_cons (s_c (ps_set (i := 8) nd rfl (.inl rfl) (pe_make T.k_Program GI (hr.mono (by decide)) (by rfl) T.g_Program (b_Program_init D) .nil pass0 (pa_cons pe_str pa_nil))))
      (xb_one (xs_ret (xe_and (xe_cmp op_eq (e_x (e_call GWr hG (hr.mono (by decide)) (by rfl) T.g_written D.F_written.kp (b_written D) .nil pass0 (a_cons (e_m (pv 8)) a_nil))) (e_c (pe_op op_mulS pe_str pe_int)) (nomark _))
        (xe_and (xe_cmp op_eq (e_x (e_call GWr hG (hr.mono (by decide)) (by rfl) T.g_written D.F_written.kp (b_written D) .nil pass0 (a_cons (e_m (pe_make T.k_Program GI (hr.mono (by decide)) (by rfl) T.g_Program (b_Program_init D) .nil pass0 (pa_cons pe_str pa_nil))) a_nil))) (e_c pe_str) (nomark _))
        (xe_one (xe_cmp (op_eqD hr.units) (e_x (e_listG GF hG (hr.mono (by decide)) (by rfl) T.z_list (by rfl) T.g_steps_from D.F_steps_from.kp (b_steps_from D) .nil (pa_cons (pe_make T.k_Program GI (hr.mono (by decide)) (by rfl) T.g_Program (b_Program_init D) .nil pass0 (pa_cons pe_str pa_nil)) (pa_cons pe_int pa_nil)))) (e_c (pe_lst pa_nil)) (nomark _)))))))), ?_⟩
    have two : ((2 : Int)).natAbs < 2 ^ 1500 := Nat.lt_of_lt_of_le (show (2 : Int).natAbs < 2 ^ 2 by decide) (Nat.pow_le_pow_right (by decide) (by decide))
    refine seq_via (Good := fun σ H' => ∃ z1 z2 z3 z4 z5 z6 z7 z8, σ = [some (.ref a), z1, z2, z3, z4, z5, z6, z7, z8]) (fun D' hD => ?_) (fun σ H1 g => ?_)
    · refine ⟨_, rfl, 10, rfl, a, _, rfl, hS, fun p1 hp1 => ⟨by show 1 ≤ sizeLine; decide, fun p2 hp2 => ?_⟩⟩
      have s2 := same_new (o := .lst [.int 0]) hp2
      refine ⟨_, _, _, _, rfl, rfl, s2 _ _ upd_same, upd_same, by have := cut10_len ns; have h2 : 100000 ≤ sizeLine := (by decide); show _ + 1 ≤ _; omega, fun p3 hp3 => ?_⟩
      refine ⟨p3, rfl, ⟨_, lstL upd_same⟩, ?_⟩
      obtain ⟨H0, eH0⟩ : ∃ H0, H0 = upd (upd (upd H p1 (.lst (cutV (ns.map V.int) none (some 10)))) p2 (.lst [.int 0])) p3 (.lst (cutV (ns.map V.int) none (some 10) ++ [.int 0])) := ⟨_, rfl⟩
      have e3 : H0 p3 = some (.lst (cutV (ns.map V.int) none (some 10) ++ [.int 0])) := by rw [eH0]; exact upd_same
      rw [← eH0]
      clear eH0
      refine for_list (xs := cutV (ns.map V.int) none (some 10) ++ [.int 0]) (fun i σ H' => ∃ z1 z2 z3 z4 z5 z6 z7 z8, Same H0 H' ∧ σ = [some (.ref a), z1, z2, z3, z4, z5, z6, z7, z8])
        ⟨none, none, none, none, none, none, none, none, fun _ _ e => e, rfl⟩ (fun i σ H' hi hp => by obtain ⟨_, _, _, _, _, _, _, _, s, _⟩ := hp; exact lstL (s _ _ e3)) (fun i x σ H1 hx hp => ?_) fun σ H' hp => ?_
      · obtain ⟨z1, z2, z3, z4, z5, z6, z7, z8, s1, rfl⟩ := hp
        obtain ⟨z, rfl⟩ := cut10 ns (List.mem_of_getElem? hx)
        refine ⟨_, rfl, z, rfl, fun b H2 s12 nb hb => ?_⟩
        refine ⟨_, rfl, b, ("fblrud" : Str), 0, rfl, hb, by omega, letters_six, by decide, by decide, fun wl p c1 H3 k3 b3 c1a c1b okp lv n1 few sz nwl ewl => ?_⟩
        have wb : wl ≠ b := fun z => by
          obtain ⟨_, _, e, _⟩ := hb
          rw [z, e] at nwl
          cases nwl
        refine ⟨_, rfl, _, rfl, b, wl, p, c1, rfl, b3, by omega, ewl, okp, by omega, by omega, sz, fun H4 k4 b4 => ⟨true, rfl, iteF ?_⟩⟩
        have ewl4 := k4 _ _ wb ewl
        refine ⟨_, rfl, by show 2 ≤ sizeLine; decide, fun l1 hl1 => ?_⟩
        have s4 := same_new (o := .lst [.int 4, .int 40]) hl1
        have nl1 : l1 ≠ b := fun z => by
          obtain ⟨_, _, e, _⟩ := b4
          rw [← z, hl1] at e
          cases e
        refine ⟨_, rfl, b, 2, c1 + 1, rfl, b4.same s4, by omega, by decide, two, fun u1 H5 k5 b5 u10 u11 => ?_⟩
        obtain ⟨m, em, m1, m40⟩ := at_most u10 u11
        refine ⟨l1, _, u1, _, rfl, rfl, lstL (k5 _ _ nl1 upd_same), em, by show 2 ≤ sizeLine; decide, fun l2 hl2 => ?_⟩
        have s5 := same_new (o := .lst [.int 2, .int 12]) hl2
        have nl2 : l2 ≠ b := fun z => by
          obtain ⟨_, _, e, _⟩ := b5
          rw [← z, hl2] at e
          cases e
        refine ⟨_, rfl, b, 2, c1 + 1 + 1, rfl, b5.same s5, by omega, by decide, two, fun u2 H6 k6 b6 u20 u21 => ?_⟩
        obtain ⟨dp, ed, dp13⟩ := at_deep u20 u21
        refine ⟨l2, _, u2, _, rfl, rfl, lstL (k6 _ _ nl2 upd_same), ed, b, m, dp, ("fblrud" : Str), 1, c1 + 1 + 1 + 1, rfl, dp13, b6, by omega, m1, by omega, letters_six, by decide, by decide, by decide, by decide, fun wl2 p2 c2 H7 k7 b7 c2a c2b okp2 _ lev2 n12 few2 nwl2 ewl2 => ?_⟩
        have kk4 : Keep b H4 H7 := (Same.keep s4).trans (k5.trans ((Same.keep s5).trans (k6.trans k7)))
        refine ⟨_, rfl, _, rfl, b, wl2, p2, c2, rfl, b7, by omega, ewl2, okp2, by omega, by omega, n12, fun H8 k8 b8 => ⟨true, rfl, iteF ?_⟩⟩
        have kk : Keep b H3 H8 := k4.trans (kk4.trans k8)
        have ewl8 := kk _ _ wb ewl
        have s18 : Same H0 H8 := fun x o e => by
          have e2 := s12 _ _ (s1 _ _ e)
          have xb : x ≠ b := fun z => by
            rw [z] at e
            rw [s1 _ _ e] at nb
            cases nb
          exact kk _ _ xb (k3 _ _ xb e2)
        clear kk4 k4 k5 k6 k7 k8 s4 s5 b3 b4 b5 b6 b7 nl1 nl2 em ed
        show tSeq _ _ _ [some (.ref a), some (.int z), some (.ref b), some (.ref wl), some (.ref wl2), z5, z6, z7, z8] H8
        have sums : ((p.words.map Wd.str).map (·.length)).sum + (p.words.map Wd.str).length * (" " : Str).length ≤ 16777216 := by
          have h1 := lens_le (words_ok _ okp)
          have h2 : (" " : Str).length = 1 := rfl
          rw [List.length_map, h2]
          omega
        have lz : p.steps.length ≤ sizeLine := by rw [steps_len]; exact Nat.le_trans sz (by decide)
        have sx := steps_six okp
        refine ⟨⟨_, rfl⟩, _, rfl, (" " : Str), wl, p.words.map Wd.str, rfl, rfl, .inl (lstL (by rw [← wstrs_map]; exact ewl8)), sums, fun x dx nx ndx _ => make_p nx ndx (join_eq _ _) okp (by omega) (by omega) fun H9 s9 hp9 => ⟨rfl, ?_⟩⟩
        refine ⟨by show 0 ≤ sizeLine; decide, fun sn hsn => ?_⟩
        have s10 := same_new (o := .lst []) hsn
        have hp10 := hp9.same s10
        have esn : upd H9 sn (.lst []) sn = some (.lst []) := upd_same
        have ewl10 := s10 _ _ (s9 _ _ ewl8)
        have s110 := s18.trans (s9.trans s10)
        generalize upd H9 sn (.lst []) = H10 at *
        show tSeq _ _ _ [some (.ref a), some (.int z), some (.ref b), some (.ref wl), some (.ref wl2), some (.ref x), some (.ref sn), z7, z8] H10
        refine ⟨_, rfl, flt H10, (p.steps.drop 0).map cS, flt_sub, ⟨x, p, 0, rfl, hp10.flt, Nat.zero_le _, rfl⟩,
          fun j σ H' => Held (flt H10) H10 H' ∧ Keep sn H10 H' ∧ (∃ xs, H' sn = some (.lst xs) ∧ Pr sn p.steps H' xs (p.steps.take (min 3 j))) ∧ ∃ z7, σ = [some (.ref a), some (.int z), some (.ref b), some (.ref wl), some (.ref wl2), some (.ref x), some (.ref sn), z7, z8],
          ⟨⟨fun u o e => (flt_of e).1, fun u o e => .inl ⟨o, e⟩⟩, Keep.refl _ _, ⟨[], esn, .nil⟩, z7, rfl⟩, fun j σ H' w => w.1, fun σ H' w => ?_, fun j y σ H' hj w => ?_⟩
        · obtain ⟨w1, w2, ⟨xs, ex, pr⟩, z7, rfl⟩ := w
          have s09 := s18.trans s9
          have wsn : wl ≠ sn := fun q => by
            rw [← q, s9 _ _ ewl8] at hsn
            cases hsn
          have ewl' := w2 _ _ wsn ewl10
          have s0' : Same H0 H' := fun u o e => w2 u o (fun q => by rw [← q, s09 _ _ e] at hsn; cases hsn) (s110 u o e)
          have lz2 : (txS p.steps).length ≤ sizeLine := by rw [tx_len]; exact lz
          have low3 : ∀ c ∈ p.steps.take 3, c ∈ six := fun c hc => sx c (List.mem_of_mem_take hc)
          have pr3 : Pr sn p.steps H' xs (p.steps.take 3) := by
            rw [List.length_map, List.drop_zero] at pr
            rw [take_mn] at pr
            exact pr
          refine ⟨_, rfl, ?_⟩
          refine ⟨_, rfl, wl, p, rfl, lstL ewl', okp, by omega, sz, fun H11 s11 => ⟨3, rfl, _, rfl, lz2, ?_⟩⟩
          rw [show cutS (txS p.steps) none (some 3) = txS (p.steps.take 3) from cut_take p.steps 3]
          refine ⟨_, rfl, fun Dl hDl => ?_⟩
          have ewl11 := s11 _ _ ewl'
          have wD : wl ≠ Dl := fun q => by rw [q, hDl] at ewl11; cases ewl11
          refine lc_it walk_str (fun k G => Keep Dl H11 G ∧ ∃ ys, G Dl = some (.lst ys) ∧ Pr Dl p.steps G ys ((p.steps.take 3).take k)) ⟨Same.keep (same_new hDl), [], upd_same, .nil⟩ (fun _ _ _ _ => True.intro) (fun k y G G' hk hpk hy => ?_) fun G hpk => ?_
          · obtain ⟨rfl, c, hc, rfl⟩ := hy
            obtain ⟨kG, ys, ey, pry⟩ := hpk
            have hc2 : (p.steps.take 3)[k]? = some c := by
              rw [← Array.getElem?_toList] at hc
              exact hc
            have hk3 : k < 3 := by
              have := (List.getElem?_eq_some_iff.mp hc2).1
              rw [List.length_take] at this
              omega
            refine ⟨rfl, ?_⟩
            dsimp only [tYes]
            rw [if_pos rfl]
            refine ⟨_, rfl, _, rfl, wl, p, rfl, lstL (kG _ _ wD ewl11), okp, by omega, sz, fun H12 s12 => ⟨_, rfl, lz2, fun l hl => ⟨by show 2 ≤ sizeLine; decide, fun t ht => ?_⟩⟩⟩
            have ey12 := s12 _ _ ey
            have nl : l ≠ Dl := fun q => by rw [q, ey12] at hl; cases hl
            have nt : t ≠ Dl := fun q => by rw [q, upd_ne (Ne.symm nl), ey12] at ht; cases ht
            have ntl : t ≠ l := fun q => by rw [q, upd_same] at ht; cases ht
            have k2 : Keep Dl G' (upd (upd (upd H12 l (.lst ((txS p.steps).cps.toList.map fun c => V.str ⟨#[c]⟩))) t (.tup [.str ⟨#[c]⟩, .ref l])) Dl (.lst (ys ++ [.ref t]))) := fun u o nu eu => by
              have e12 := s12 _ _ eu
              have el : (upd H12 l (.lst ((txS p.steps).cps.toList.map fun c => V.str ⟨#[c]⟩))) u = some o := by rw [upd_ne (ne_of_none e12 hl)]; exact e12
              rw [upd_ne nu, upd_ne (ne_of_none el ht)]
              exact el
            refine ⟨ys, ?_, ?_, kG.trans k2, ys ++ [.ref t], upd_same, ?_⟩
            · rw [upd_ne (Ne.symm nt), upd_ne (Ne.symm nl)]
              exact ey12
            · rw [pry.len, List.length_take]
              exact Nat.lt_of_le_of_lt (Nat.min_le_left _ _) (Nat.lt_of_lt_of_le hk3 (by decide))
            · rw [List.take_succ, hc2]
              refine (pry.keep k2).snoc nt nl ?_ ?_
              · rw [upd_ne nt, upd_same]
              · rw [upd_ne nl, upd_ne (Ne.symm ntl), upd_same]
          · obtain ⟨kG, ys, ey, pry⟩ := hpk
            have s2G : Same H' G := fun u o e => kG u o (fun q => by rw [q] at e; rw [s11 _ _ e] at hDl; cases hDl) (s11 _ _ e)
            have pry2 : Pr Dl p.steps G ys (p.steps.take 3) := by
              have e1 : (txS (p.steps.take 3)).cps.size = (p.steps.take 3).length := tx_len _
              rw [e1, List.take_length] at pry
              exact pry
            exact neP sx low3 (s2G _ _ ex) ey (pr3.keep (Same.keep s2G)) pry2 ⟨false, rfl, iteF ⟨_, _, _, _, _, _, _, _, fun u o e => s2G _ _ (s0' _ _ e), rfl⟩⟩
        · obtain ⟨w1, w2, ⟨xs, ex, pr⟩, z7, rfl⟩ := w
          obtain ⟨c, hc, rfl⟩ : ∃ c, p.steps[j]? = some c ∧ cS c = y := by
            rw [List.drop_zero, List.getElem?_map] at hj
            exact Option.map_eq_some_iff.mp hj
          have hjl : j < p.steps.length := (List.getElem?_eq_some_iff.mp hc).1
          have xl : xs.length = min 3 j := by rw [pr.len, List.length_take]; omega
          have hpx := hp10.keep2 esn w2
          show tIfS _ _ _ _ [some (.ref a), some (.int z), some (.ref b), some (.ref wl), some (.ref wl2), some (.ref x), some (.ref sn), some (cS c), z8] H'
          refine ⟨_, rfl, sn, xs, rfl, .inl (lstL ex), _, _, rfl, rfl, _, rfl, ite2 (fun e => ?_) (fun e => ?_)⟩
          · refine ⟨_, rfl, ?_, _, rfl, _, rfl, flt H', (p.steps.drop 0).map cS, flt_sub, ⟨x, p, 0, rfl, hpx.flt, Nat.zero_le _, rfl⟩, by rw [List.length_map, List.drop_zero]; exact lz, fun S hS2 => ⟨by show 2 ≤ sizeLine; decide, fun t ht => ⟨sn, xs, .ref t, rfl, rfl, ?_, ?_, ?_⟩⟩⟩
            · exact .inl ⟨rfl, xs, lstL ex⟩
            · rw [upd_ne (ne_of_none ((upd_ne (ne_of_none ex hS2)).trans ex) ht), upd_ne (ne_of_none ex hS2)]
              exact ex
            · rw [xl]
              exact Nat.lt_of_le_of_lt (Nat.min_le_left _ _) (by decide)
            · have lt3 : j < 3 := by
                have := of_decide_eq_true e
                omega
              have nS : S ≠ sn := fun q => by rw [q, ex] at hS2; cases hS2
              have nt : t ≠ sn := fun q => by rw [q, upd_ne (Ne.symm nS), ex] at ht; cases ht
              have ntS : t ≠ S := fun q => by rw [q, upd_same] at ht; cases ht
              have k1 : Keep sn H' (upd (upd (upd H' S (.lst ((p.steps.drop 0).map cS))) t (.tup [cS c, .ref S])) sn (.lst (xs ++ [.ref t]))) := fun u o nu eu => by
                rw [upd_ne nu, upd_ne (ne_of_none ((upd_ne (ne_of_none eu hS2)).trans eu) ht), upd_ne (ne_of_none eu hS2)]
                exact eu
              refine ⟨⟨fun u o eu => ?_, fun u o eu => ?_⟩, w2.trans k1, ⟨_, upd_same, ?_⟩, _, rfl⟩
              · refine k1 u o (fun q => ?_) (w1.1 u o eu)
                have e' := (flt_of eu).1
                have e2 := (flt_of eu).2
                rw [q, esn] at e'
                cases e'
                rcases e2 with ⟨_, z⟩ | ⟨_, _, _, z⟩ | ⟨_, _, _, z, _⟩ <;> cases z
              · by_cases h1 : u = sn
                · rw [h1, upd_same] at eu
                  cases eu
                  exact .inr trivial
                · rw [upd_ne h1] at eu
                  by_cases h2 : u = t
                  · rw [h2, upd_same] at eu
                    cases eu
                    exact .inr trivial
                  · rw [upd_ne h2] at eu
                    by_cases h3 : u = S
                    · rw [h3, upd_same] at eu
                      cases eu
                      exact .inr trivial
                    · rw [upd_ne h3] at eu
                      exact w1.2 u o eu
              · rw [show min 3 j = j from by omega] at pr
                rw [show min 3 (j + 1) = j + 1 from by omega, List.take_succ, hc]
                refine (pr.keep k1).snoc nt nS ?_ ?_
                · rw [upd_ne nt, upd_same]
                · rw [upd_ne nS, upd_ne (Ne.symm ntS), upd_same]
                  rfl
          · have ge3 : ¬ j < 3 := by
              have : ¬ (xs.length : Int) < 3 := fun q => e (decide_eq_true q)
              omega
            refine ⟨w1, w2, ⟨xs, ex, ?_⟩, _, rfl⟩
            rw [show min 3 (j + 1) = min 3 j from by omega]
            exact pr
      · obtain ⟨z1, z2, z3, z4, z5, z6, z7, z8, s, rfl⟩ := hp
        exact hD _ _ ⟨z1, z2, z3, z4, z5, z6, z7, z8, rfl⟩
    · obtain ⟨z1, z2, z3, z4, z5, z6, z7, z8, rfl⟩ := g
      intro x dx nx ndx _
      refine make_p (p := exP) nx ndx exP_text exP_ok exP_fit.1 exP_fit.2 fun H2 s2 hp2 => ⟨rfl, ?_⟩
      refine ⟨_, rfl, x, exP, rfl, hp2, exP_size, ("fl" : Str), 500, rfl, rfl, ?_, rfl, true, ?_, iteT ?_⟩
      · exact mul_okS (l := [102, 108]) (n := 500) (by decide) (by decide)
      · exact congrArg V.bl (decide_eq_true (congrArg V.str exP_steps))
      intro x3 dx3 nx3 ndx3 _
      refine make_p (p := .nil) nx3 ndx3 rfl trivial (Nat.zero_le _) (Nat.zero_le _) fun H4 s4 hp4 => ⟨rfl, ?_⟩
      refine ⟨x3, .nil, rfl, hp4, Nat.zero_le _, rfl, true, ?_, iteT ?_⟩
      · exact congrArg V.bl (decide_eq_true rfl)
      intro x5 dx5 nx5 ndx5 _
      refine make_p (p := .nil) nx5 ndx5 rfl trivial (Nat.zero_le _) (Nat.zero_le _) fun H6 s6 hp6 => ⟨rfl, ?_⟩
      refine ⟨flt H6, (Ps.nil.steps.drop 0).map cS, flt_sub, ⟨x5, .nil, 0, rfl, hp6.flt, Nat.zero_le _, rfl⟩, Nat.zero_le _, fun S hS => ⟨by show 0 ≤ sizeLine; decide, fun l hl => ?_⟩⟩
      exact eqS [] (fun c hc => absurd hc (by simp)) ((same_new hl) _ _ upd_same) upd_same (q _)
end
end K05P

set_option Elab.async false
set_option linter.all false
set_option maxRecDepth 100000
set_option maxHeartbeats 0
open PySem PySem.W PySem.Calls PyProof.Rows
theorem PySem.Challenge.cw_plotpens_k05_steps_of_programs_holds : PySem.Challenge.rw_plotpens_k05_steps_of_programs.Holds := by
  w_on; o_law
  refine GT.head_M (r := OpenLaw.row PySem.Challenge.rw_plotpens_k05_steps_of_programs) (q := view (OpenLaw.row PySem.Challenge.rw_plotpens_k05_steps_of_programs).prog [65]) (H := K05.hk) (ob := K05.ob) (M := 12000) (loose := K05.names) (d := HandSHeadRun.topDef (OpenLaw.row PySem.Challenge.rw_plotpens_k05_steps_of_programs).prog 65) (kwd := []) K05.ob_eq
    (by kernel_rfl) (fun s => by kernel_rfl) K05.run (by kernel_rfl) (by kernel_rfl) (by kernel_rfl) (by rfl) (by first | assumption | decide +kernel) (by decide +kernel) ⟨rfl, rfl, rfl, rfl, rfl, by decide +kernel⟩ ?hw ?hc
  case hw => w_witness2
  case hc =>
    refine GT.walk_ofX (l := PySem.Challenge.rw_plotpens_k05_steps_of_programs) (n := 63) (k := 46) (x := "script") (CX := fun _ => L2.CX0) rfl (by decide) (by kernel_rfl) ⟨rfl, by decide, by decide⟩ ?F (fun _ _ _ _ _ z => z)
    intro w mg fa h Y G hmg0
    obtain ⟨K, KX, c⟩ := Y
    have hmg : mg ("law" : PySem.Str) = some (.ref fa) := by
      have e : (HandSHeadRun.topDef (OpenLaw.row PySem.Challenge.rw_plotpens_k05_steps_of_programs).prog 65).name = ("law" : PySem.Str) := by kernel_rfl
      rw [← e]
      exact hmg0
    have T := K05.tx_of KX G c
    obtain ⟨D⟩ := K05.ds_of c
    have e := hmg.symm.trans T.g_law
    cases e
    have b := L2.FunD.bindsA (ps := ["script"]) D.F_law fun _ _ _ _ _ _ us hl => match us, hl with | [_], _ => rfl
    exact ⟨K, D.fd_law, K05P.spLaw K, KX, fun s v => b s [v] rfl, fun H a ns hl hb hS => ⟨a, ns, rfl, hS, fun _ => rfl⟩, fun base _ _ => K05P.ok_law D T⟩
