import PyProof.Rows.All
import Wide.All
import OpenK.AllK
import Wide.FinOn
import KE.KLam
import KE.KNest
import HandS.ForMost
import HandS.ForExc
import HandS.Codes
import HandS.Lambda
import HandS.EndTab
import HandS.ExcIs
import HandS.IsInst
import HandS.Defaults
import HandS.MakeKwOnly
import HandS.Gcd
import HandS.Walk
import HandS.Conv
import HandS.Wide
import HandS.Flow
import Flt.RightSqrt
import HandS.Steps
import HandS.More
import HandS.TupAny
import HandS.Deep
import HandS.Iter
import HandS.ReplaceLit
import HandS.Comp
import PyProof.ToksMono
import KE.GoesEnum
import PyProof.EnumMake
import HandS.AnyAll
import HandS.Style
import HandS.ExcInit
import HandS.Words
import KE.KExcSuper
import HandS.ExcField
import PySem.Challenge.RW_rulerchest_k65_texts_of_reckonings
set_option Elab.async false
set_option linter.all false
set_option maxRecDepth 100000
set_option maxHeartbeats 2000000
/-! An error that an except suite hands to a name of its own stays known behind the try; a helper that calls what it gets and hands the error back. -/
namespace Cau
open PySem PySem.Spec PyProof.Rows L2

/-- the error object at e, of the class c, its own dict d -/
def ErrO (c : Value) (d : Option Addr) (e : Addr) : HO :=
  .ext fun h => ∃ (ob : Obj) (fs : Array Value), h.get? e = some ob ∧ Zc c d ob ∧ ob.data = .fields fs
theorem errO_ok {P : Program} {w : World} {H : Hp} {h : Heap} {e : Addr} {c : Value} {d : Option Addr} {ob : Obj} {fs : Array Value}
    (g : h.get? e = some ob) (z : Zc c d ob) (hf : ob.data = .fields fs) : ObjOk P w H h e (ErrO c d e) :=
  ⟨⟨ob, fs, g, z, hf⟩, ⟨ob, g⟩, fun _ _ ⟨o, f, q, r⟩ k => ⟨o, f, k o q, r⟩⟩

section
variable {X : Cx} {pins : List (Addr × Obj)} {σ : L2.St} {H : Hp} {s : Shared}
/-- an object that was not there at the entry, and that nothing speaks of, is spoken of from now on -/
theorem inv_told {e : Addr} {u : HO} (I : Inv X pins σ H s) (hn : H e = none) (h0 : X.s_0.heap.get? e = none) (ok : ObjOk X.prog X.w (upd H e u) s.heap e u)
    (hL : e ≠ X.env.locals) (hC : ∀ x c, X.env.cells.lookup x = some c → c ≠ e) (hP : ∀ p ∈ X.pn ++ pins, p.1 ≠ e) : Inv X pins σ (upd H e u) s := by
  have more : ∀ b v, H b = some v → upd H e u b = some v := fun b v q => by
    rw [upd_ne (ne_of_none q hn)]; exact q
  have less : ∀ b, b ≠ e → H b = none → upd H e u b = none := fun b hb q => by rw [upd_ne hb]; exact q
  have un : Un X.fs X.ex X.H_0 (upd H e u) X.s_0.heap s.heap :=
    { keep := I.base.keep
      slot := I.base.slot
      free := fun b o q n hx => less b (fun z => by rw [z, h0] at q; cases q) (I.base.free b o q n hx)
      there := I.base.there
      tups := fun b xs q => more _ _ (I.base.tups b xs q)
      frzs := fun b o v q => more _ _ (I.base.frzs b o v q)
      tbls := fun b ps q => by
        obtain ⟨m, r⟩ := I.base.tbls b ps q
        exact ⟨m, more _ _ r⟩ }
  have hok : HOk X.prog X.w (upd H e u) s.heap := fun b v q => by
    by_cases hb : b = e
    · subst hb
      rw [upd_same] at q
      cases q
      exact ok
    · rw [upd_ne hb] at q
      exact (I.hok b v q).stay (fun _ _ _ r => r) (fun _ r => more _ _ r) fun _ _ r => more _ _ r
  exact
    { ok := I.ok, os := I.os, bare := I.bare, base := un, loc := I.loc, cell := I.cell
      free := less _ (Ne.symm hL) I.free
      freeC := fun x c q => less _ (hC x c q) (I.freeC x c q)
      pin := fun p hp => by
        obtain ⟨a1, a2, a3⟩ := I.pin p hp
        exact ⟨a1, less _ (hP p hp) a2, a3⟩
      hok := hok, len := I.len }
end

/-- what the clause «except x as n» (n in slot i) wishes of an error of the body that it always takes: the suite falls through, and behind it the error is told of at its address -/
def wTell (K : PySem.W.Frag) (c : Value) (i : Nat) (ts : Addr → Value → Option Addr → TS) (D : Ends) : WX := fun cls d σ H =>
  PySem.W.exmOne K cls c = some true ∧
    ∀ e, H e = none → ts e cls d { nx := fun σ' H' => D.nx (σ'.set i none) (upd H' e (ErrO cls d e)), rt := fun _ _ => False, bk := fun _ _ => False, ct := fun _ _ => False } (σ.set i (some (.ref e))) H
section
variable {X : Cx} {x n : Str} {c : Value} {i : Nat} {body suite : List Stmt} {st : Stmt} {q1 q2 q3 : Pos} {tb : WX → TS} {ts : Addr → Value → Option Addr → TS}
theorem ps_tryTell (hst : X.stack = X.env :: X.outer) (hfrm : X.env.frame = some X.env.locals) (hnd : X.N.Nodup) (hi : X.N[i]? = some n) (hl : X.env.kindOf n = some .local) (hc : Names X x c) (hex : X.ex = [])
    (hbody : ∀ (W : WX) (pn : List (Addr × Obj)) (xe : Value → Shared → Prop), Takes (X.tr pn xe) W → PSs (X.tr pn xe) body (tb W))
    (hsuite : ∀ (e : Addr) (ob : Obj) (cls : Value) (d : Option Addr) (pn : List (Addr × Obj)), Zc cls d ob → (∃ fs, ob.data = .fields fs) → PSs (X.suite e ((e, ob) :: pn)) (st :: suite) (ts e cls d)) :
    PS X (.Try body [.ExceptHandler (some (.Name x q1)) (some n) (st :: suite) q2] [] [] q3) (fun D σ H => tb (wTell X.K c i ts D) D σ H) := by
  constructor
  intro pins s σ H D I h
  have OK := I.ok
  have frames : X.A.frames = some (X.env :: X.outer) := OK.frames.trans (congrArg some hst)
  apply wpAny_Try_except
  have run := (hbody (wTell X.K c i ts D) (X.pn ++ pins) (fun e s₁ => wpAny (model X.prog X.w) X.A (noteFrame e X.env)
      (fun _ s₂ => wpAny (model X.prog X.w) X.A (setFlight e none)
        (fun _ s₃ => wpAny (model X.prog X.w) X.A (handleBy e X.env [.ExceptHandler (some (.Name x q1)) (some n) (st :: suite) q2]) (SP X pins D) X.xe s₃) X.xe s₂) X.xe s₁) ?takes).run [] s σ H D (I.toTry _) h
  case takes =>
    rintro u s1 ⟨e, B, sI, pins1, σ1, H1, cls, d, rfl, J1, inB, upS, sky, ne, eos, bare, hm, wish⟩
    have J := J1.ofTry OK
    rw [show (X.tr (X.pn ++ pins) _).stack = X.env :: X.outer from hst] at sky
    -- the error is new: it is no object of the ground
    have gone : B.get? e = none := by
      rcases sky with z | z | z
      · exact z.2.1
      · exact z.2.1
      · exact z.2.1
    refine Sky.land Zc.steady frames hfrm sky fun ha fly upA => ?_
    have K1 : Inv X pins σ1 H1 { s1 with heap := ha } := J.landed inB fly.1 (upS.trans upA) eos bare
    obtain ⟨oa, fa, ga, za, da⟩ := fly.there
    have offFrames : e ∉ frs (X.env :: X.outer) := fun hmem => by
      obtain ⟨_, o', g', hno⟩ := fly.2.2.1.mem hmem
      rw [ga] at g'
      cases g'
      exact hno _ da
    have offL : e ≠ X.env.locals := fun z => offFrames (List.mem_filterMap.mpr ⟨X.env, List.mem_cons_self, by rw [hfrm, z]⟩)
    have offF : e ∉ X.fs := fun hmem => by
      obtain ⟨v, hv, q⟩ := List.mem_filterMap.mp hmem
      exact offFrames (List.mem_filterMap.mpr ⟨v, List.mem_cons_of_mem _ hv, q⟩)
    have offStack : e ∉ frs X.stack := by rw [hst]; exact offFrames
    have nowhere : sI.heap.get? e = none := by
      cases q : sI.heap.get? e with
      | none => rfl
      | some o => exact absurd (inB e o q offStack) (by rw [gone]; intro z; cases z)
    have fresh : X.s_0.heap.get? e = none := by
      cases q : X.s_0.heap.get? e with
      | none => rfl
      | some o =>
        obtain ⟨o', q'⟩ := J.base.there e o q (by rw [hex]; intro z; cases z)
        rw [nowhere] at q'
        cases q'
    have offPins : ∀ p ∈ X.pn ++ pins, p.1 ≠ e := fun p hp z => by
      have q := (J.pin p hp).1
      rw [z, nowhere] at q
      cases q
    have S1 := K1.suite ga da ne offL offF
    refine wpAny_handleBy_cons (codeAny_handlers_test ?_) (by intro z; cases z)
    have isOf : PySem.W.Looks (model X.prog X.w) ha (typeOf (.ref e)) cls := fun A Q E t k q => wpAny_typeOf_ref (k _ _ ga) (by rw [za.1]; exact q)
    have takesIt := PySem.W.exm_one (M := model X.prog X.w) K1.kIn isOf hm
    have named : ∀ {Q E : Value → Shared → Prop}, Q c { s1 with heap := ha } → wpAny (model X.prog X.w) (X.A.mark (some (.ref e))) (eval (.Name x q1) X.env) Q E { s1 with heap := ha } := by
      intro Q E q
      obtain ⟨g1, g2, g3⟩ := hc
      rcases g3 with m | ⟨m, v, nn⟩
      · exact ld_glob (X := X.suite e ((e, oa) :: (X.pn ++ pins))) S1 g1 m q g2
      · exact ld_blt (X := X.suite e ((e, oa) :: (X.pn ++ pins))) S1 g1 m v q nn g2
    refine named (takesIt.here (codeAny_handlers_suite_as (HandSPX.lands_againZ fly fun hb flyB upB => ?_)))
    have K2 : Inv X pins σ1 H1 { s1 with heap := hb } := J.landed inB flyB.1 ((upS.trans upA).trans upB) eos bare
    obtain ⟨ob, fb, gb, zb, db⟩ := flyB.there
    have S2 := K2.suite gb db ne offL offF
    refine store_ok (X := X.suite e ((e, ob) :: (X.pn ++ pins))) (v := .ref e) S2 hnd hi (.inl hl) rfl (fun s5 S5 => ?_) (.inr hl)
    refine wpAny_mono ((hsuite e ob cls d (X.pn ++ pins) zb ⟨_, db⟩).run [] s5 _ H1 _ S5 (wish e ne)) (fun fl s6 sp => ?_) (fun _ _ z => z.elim)
    cases fl with
    | next =>
      obtain ⟨σ6, H6, S6, q6⟩ := sp
      obtain ⟨g6, n6, _, _, _⟩ := S6.pin (e, ob) (List.mem_append_left _ List.mem_cons_self)
      have offCells : ∀ y k, X.env.cells.lookup y = some k → k ≠ e := fun y k q z => by
        obtain ⟨v, o, go, dq⟩ := S6.cell y k q
        rw [z, g6] at go
        cases go
        rw [db] at dq
        cases dq
      have T6 : Inv X pins σ6 (upd H6 e (ErrO cls d e)) s6 := inv_told (S6.unsuite OK) n6 fresh (errO_ok g6 zb db) offL offCells offPins
      exact gone_ok T6 hnd hi hl fun s7 T7 => ⟨_, _, T7, q6⟩
    | brk =>
      obtain ⟨_, _, _, z⟩ := sp
      exact z.elim
    | cont =>
      obtain ⟨_, _, _, z⟩ := sp
      exact z.elim
    | ret v =>
      obtain ⟨_, _, _, _, _, z⟩ := sp
      exact z.elim
  refine wpAny_mono run (fun fl s1 sp => ?_) (fun _ _ z => z)
  cases fl with
  | next =>
    obtain ⟨σ', H', J, q⟩ := sp
    exact wpAny_execs_nil ⟨σ', H', J.ofTry OK, q⟩
  | brk =>
    obtain ⟨σ', H', J, q⟩ := sp
    exact ⟨σ', H', J.ofTry OK, q⟩
  | cont =>
    obtain ⟨σ', H', J, q⟩ := sp
    exact ⟨σ', H', J.ofTry OK, q⟩
  | ret v =>
    obtain ⟨y, σ', H', J, r, q⟩ := sp
    exact ⟨y, σ', H', J.ofTry OK, r, q⟩
end

/-! ### the helper: found = None; try: action(); except CLASS as error: found = error; return found -/
/-- its names -/
def cauN : List Str := ["action", "found", "error"]
def cauScope (cl : Str) : Scope :=
  { kind := .function, names := [("action", .local), ("found", .local), ("error", .local), (cl, .globalImplicit)], isGenerator := false, isCoroutine := false, more := [] }
/-- what it hands back: None behind a call that raises nothing, else the error, told of at its address -/
def TCau (K : PySem.W.Frag) (CS : Addr) : (XK → Hp → VK → Prop) → Hp → VK → Prop := fun tl H Q =>
  tl (fun cls d H' => PySem.W.exmOne K cls (.ref CS) = some true ∧ ∀ e, H' e = none → Q (.ref e) (upd H' e (ErrO cls d e))) H fun _ H' => Q .non H'
/-- a wish need not speak of frames of another length -/
theorem takes_len {X : Cx} {W : WX} (tk : Takes X W) : Takes X (fun cls d σ H => σ.length = X.N.length → W cls d σ H) := by
  rintro u s1 ⟨e, B, sI, pins, σ, H, cls, d, a1, I, a2, a3, a4, a5, a6, a7, w⟩
  exact tk u s1 ⟨e, B, sI, pins, σ, H, cls, d, a1, I, a2, a3, a4, a5, a6, a7, w I.len⟩
section
variable {X : Cx} {x q cl : Str} {g CS : Addr} {cdg : Value} {p1 p2 p3 p4 p5 p6 p7 p8 p9 p10 p11 p12 p13 p14 : Pos} {j : Nat}
theorem cau_gives (hme : X.mg cl = some (.ref CS)) (hdb : (cl == ("__debug__" : Str)) = false) (h3 : (cauScope cl).names.lookup cl = some .globalImplicit) :
    LamX.GivesTo X cauN x (cauScope cl) g cdg
      [.Assign [.Name "found" p1] (.Constant .none j p2) p3,
        .Try [.Expr (.Call (.Name "action" p4) [] [] p5) p6] [.ExceptHandler (some (.Name cl p7)) (some "error") [.Assign [.Name "found" p8] (.Name "error" p9) p10] p11] [] [] p12,
        .Return (some (.Name "found" p13)) p14] "action" q (TCau X.K CS) := by
  intro f c' s H Q tl act hc h
  have nd : cauN.Nodup := by decide +kernel
  have go : (cxOf C8.CX0 X.prog X.w X.K X.mg X.base cauN x (cauScope cl) g cdg X.A X.stack s H C8.E0).nox.mg cl = some (.ref CS) := hme
  have gl : Gl (cxOf C8.CX0 X.prog X.w X.K X.mg X.base cauN x (cauScope cl) g cdg X.A X.stack s H C8.E0).nox cl := h3
  refine ⟨_, pss_cons (ps_set (i := 1) nd rfl (.inl rfl) pe_non)
    (pss_cons (ps_tryTell (X := (cxOf C8.CX0 X.prog X.w X.K X.mg X.base cauN x (cauScope cl) g cdg X.A X.stack s H C8.E0).nox) (c := .ref CS) (i := 2)
        (tb := fun W D σ H => ∃ E : XK, (∀ cls d (σ' : L2.St) H', E cls d H' → σ'.length = 3 → W cls d σ' H') ∧ σ[0]? = some (some (.ref f)) ∧ H c' = some (LamX.CodeO c' q) ∧ tl E H fun _ H' => D.nx σ H')
        rfl rfl nd rfl rfl ⟨gl, hdb, .inl go⟩ rfl (fun W pn xe tk => ?_)
        (fun e ob cls d pn _ _ => pss_one (ps_set (i := 1) nd rfl (.inl rfl) (pv 2))))
      (pss_one (ps_ret (pv 1)))), ?_⟩
  · constructor
    intro pins s' σ H' D I h'
    obtain ⟨E, hW, h1, h2, h3⟩ := h'
    exact (pss_one (ps_expr (pos := p6) (act _ pn xe E p4 p5 (takes_len tk) hW))).run pins s' σ H' D I ⟨h1, h2, h3⟩
  · refine ⟨fun cls d H' => PySem.W.exmOne X.K cls (.ref CS) = some true ∧ ∀ e, H' e = none → Q (.ref e) (upd H' e (ErrO cls d e)), fun cls d σ' H' z hl => ⟨z.1, fun e he => ?_⟩, rfl, hc, ?_⟩
    · match σ', hl with
      | [a0, a1, a2], _ => exact ⟨.ref e, rfl, .ref e, rfl, z.2 e he⟩
    · have e1 : (fun (_ : V) (H' : Hp) => Q .non H') = fun (_ : V) (H' : Hp) => ∃ v, ([some (.ref f), some .non, none] : L2.St)[1]? = some (some v) ∧ Q v H' := by
        funext _ H'
        exact propext ⟨fun z => ⟨.non, rfl, z⟩, fun ⟨v, a, z⟩ => by cases a; exact z⟩
      have h' := h
      unfold TCau at h'
      rw [e1] at h'
      exact h'
end

/-! ### isinstance of an error that is told of -/
def rIsErr (K : PySem.W.Frag) (D : Addr) : List V → Hp → VK → Prop := fun xs H Q =>
  ∃ (e : Addr) (c : V) (cv : Value) (b : Bool), xs = [.ref e, c] ∧ H e = some (ErrO (.ref D) none e) ∧ (∀ u, RelV c u → u = cv) ∧ PySem.W.kitOne K (.ref D) cv = some b ∧ Q (.bl b) H
theorem call_isErr {X : Cx} {D : Addr} (C : ExcC X.K D) : CallR X (.builtin "isinstance") (rIsErr X.K D) := by
  intro pins s σ H xs us Q I r ⟨e, c, cv, b, hx, he, hcv, hb, q⟩
  subst hx
  obtain ⟨u1, u2, hu, r1, r2⟩ := vals2 r
  subst hu
  cases (show u1 = Value.ref e from r1)
  cases hcv _ r2
  obtain ⟨⟨⟨oc, od, oda, osl⟩, fs, g, z, hf⟩, _⟩ := I.hok e _ he
  obtain ⟨z1, z2⟩ := z
  simp only at z1 z2 hf
  subst z1 z2 hf
  have at_ : PySem.W.InstAt s.heap e _ D none := ⟨g, rfl, rfl, trivial⟩
  exact PySem.W.kia_one (PySem.W.handS_kitx_exc C.hg C.hk C.hs C.hd C.ha C.hn C.ht C.hm) I.kIn at_ hb (fun z => nomatch z) fun tk => ⟨.bl b, H, I.tok tk, rfl, q⟩

/-! ### a def called by keywords alone -/
def tKw (m : Nat) (sp : Sp) (gV : List V → List V → List V) (E : XK) (tk : TA) : TE := fun σ H Q => tk σ H fun zs H1 => zs.length = m ∧ sp (gV [] zs) H1 Q E
section
variable {X : Cx} {CX : CXT} {k : Nat} {f : Addr} {fd : FuncData} {ps ks : List Str} {sp : Sp} {E : XK} {x : Str} {p pos : Pos} {kws : List Keyword} {tk : TA} {g : List Value → List Value → List Value} {gV : List V → List V → List V}
theorem pe_kw (F : FnOk X.prog X.w X.K X.mg X.base CX k f fd ps sp) (hr : Room k X.A) (hg : Gl X x) (hm : X.mg x = some (.ref f)) (hk : PySem.W.keepIn X.K (.ref f) = true) (hb : KBn X.K fd ps 0 ks g gV) (hx : Passes CX X E) (hkw : PK X kws tk)
    (h1 : (backToKw pos (keywordEach kws X.env)).all (·.1.isSome) = true := by rfl) (h2 : (backToKw pos (keywordEach kws X.env)).filterMap (·.1) = ks := by rfl) (h3 : (x == ("__debug__" : Str)) = false := by decide)
    (h4 : ((backTo pos (starEach [] X.env)).any (·.1) || (backToKw pos (keywordEach kws X.env)).any (·.1.isNone)) = false := by rfl) :
    PE X (.Call (.Name x p) [] kws pos) (tKw ks.length sp gV E tk) := by
  constructor
  intro pins s σ H Q I h
  apply wpAny_Call_Name_kw
  apply ld_glob I hg hm _ h3
  apply PySem.W.callWith_KW0 (h₀ := X.base) I.ok.mod.kin hk h1 _ h4
  refine thn (hkw.run pos pins s σ H _ I h) fun ws s1 hws => ?_
  obtain ⟨zs, H1, I1, rz, hl, q⟩ := hws
  refine ⟨I1.kIn, ?_⟩
  rw [h2]
  exact run_fnN (n := 0) F hr hb hx I1 .nil rz rfl hl q
end
/-! ### math.isqrt of great ints, by the name under which the module has it -/
def rRoot : List V → Hp → VK → Prop := fun vs H Q => ∃ n : Int, vs = [.int n] ∧ 0 ≤ n ∧ n < 2 ^ 250 ∧ ∀ d : Int, 0 ≤ d → d * d ≤ n → n < (d + 1) * (d + 1) → Q (.int d) H
theorem cr_isqrt {X : Cx} : CallR X (.builtin "math.isqrt") rRoot := by
  intro pins s σ H vs us Q I r ⟨n, hv, h0, h1, q⟩
  subst hv
  obtain ⟨u, hu, ru⟩ := r.one
  subst hu
  obtain ⟨t, rfl⟩ := ru
  have hl : n.toNat.log2 ≤ 249 := PySem.W.mg_log (by
    have e : (n.toNat : Int) = n := Int.toNat_of_nonneg h0
    have h2 : (n.toNat : Int) < ((2 ^ 250 : Nat) : Int) := by rw [e]; exact_mod_cast h1
    exact Int.ofNat_lt.mp h2)
  have sp := PySem.Float64.isqrt_spec n.toNat
  have e : (n.toNat : Int) = n := Int.toNat_of_nonneg h0
  refine call_function_meets PySem.W.MGF.kind_isqrt PySem.W.MGF.plain_isqrt PySem.W.MGF.entry_isqrt (PySem.W.MGF.args_isqrt _) (PySem.W.mg_run_isqrt n t (by omega) (by omega) (by omega)).meets ?_
  refine ⟨.int _, H, I.tok _, ⟨_, rfl⟩, q _ (Int.natCast_nonneg _) ?_ ?_⟩
  · rw [← e]
    exact_mod_cast sp.1
  · rw [← e]
    exact_mod_cast sp.2

/-! ### the end of a law row, with the tables of the code objects of the defs xs -/
theorem walk_tabs {l : PySem.W.OpenLaw} {n k : Nat} {q : Program} {loose : List Str} {XP : (Str → Option Value) → Heap → Prop} {YP : World → Heap → Prop} {d : DefRec} {K : PySem.Params → PySem.W.Frag} {CX : World → CXT} {x : Str} {xs : List Str}
    (h1 : l.most = some n) (h2 : n ≤ sizeLine) (h3 : d.params.defaults = []) (hr : Room k callerA) (hrec : (xs.all fun x => (recsOf q).any fun e => e.name == x) = true) (hY : ∀ (w : World) (h : Heap), YP w h → (K w.params).In h)
    (F : ∀ (w : World) (mg : Str → Option Value) (fa : Addr) (h : Heap), YP w h → (K w.params).In h → h.Ns mainGlobals mg → mg d.name = some (.ref fa) →
      (∀ x ∈ xs, ∀ c P : Addr, PySem.W.tabIn (K w.params) x = some (c, P) → PySem.W.CodeHd h c P ∧ h.get? P = some { cls := .none, data := .fields #[] }) → LamX.LawAtS l w (K w.params) (CX w) k n x mg fa h)
    (hCX : ∀ (w : World) (H : Hp) (s : Shared) (e : Value) (s' : Shared), CX w [] H s (fun _ _ _ => False) e s' → False) :
    PySem.W.WalkO q loose XP YP l.row.toRowW d [] (fun f vs => PySem.call f vs) := by
  apply Att.attach_callB h1 h3
  intro w s₀ s₁ mg mb fa o pm cd doc a vs ns G Y ho hd hcd hmg hobj hints hlen hbits hg
  have KX := hY w _ Y
  have tabs : ∀ x ∈ xs, ∀ c P : Addr, PySem.W.tabIn (K w.params) x = some (c, P) → PySem.W.CodeHd s₁.heap c P ∧ s₁.heap.get? P = some { cls := .none, data := .fields #[] } := by
    intro x hx c P ht
    have hany := List.all_eq_true.mp hrec x hx
    have hsome : ((recsOf q).find? fun e => e.name == x).isSome = true := by rw [List.find?_isSome]; exact List.any_eq_true.mp hany
    obtain ⟨dr, hdr⟩ := Option.isSome_iff_exists.mp hsome
    exact PySem.W.tab_of G.T KX hdr ht
  obtain ⟨fd, cs, sp, hT, nT, C, hb, hsp, hF⟩ := F w mg fa _ Y KX G.T.g hmg tabs
  exact LamX.law_callTs KX G.T.g G.T.b G.T.builtins G.T.nolimit hg hT nT C G.T.bmain hobj hints (Nat.le_trans hlen h2) hr hF hb (fun H hH hS => hsp H a ns hlen hbits hH hS) fun H e s' => hCX w H s₁ e s'
end Cau

set_option Elab.async false
set_option linter.all false
set_option maxRecDepth 100000
set_option maxHeartbeats 2000000
namespace Dr65
open PySem PySem.Spec PyProof.Rows L2 Cau
def topS (i : Nat) : Stmt := PySem.Challenge.pw_rulerchest_k65_texts_of_reckonings.main.body.getD i (.Pass ⟨0, 0, 0, 0⟩)
abbrev sBegun : Stmt := topS 30
abbrev sStirred : Stmt := topS 31
abbrev sDraw : Stmt := topS 32
abbrev sPick : Stmt := topS 33
/-! ### heaps -/
theorem same_upd {H : Hp} {p : Addr} {o : HO} (h : H p = none) : Same H (upd H p o) := fun b x e => by
  rw [upd_ne (ne_of_none e h)]
  exact e
/-! ### lists of ints as data -/
theorem canLay_ints : ∀ ns : List Int, PyData.canLayAll0 (ns.map PyData.int) = true
  | [] => by simp [PyData.canLayAll0]
  | n :: r => by simp [PyData.canLayAll0, PyData.canLay0, canLay_ints r]
theorem depth_ints : ∀ ns : List Int, PyData.depthAll (ns.map PyData.int) = 0
  | [] => by simp [PyData.depthAll]
  | n :: r => by simp [PyData.depthAll, PyData.depth, depth_ints r]
theorem shaped_ints (ns : List Int) : SeqAt.shaped (.list (ns.map PyData.int)) = true := by
  unfold SeqAt.shaped
  simp only [PyData.canLay0, PyData.depth, canLay_ints, depth_ints]
  decide
theorem dpAll_ints {K : PySem.W.Frag} {H : Hp} : ∀ ns : List Int, DpAll K H (ns.map V.int) (ns.map PyData.int)
  | [] => .nil
  | n :: r => .cons (.int n) (dpAll_ints r)
theorem dp_ints {K : PySem.W.Frag} {H : Hp} {l : Addr} {ns : List Int} (h : SqL K H l (ns.map V.int)) : Dp K H (.ref l) (.list (ns.map PyData.int)) := .lst h (dpAll_ints ns)
theorem eqv_ints : ∀ xs ys : List Int, PyData.eqv (.list (xs.map PyData.int)) (.list (ys.map PyData.int)) = decide (xs = ys) := by
  have all : ∀ xs ys : List Int, PyData.eqvAll (xs.map PyData.int) (ys.map PyData.int) = decide (xs = ys) := by
    intro xs
    induction xs with
    | nil => intro ys; cases ys <;> simp [PyData.eqvAll]
    | cons x xs ih =>
      intro ys
      cases ys with
      | nil => simp [PyData.eqvAll]
      | cons y ys =>
        simp only [List.map_cons, PyData.eqvAll, PyData.eqv, ih]
        by_cases h1 : x = y <;> by_cases h2 : xs = ys <;> simp [h1, h2]
  intro xs ys
  simp only [PyData.eqv]
  exact all xs ys
/-! ### the state of the draws -/
def stK (w c : Addr) (r t : Int) : List (Key × V) := [(.inr "wide", .ref w), (.inr "cells", .ref c), (.inr "rest", .int r), (.inr "turn", .int t)]
theorem pow18 : CPow 10 18 := ⟨by decide, by decide, by decide⟩
theorem stK_new (w c : Addr) (r t : Int) : mergeK [] (stK w c r t) = stK w c r t := by
  with_unfolding_all rfl
/-- T: at most so many times it was stirred -/
def St (H : Hp) (a w c : Addr) (T : Nat) : Prop := c ≠ w ∧ ∃ (ws cs : List Int) (r t : Int), H a = some (.dK (stK w c r t)) ∧ H w = some (.lst (ws.map V.int)) ∧ H c = some (.lst (cs.map V.int)) ∧ ws.length ≤ 63 ∧ cs.length ≤ 63 ∧ 0 ≤ t ∧ t ≤ T
section
variable {H : Hp} {a w c : Addr} {r t v : Int}
theorem get_wide (h : H a = some (.dK (stK w c r t))) : DGet H a (.str "wide") (some (.ref w)) := by
  have e : valV (stK w c r t) (.inr "wide" : Key) = some (.ref w) := by with_unfolding_all rfl
  exact e ▸ DGet.k (k := (.inr "wide" : Key)) h
theorem get_cells (h : H a = some (.dK (stK w c r t))) : DGet H a (.str "cells") (some (.ref c)) := by
  have e : valV (stK w c r t) (.inr "cells" : Key) = some (.ref c) := by with_unfolding_all rfl
  exact e ▸ DGet.k (k := (.inr "cells" : Key)) h
theorem get_rest (h : H a = some (.dK (stK w c r t))) : DGet H a (.str "rest") (some (.int r)) := by
  have e : valV (stK w c r t) (.inr "rest" : Key) = some (.int r) := by with_unfolding_all rfl
  exact e ▸ DGet.k (k := (.inr "rest" : Key)) h
theorem get_turn (h : H a = some (.dK (stK w c r t))) : DGet H a (.str "turn") (some (.int t)) := by
  have e : valV (stK w c r t) (.inr "turn" : Key) = some (.int t) := by with_unfolding_all rfl
  exact e ▸ DGet.k (k := (.inr "turn" : Key)) h
theorem put_rest (h : H a = some (.dK (stK w c r t))) : DPut H a (.str "rest") (.int v) (upd H a (.dK (stK w c v t))) := by
  have e : putK (stK w c r t) (.inr "rest" : Key) (.int v) = stK w c v t := by with_unfolding_all rfl
  exact e ▸ DPut.k (k := (.inr "rest" : Key)) (v := .int v) h (by show 4 < sizeLine; decide)
theorem put_turn (h : H a = some (.dK (stK w c r t))) : DPut H a (.str "turn") (.int v) (upd H a (.dK (stK w c r v))) := by
  have e : putK (stK w c r t) (.inr "turn" : Key) (.int v) = stK w c r v := by with_unfolding_all rfl
  exact e ▸ DPut.k (k := (.inr "turn" : Key)) (v := .int v) h (by show 4 < sizeLine; decide)
end
def spBegun (K : PySem.W.Frag) : Sp := fun vs H Q _ => ∃ (a : Addr) (ns : List Int), vs = [.ref a] ∧ SqL K H a (ns.map V.int) ∧ ns.length ≤ 63 ∧
  ∀ (H' : Hp) (p w c : Addr), Same H H' → H p = none → H w = none → H c = none → p ≠ w → p ≠ c → w ≠ c → St H' p w c 0 → Q (.ref p) H'
section
variable {P : Program} {w : World} {K : PySem.W.Frag} {mg : Str → Option Value} {base : Heap}
theorem scB : FnScope ["script", "wide", "cell"] ["script"] (defScope sBegun) := ⟨rfl, rfl, rfl, by decide +kernel, rfl, by decide +kernel, by decide +kernel⟩
theorem ok_begun {f : Addr} {fd : FuncData} (F : Fun K "_law_begun" "_law_begun" sBegun f fd) (mabs : mg "abs" = none) : FnOk P w K mg base CX0 1 f fd ["script"] (spBegun K) := by
  refine F.ok scB (fun vs H Q E h => ?_) (fun cdv A outer s H vs Q E hr h => ?_)
  · obtain ⟨a, ns, rfl, _⟩ := h
    rfl
  · obtain ⟨a, ns, rfl, hS, hlen, q⟩ := h
    refine ⟨_, pss_cons (ps_setLc (i := 1) (own := [("cell", 2)]) (g := gName 2) rfl scB.nd rfl rfl (sw_true rfl rfl rfl (by decide +kernel)) (pi_list (pv 0))
        (blkOk_by (own := [("cell", 2)]) (N := ["script", "wide", "cell"]) (sc := defScope sBegun) (by decide +kernel))
        (fun _ _ _ _ _ => pg_name (i := 2) scB.nd rfl (.inl rfl))
        (fun _ _ _ _ _ => pts_one (pt_cmpR op_ge (pe_callB call_abs (by rfl) mabs (by decide +kernel) (pa_cons (pv 2) pa_nil)) (pe_op op_pow pe_int pe_int) (nomark _)))
        (fun _ _ _ _ _ => pe_op op_sub (pe_callB call_abs (by rfl) mabs (by decide +kernel) (pa_cons (pv 2) pa_nil)) (pe_op op_pow pe_int pe_int)))
      (pss_one (ps_ret (pe_disp (pps_cons pe_str (pv 1) (pps_cons pe_str
          (pe_lc (own := [("cell", 2)]) (g := gName 2) (tt := tYes) rfl scB.nd (pi_list (pv 0))
            (blkOk_by (own := [("cell", 2)]) (N := ["script", "wide", "cell"]) (sc := defScope sBegun) (by decide +kernel))
            (fun _ _ _ _ _ => pg_name (i := 2) scB.nd rfl (.inl rfl)) (fun _ _ _ _ _ => pts_nil)
            (fun _ _ _ _ _ => pe_callB call_abs (by rfl) mabs (by decide +kernel) (pa_cons (pv 2) pa_nil)))
          (pps_cons pe_str pe_int (pps_cons pe_str pe_int pps_nil)))) (by rfl) (by rfl) (fun z => by cases z) (by decide)))), ?_⟩
    refine ⟨.ref a, rfl, a, rfl, ⟨_, hS⟩, fun w nw => ?_⟩
    have get : ∀ (i : Nat) (x : V), (ns.map V.int)[i]? = some x → ∃ n, x = V.int n := fun i x hx => by
      rw [List.getElem?_map] at hx
      cases e : ns[i]? with
      | none => rw [e] at hx; cases hx
      | some z => rw [e] at hx; exact ⟨z, (Option.some.inj hx).symm⟩
    refine lc_list (K := K) (a := a) (xs := ns.map V.int) (fun i H1 => ∃ ws : List Int, H1 = upd H w (.lst (ws.map V.int)) ∧ ws.length ≤ i) ⟨[], rfl, Nat.le_refl _⟩ ?_ ?_ ?_
    · rintro i H1 _ ⟨ws, rfl, _⟩
      exact (same_upd nw).seq hS
    · rintro i x H1 hx ⟨ws, rfl, hl⟩
      obtain ⟨n, rfl⟩ := get i x hx
      have hi : i < ns.length := by
        have := (List.getElem?_eq_some_iff.mp hx).1
        rwa [List.length_map] at this
      refine ⟨rfl, .int n, rfl, n, rfl, 10, 18, rfl, rfl, pow18, _, _, rfl, rfl, _, rfl, ?_⟩
      refine ite2 (fun _ => ?_) (fun _ => ⟨ws, rfl, by omega⟩)
      refine ⟨.int n, rfl, n, rfl, 10, 18, rfl, rfl, pow18, _, _, rfl, rfl, _, upd_same, ?_, ?_⟩
      · rw [List.length_map]; exact small1000 (by omega)
      · exact ⟨ws ++ [(if n < 0 then -n else n) - 10 ^ 18], by rw [upd_upd, List.map_append]; rfl, by rw [List.length_append]; simp; omega⟩
    · rintro H1 ⟨ws, rfl, hl⟩
      rw [List.length_map] at hl
      intro p np
      have npw : p ≠ w := fun z => by rw [z, upd_same] at np; cases np
      have s1 : Same H (upd H w (.lst (ws.map V.int))) := same_upd nw
      have s2 : Same H (upd (upd H w (.lst (ws.map V.int))) p (.dK [])) := s1.trans (same_upd np)
      refine ⟨.ref w, rfl, .ref a, rfl, a, rfl, ⟨_, s2.seq hS⟩, fun c nc => ?_⟩
      refine lc_list (K := K) (a := a) (xs := ns.map V.int) (fun i H1 => ∃ cs : List Int, H1 = upd (upd (upd H w (.lst (ws.map V.int))) p (.dK [])) c (.lst (cs.map V.int)) ∧ cs.length ≤ i) ⟨[], rfl, Nat.le_refl _⟩ ?_ ?_ ?_
      · rintro i H1 _ ⟨cs, rfl, _⟩
        exact (s2.trans (same_upd nc)).seq hS
      · rintro i x H1 hx ⟨cs, rfl, hl⟩
        obtain ⟨n, rfl⟩ := get i x hx
        have hi : i < ns.length := by
          have := (List.getElem?_eq_some_iff.mp hx).1
          rwa [List.length_map] at this
        refine ⟨rfl, .int n, rfl, n, rfl, _, upd_same, ?_, ?_⟩
        · rw [List.length_map]; exact small1000 (by omega)
        · exact ⟨cs ++ [(if n < 0 then -n else n)], by rw [upd_upd, List.map_append]; rfl, by rw [List.length_append]; simp; omega⟩
      · rintro H1 ⟨cs, rfl, hl2⟩
        rw [List.length_map] at hl2
        have ncp : c ≠ p := fun z => by rw [z, upd_same] at nc; cases nc
        have ncw : c ≠ w := fun z => by rw [z, upd_ne npw.symm, upd_same] at nc; cases nc
        have nc0 : H c = none := by rw [upd_ne ncp, upd_ne ncw] at nc; exact nc
        have np0 : H p = none := by rw [upd_ne npw] at np; exact np
        refine ⟨by rw [upd_ne ncp.symm, upd_same], stK w c 0 0, rfl, by show 4 ≤ 15; decide, ?_⟩
        refine q _ p w c (fun b o e => ?_) np0 nw nc0 npw ncp.symm ncw.symm ⟨ncw, ws, cs, 0, 0, ?_, ?_, ?_, by omega, by omega, by omega, by omega⟩
        · rw [upd_ne (ne_of_none e np0), upd_ne (ne_of_none e nc0), upd_ne (ne_of_none e np0), upd_ne (ne_of_none e nw)]
          exact e
        · rw [upd_same, stK_new]
        · rw [upd_ne npw.symm, upd_ne ncw.symm, upd_ne npw.symm, upd_same]
        · rw [upd_ne ncp, upd_same]
/-- but the state and its list nothing is changed -/
def Kept (a w : Addr) (H H' : Hp) : Prop := ∀ b o, H b = some o → b ≠ a → b ≠ w → H' b = some o
theorem Kept.trans {a w : Addr} {H H1 H2 : Hp} (x : Kept a w H H1) (y : Kept a w H1 H2) : Kept a w H H2 := fun b o e h1 h2 => y b o (x b o e h1 h2) h1 h2
def spStirred : Sp := fun vs H Q _ => ∃ (a w c : Addr) (T : Nat), vs = [.ref a] ∧ St H a w c T ∧ T ≤ 1000000 ∧
  ∀ (H' : Hp) (d : Int), (∀ b o, H b = some o → b ≠ a → H' b = some o) → St H' a w c (T + 1) → (∀ r t, H a = some (.dK (stK w c r t)) → ∃ t', H' a = some (.dK (stK w c r t'))) → Q (.int d) H'
theorem scS : FnScope ["state", "turn", "found", "prime", "blend", "cell"] ["state"] (defScope sStirred) := ⟨rfl, rfl, rfl, by decide +kernel, rfl, by decide +kernel, by decide +kernel⟩
def primes : List Int := [2147483647, 2147483629, 2147483587, 2147483579]
theorem ok_stirred {f : Addr} {fd : FuncData} (F : Fun K "_law_stirred" "_law_stirred" sStirred f fd) (mint : mg "int" = none) : FnOk P w K mg base CX0 1 f fd ["state"] spStirred := by
  refine F.ok scS (fun vs H Q E h => ?_) (fun cdv A outer s H vs Q E hr h => ?_)
  · obtain ⟨a, w, c, T, rfl, _⟩ := h
    rfl
  · obtain ⟨a, w, c, T, rfl, hSt, hT, q⟩ := h
    have hu := hu_of hr
    refine ⟨_, pss_cons (ps_par (i := 1) (j := 2) rfl scS.nd rfl rfl (by decide) rfl rfl (pa_cons (pe_op op_add (pe_dget hu (pv 0) pe_str (fun _ _ => rfl)) pe_int) (pa_cons pe_int pa_nil)) (by rfl))
      (pss_cons (ps_dput hu (pv 0) pe_str (pv 1) rfl)
      (pss_cons (ps_for PassesOwn.never rfl (pi_list (pe_lst (pa_cons pe_int (pa_cons pe_int (pa_cons pe_int (pa_cons pe_int pa_nil)))))) (pg_name (i := 3) scS.nd rfl (.inl rfl))
        (pss_cons (ps_set (i := 4) scS.nd rfl (.inl rfl) (pe_op op_add (pe_op op_mul pe_int (pv 1)) (pe_op op_fdiv (pv 3) pe_int)))
        (pss_cons (ps_for PassesOwn.never rfl (pi_list (pe_dget hu (pv 0) pe_str (fun _ _ => rfl))) (pg_name (i := 5) scS.nd rfl (.inl rfl))
          (pss_one (ps_set (i := 4) scS.nd rfl (.inl rfl) (pe_op op_modN (pe_callTy call_int1 (by rfl) mint (by decide +kernel) (pa_cons (pe_op op_add (pe_op op_add (pe_op op_mul (pv 4) pe_int) (pv 5)) (pv 1)) pa_nil)) (pv 3)))))
        (pss_one (ps_set (i := 2) scS.nd rfl (.inl rfl) (pe_op op_add (pe_op op_mul (pv 2) pe_int) (pe_op op_modN (pe_callTy call_int1 (by rfl) mint (by decide +kernel) (pa_cons (pe_op op_pow (pv 4) pe_int) pa_nil)) (pv 3))))))))
      (pss_one (ps_ret (pv 2))))), ?_⟩
    obtain ⟨ncw, ws, cs, r, t, hA, hW, hC, hwl, hcl, ht0, htT⟩ := hSt
    refine ⟨.ref a, rfl, a, _, rfl, get_turn hA, t, 1, rfl, rfl, _, _, rfl, ?_⟩
    refine ⟨_, rfl, .ref a, rfl, a, _, rfl, put_turn hA, ?_⟩
    refine ⟨by show 4 ≤ sizeLine; decide, fun l nl => ?_⟩
    have nla : a ≠ l := fun z => by rw [← z, upd_same] at nl; cases nl
    have nlc : c ≠ l := fun z => by rw [← z, upd_ne, hC] at nl
                                    · cases nl
                                    · exact ne_of hC hA (by intro z; cases z)
    have nlw : w ≠ l := fun z => by rw [← z, upd_ne, hW] at nl
                                    · cases nl
                                    · exact ne_of hW hA (by intro z; cases z)
    have nca : c ≠ a := ne_of hC hA (by intro z; cases z)
    have nwa : w ≠ a := ne_of hW hA (by intro z; cases z)
    obtain ⟨H2, hH2⟩ : ∃ H2, H2 = upd (upd H a (.dK (stK w c r (t + 1)))) l (.lst (primes.map V.int)) := ⟨_, rfl⟩
    have A2 : H2 a = some (.dK (stK w c r (t + 1))) := by rw [hH2, upd_ne nla, upd_same]
    have W2 : H2 w = some (.lst (ws.map V.int)) := by rw [hH2, upd_ne nlw, upd_ne nwa]; exact hW
    have C2 : H2 c = some (.lst (cs.map V.int)) := by rw [hH2, upd_ne nlc, upd_ne nca]; exact hC
    have L2' : H2 l = some (.lst (primes.map V.int)) := by rw [hH2, upd_same]
    refine ⟨l, rfl, ⟨_, .inl (.inl upd_same)⟩, for_list (K := K) (a := l) (xs := primes.map V.int) (fun i σ H3 => ∃ (fd : Int) (y3 y4 y5 : Option V), σ = [some (.ref a), some (.int (t + 1)), some (.int fd), y3, y4, y5] ∧ H2 = H3) ⟨0, none, none, none, rfl, hH2⟩ ?_ ?_ ?_⟩
    · rintro i σ H3 _ ⟨_, _, _, _, _, rfl⟩
      exact .inl (.inl L2')
    · rintro i x σ H3 hx ⟨fd, y3, y4, y5, rfl, rfl⟩
      obtain ⟨pr, rfl, hp0, hp1⟩ : ∃ pr : Int, x = V.int pr ∧ 0 < pr ∧ pr < 2147483648 := by
        rw [List.getElem?_map] at hx
        cases e : primes[i]? with
        | none => rw [e] at hx; cases hx
        | some z =>
          rw [e] at hx
          have hm := List.mem_of_getElem? e
          have all : ∀ z ∈ primes, 0 < z ∧ z < 2147483648 := by decide
          exact ⟨z, (Option.some.inj hx).symm, all z hm⟩
      refine ⟨_, rfl, 48271, t + 1, rfl, rfl, .inl ⟨by decide, by decide⟩, _, rfl, _, 37, rfl, rfl, ⟨by decide, by decide⟩, _, _, rfl, rfl, ?_⟩
      refine ⟨.ref a, rfl, a, _, rfl, get_cells A2, c, rfl, ⟨_, .inl (.inl C2)⟩, for_list (K := K) (a := c) (xs := cs.map V.int) (fun i σ H3 => ∃ (bl : Int) (y5 : Option V), σ = [some (.ref a), some (.int (t + 1)), some (.int fd), some (.int pr), some (.int bl), y5] ∧ H2 = H3 ∧ bl.natAbs < 2 ^ 40) ⟨_, y5, rfl, rfl, ?_⟩ ?_ ?_ ?_⟩
      · show (48271 * (t + 1) + pr / 37).natAbs < 1099511627776
        omega
      · rintro i σ H3 _ ⟨_, _, _, rfl, _⟩
        exact .inl (.inl C2)
      · rintro i x σ H3 hx ⟨bl, y5, rfl, rfl, hbl⟩
        obtain ⟨n, rfl⟩ : ∃ n, x = V.int n := by
          rw [List.getElem?_map] at hx
          cases e : cs[i]? with
          | none => rw [e] at hx; cases hx
          | some z => rw [e] at hx; exact ⟨z, (Option.some.inj hx).symm⟩
        refine ⟨_, rfl, bl, 69621, rfl, rfl, .inr ⟨by decide, by decide⟩, _, rfl, _, n, rfl, rfl, _, rfl, _, t + 1, rfl, rfl, .inl ⟨_, rfl, ?_⟩⟩
        have hm1 : 0 ≤ (bl * 69621 + n + (t + 1)).fmod pr := Int.fmod_nonneg_of_pos _ hp0
        have hm2 : (bl * 69621 + n + (t + 1)).fmod pr < pr := Int.fmod_lt_of_pos _ hp0
        refine ⟨_, rfl, _, pr, rfl, rfl, by omega, _, some (.int n), rfl, rfl, ?_⟩
        show _ < 1099511627776
        omega
      · rintro σ H3 ⟨bl, y5, rfl, rfl, hbl⟩
        have hbl' : bl.natAbs < 1099511627776 := hbl
        refine ⟨_, rfl, fd, 2147483563, rfl, rfl, .inr ⟨by decide, by decide⟩, _, rfl, bl, 5, rfl, rfl, ⟨by decide, by decide, ?_⟩, .inl ⟨_, rfl, _, rfl, _, pr, rfl, rfl, by omega, _, _, rfl, rfl, ?_⟩⟩
        · show bl.natAbs < 18446744073709551616
          omega
        · exact ⟨_, _, _, _, rfl, rfl⟩
    · rintro σ H3 ⟨fd, y3, y4, y5, rfl, rfl⟩
      refine ⟨_, rfl, q H2 fd (fun b o e hb => ?_) ⟨ncw, ws, cs, r, t + 1, A2, W2, C2, hwl, hcl, by omega, by omega⟩ fun r' t' e => ?_⟩
      · have hbl : b ≠ l := fun z => by
          rw [z] at e hb
          rw [upd_ne hb, e] at nl
          cases nl
        rw [hH2, upd_ne hbl, upd_ne hb]
        exact e
      · rw [hA] at e
        obtain ⟨e1, e2⟩ : r = r' ∧ t = t' := by
          have e := HO.dK.inj (Option.some.inj e)
          unfold stK at e
          simp at e
          exact e
        exact ⟨t + 1, by rw [← e1]; exact A2⟩
/-- a draw: some d, 0 ≤ d < z -/
def spDraw : Sp := fun vs H Q _ => ∃ (a w c : Addr) (T : Nat) (z : Int), vs = [.ref a, .int z] ∧ St H a w c T ∧ T ≤ 1000000 ∧ 0 < z ∧ z.natAbs < 2 ^ 1000 ∧
  ∀ (H' : Hp) (d : Int), 0 ≤ d → d < z → Kept a w H H' → St H' a w c (T + 1) → Q (.int d) H'
theorem scD : FnScope ["state", "size", "found"] ["state", "size"] (defScope sDraw) := ⟨rfl, rfl, rfl, by decide +kernel, rfl, by decide +kernel, by decide +kernel⟩
theorem ok_draw {f fS : Addr} {fd fdS : FuncData} (F : Fun K "_law_draw" "_law_draw" sDraw f fd) (FS : Fun K "_law_stirred" "_law_stirred" sStirred fS fdS) (bS : Binds K fdS ["state"] []) (gS : mg "_law_stirred" = some (.ref fS)) (mint : mg "int" = none) :
    FnOk P w K mg base CX0 2 f fd ["state", "size"] spDraw := by
  have GS : FnOk P w K mg base CX0 1 fS fdS ["state"] spStirred := ok_stirred FS mint
  refine F.ok scD (fun vs H Q E h => ?_) (fun cdv A outer s H vs Q E hr h => ?_)
  · obtain ⟨a, w, c, T, z, rfl, _⟩ := h
    rfl
  · obtain ⟨a, w, c, T, z, rfl, hSt, hT, hz, hzb, q⟩ := h
    have hu := hu_of hr
    refine ⟨_, pss_cons (ps_if (pt_cmpR op_eq (pe_dget hu (pv 0) pe_str (fun _ _ => rfl)) pe_int (nomark _))
        (pss_one (ps_dput hu (pv 0) pe_str (pe_ifExp (pt_cmpR (op_neD hr.units) (pe_dget hu (pv 0) pe_str (fun _ _ => rfl)) (pe_lst pa_nil) (nomark _))
          (pe_bm PySem.F.plainAttrs_list PySem.F.slot_list_pop PySem.F.type_list_pop mt_popAt (pe_dget hu (pv 0) pe_str (fun _ _ => rfl)) (pa_cons pe_int pa_nil))
          (pe_call GS hr (by rfl) gS FS.kp bS .nil pass0 (pa_cons (pv 0) pa_nil))) rfl)) pss_nil)
      (pss_cons (ps_set (i := 2) scD.nd rfl (.inl rfl) (pe_op op_modN (pe_callTy call_int1 (by rfl) mint (by decide +kernel) (pa_cons (pe_dget hu (pv 0) pe_str (fun _ _ => rfl)) pa_nil)) (pv 1)))
      (pss_cons (ps_dput hu (pv 0) pe_str (pe_op op_fdivW (pe_dget hu (pv 0) pe_str (fun _ _ => rfl)) (pv 1)) rfl)
      (pss_one (ps_ret (pv 2))))), ?_⟩
    obtain ⟨ncw, ws, cs, r, t, hA, hW, hC, hwl, hcl, ht0, htT⟩ := hSt
    have nca : c ≠ a := ne_of hC hA (by intro z; cases z)
    have nwa : w ≠ a := ne_of hW hA (by intro z; cases z)
    have zdiv : CDivW r z → True := fun _ => trivial
    have cdiv : ∀ r1 : Int, CDivW r1 z := fun r1 => wide_div hz hzb (by decide) (by decide)
    have fin : ∀ (H1 : Hp) (ws1 : List Int) (r1 t1 : Int), H1 a = some (.dK (stK w c r1 t1)) → H1 w = some (.lst (ws1.map V.int)) → H1 c = some (.lst (cs.map V.int)) → ws1.length ≤ 63 → 0 ≤ t1 → t1 ≤ (T + 1 : Nat) → Kept a w H H1 →
        Q (.int (r1.fmod z)) (upd H1 a (.dK (stK w c (r1 / z) t1))) := fun H1 ws1 r1 t1 h1 h2 h3 h4 h5 h6 h7 =>
      q _ _ (Int.fmod_nonneg_of_pos _ hz) (Int.fmod_lt_of_pos _ hz) (fun b o e n1 n2 => by rw [upd_ne n1]; exact h7 b o e n1 n2)
        ⟨ncw, ws1, cs, r1 / z, t1, upd_same, by rw [upd_ne nwa]; exact h2, by rw [upd_ne nca]; exact h3, h4, hcl, h5, h6⟩
    refine ⟨.ref a, rfl, a, _, rfl, get_rest hA, rfl, _, rfl, ite2 (fun _ => ?_) (fun _ => ?_)⟩
    · refine ⟨.ref a, rfl, a, _, rfl, get_wide hA, Nat.zero_le _, fun l nl => ?_⟩
      have nal : a ≠ l := ne_of_none hA nl
      have nwl : w ≠ l := ne_of_none hW nl
      have ncl : c ≠ l := ne_of_none hC nl
      have A1 : (upd H l (.lst [])) a = some (.dK (stK w c r t)) := by rw [upd_ne nal]; exact hA
      have W1 : (upd H l (.lst [])) w = some (.lst (ws.map V.int)) := by rw [upd_ne nwl]; exact hW
      have C1 : (upd H l (.lst [])) c = some (.lst (cs.map V.int)) := by rw [upd_ne ncl]; exact hC
      have K1 : Kept a w H (upd H l (.lst [])) := fun b o e _ _ => by rw [upd_ne (ne_of_none e nl)]; exact e
      refine ⟨_, _, dp_ints (.inl (.inl W1)), dp_ints (ns := []) (.inl (.inl upd_same)), shaped_ints ws, shaped_ints [], _, rfl, ?_⟩
      rw [eqv_ints ws []]
      cases ws with
      | nil =>
        refine iteF ?_
        refine ⟨.ref a, rfl, a, w, c, T, rfl, ⟨ncw, [], cs, r, t, A1, W1, C1, hwl, hcl, ht0, htT⟩, hT, fun H2 d k2 s2 _ => ?_⟩
        obtain ⟨_, ws2, cs2, r2, t2, A2, W2, C2, hwl2, hcl2, ht2, htT2⟩ := s2
        have W2' : H2 w = some (.lst (([] : List Int).map V.int)) := k2 w _ W1 nwa
        have C2' : H2 c = some (.lst (cs.map V.int)) := k2 c _ C1 nca
        refine ⟨.ref a, rfl, a, _, rfl, put_rest A2, ?_⟩
        refine ⟨.ref a, rfl, a, _, rfl, get_rest upd_same, .inl ⟨_, rfl, _, rfl, d, z, rfl, rfl, by omega, ?_⟩⟩
        refine ⟨.ref a, rfl, a, _, rfl, get_rest upd_same, _, rfl, d, z, rfl, rfl, cdiv d, .ref a, rfl, a, _, rfl, put_rest upd_same, _, rfl, ?_⟩
        refine fin _ [] d t2 upd_same (by rw [upd_ne nwa]; exact W2') (by rw [upd_ne nca]; exact C2') (by simp) ht2 htT2 fun b o e n1 n2 => ?_
        rw [upd_ne n1]
        exact k2 b o (K1 b o e n1 n2) n1
      | cons n ws =>
        refine iteT ?_
        refine ⟨.ref a, rfl, a, _, rfl, get_wide A1, .inl ⟨rfl, _, .inl (.inl W1)⟩, ?_⟩
        refine ⟨w, _, 0, 0, .int n, rfl, rfl, W1, by decide, by decide, by simp [seqIndex?], rfl, ?_⟩
        have A2 : (upd (upd H l (.lst [])) w (.lst (ws.map V.int))) a = some (.dK (stK w c r t)) := by rw [upd_ne nwa.symm]; exact A1
        refine ⟨.ref a, rfl, a, _, rfl, put_rest A2, ?_⟩
        refine ⟨.ref a, rfl, a, _, rfl, get_rest upd_same, .inl ⟨_, rfl, _, rfl, n, z, rfl, rfl, by omega, ?_⟩⟩
        refine ⟨.ref a, rfl, a, _, rfl, get_rest upd_same, _, rfl, n, z, rfl, rfl, cdiv n, .ref a, rfl, a, _, rfl, put_rest upd_same, _, rfl, ?_⟩
        refine fin _ ws n t upd_same (by rw [upd_ne nwa]; exact upd_same) (by rw [upd_ne nca, upd_ne ncw]; exact C1) (by simp at hwl; omega) ht0 (by omega) fun b o e n1 n2 => ?_
        rw [upd_ne n1, upd_ne n2]
        exact K1 b o e n1 n2
    · refine ⟨.ref a, rfl, a, _, rfl, get_rest hA, .inl ⟨_, rfl, _, rfl, r, z, rfl, rfl, by omega, ?_⟩⟩
      refine ⟨.ref a, rfl, a, _, rfl, get_rest hA, _, rfl, r, z, rfl, rfl, cdiv r, .ref a, rfl, a, _, rfl, put_rest hA, _, rfl, ?_⟩
      exact fin _ ws r t hA hW hC hwl ht0 (by omega) fun b o e _ _ => e
end
end Dr65

set_option Elab.async false
set_option linter.all false
set_option maxRecDepth 100000
set_option maxHeartbeats 2000000
/-! General pieces: values as data, heaps, the state of the draws, lambdas. -/
namespace R0
open PySem PySem.Spec PyProof.Rows L2 Cau Dr65
abbrev sCaught : Stmt := topS 34
theorem cau_here {X : Cx} {q : Str} {g CS : Addr} {cdg : Value} (hme : X.mg "RulerError" = some (.ref CS)) : LamX.GivesTo X cauN "_law_caught" (defScope sCaught) g cdg (defBody sCaught) "action" q (TCau X.K CS) :=
  cau_gives hme (by decide +kernel) rfl
theorem scCau : FnScope cauN ["action"] (defScope sCaught) := ⟨rfl, rfl, rfl, by decide +kernel, rfl, by decide +kernel, by decide +kernel⟩
section
variable {P : Program} {w : World} {K : PySem.W.Frag} {mg : Str → Option Value} {base : Heap}
theorem iteT2 {c : Bool} {a b : Prop} (hc : c = true) (h : a) : if c = true then a else b := by rw [hc]; exact h
theorem iteF2 {c : Bool} {a b : Prop} (hc : c = false) (h : b) : if c = true then a else b := by rw [hc]; exact h
end
theorem canLay_strs : ∀ xs : List Str, (∀ x ∈ xs, PyData.strOk x = true) → PyData.canLayAll0 (xs.map PyData.str) = true
  | [], _ => by simp [PyData.canLayAll0]
  | x :: r, h => by simp [PyData.canLayAll0, PyData.canLay0, h x List.mem_cons_self, canLay_strs r fun y hy => h y (List.mem_cons_of_mem _ hy)]
theorem depth_strs : ∀ xs : List Str, PyData.depthAll (xs.map PyData.str) = 0
  | [] => by simp [PyData.depthAll]
  | n :: r => by simp [PyData.depthAll, PyData.depth, depth_strs r]
theorem shaped_strs {xs : List Str} (h : ∀ x ∈ xs, PyData.strOk x = true) : SeqAt.shaped (.list (xs.map PyData.str)) = true := by
  unfold SeqAt.shaped
  simp only [PyData.canLay0, PyData.depth, canLay_strs xs h, depth_strs]
  decide
theorem dpAll_strs {K : PySem.W.Frag} {H : Hp} : ∀ xs : List Str, DpAll K H (xs.map V.str) (xs.map PyData.str)
  | [] => .nil
  | n :: r => .cons (.str n) (dpAll_strs r)
theorem dp_strs {K : PySem.W.Frag} {H : Hp} {l : Addr} {xs : List Str} (h : SqL K H l (xs.map V.str)) : Dp K H (.ref l) (.list (xs.map PyData.str)) := .lst h (dpAll_strs xs)
theorem dp_nil {K : PySem.W.Frag} {H : Hp} {l : Addr} (h : H l = some (.lst [])) : Dp K H (.ref l) (.list []) := .lst (.inl (.inl h)) .nil
theorem shaped_nil : SeqAt.shaped (.list []) = true := by decide
theorem eqv_nil {α : Type} (f : α → PyData) : ∀ xs : List α, PyData.eqv (.list (xs.map f)) (.list []) = xs.isEmpty
  | [] => rfl
  | x :: r => by simp [PyData.eqv, PyData.eqvAll]
section
variable {K : PySem.W.Frag} {H H' : Hp} {v : V} {p : Addr} {xs : List V}
theorem sqT_ty (h : SqT K H p xs) : TyX K H (.ref p) (.type "tuple") := by
  rcases h with (h | ⟨o, h⟩) | ⟨o, its, n, h, c, _⟩
  · exact .base (.tup h)
  · exact .fTuple h
  · exact .kTuple h c
theorem sqL_ty (h : SqL K H p xs) : TyX K H (.ref p) (.type "list") := by
  rcases h with (h | ⟨o, h⟩) | ⟨o, its, n, h, c, _⟩
  · exact .base (.lst h)
  · exact .base (.frz h)
  · exact .kList h c
theorem sqT_same (h : SqT K H p xs) (s : Same H H') : SqT K H' p xs := by
  rcases h with (h | ⟨o, h⟩) | h
  · exact .inl (.inl (s _ _ h))
  · exact .inl (.inr ⟨o, s _ _ h⟩)
  · exact .inr h
theorem same_rfl : Same H H := fun _ _ e => e
theorem same_put {H H' : Hp} {D : Addr} {o : HO} (s : Same H H') (n : H D = none) : Same H (upd H' D o) := fun b u e => by
  rw [upd_ne (ne_of_none e n)]
  exact s b u e
end
theorem not_whole (v : V) (r : List V) (hi : Option Int) : ¬ (HT.sIx (v :: r).length 0 (some 1) = 0 ∧ HT.sIx (v :: r).length (v :: r).length hi = (v :: r).length) := by
  rintro ⟨z1, _⟩
  have e1 : HT.sIx ((v :: r).length) 0 (some ((1 : Nat) : Int)) = min 1 (v :: r).length := HT.sIx_nat _ _ _
  have e2 : min 1 (v :: r).length = 1 := by simp
  have z2 : HT.sIx ((v :: r).length) 0 (some ((1 : Nat) : Int)) = 0 := z1
  omega
def SqX (K : PySem.W.Frag) (H : Hp) (p : Addr) (xs : List V) : Prop := SqL K H p xs ∨ SqT K H p xs
theorem SqX.same {K : PySem.W.Frag} {H H' : Hp} {p : Addr} {xs : List V} (h : SqX K H p xs) (s : Same H H') : SqX K H' p xs := by
  rcases h with h | h
  · exact .inl (s.seq h)
  · exact .inr (sqT_same h s)
def SeqAt (K : PySem.W.Frag) (a : Addr) (xs : List V) (R : It → Hp → Prop) (H1 : Hp) : Prop :=
  (SqL K H1 a xs ∧ ∀ J : It, Walk J xs.length (fun H => SqL K H a xs) (YAt xs) → R J H1) ∨ (SqT K H1 a xs ∧ ∀ J : It, Walk J xs.length (fun H => SqT K H a xs) (YAt xs) → R J H1)
theorem seq_of {K : PySem.W.Frag} {a : Addr} {xs : List V} {R : It → Hp → Prop} {H0 H1 : Hp} (h : SqX K H0 a xs) (s : Same H0 H1) (q : ∀ (J : It) (G : Hp → Prop), Walk J xs.length G (YAt xs) → (∀ H', Same H0 H' → G H') → R J H1) : SeqAt K a xs R H1 := by
  rcases h with h | h
  · exact .inl ⟨s.seq h, fun J w => q J _ w fun H' s' => s'.seq h⟩
  · exact .inr ⟨sqT_same h s, fun J w => q J _ w fun H' s' => sqT_same h s'⟩
def iSeq (K : PySem.W.Frag) (tl : TE) : TI := fun σ H R => tl σ H fun x H1 => ∃ a xs, x = .ref a ∧ SeqAt K a xs R H1
theorem pi_seq {X : Cx} {tg l : Expr} {tl : TE} (hl : PE X l tl) : PI X tg l (iSeq X.K tl) := by
  constructor
  intro pins s σ H R I h
  refine thn (hl.run pins s σ H _ I h) ?_
  rintro v s1 ⟨x, H1, I1, r1, a, xs, ex, hq⟩
  subst ex
  cases r1
  rcases hq with ⟨hq, q⟩ | ⟨hq, q⟩
  · obtain ⟨its, rv, p, hz⟩ := I1.list hq
    exact wpAny_pyIter_list p.isList (pi_one (tk := s1.toks) I1 _ (turn_list a _) ⟨_, Heap.get?_push_size _ rfl, rfl, rfl⟩ (q _ walk_list))
  · obtain ⟨its, rv, p, hz⟩ := I1.tuple hq
    exact wpAny_pyIter_tuple (show s1.heap.IsTuple a its.toArray from p) (pi_one (tk := s1.toks) I1 _ (turn_tuple a _) ⟨_, Heap.get?_push_size _ rfl, rfl, rfl⟩ (q _ walk_tup))
theorem seqL_kept {K : PySem.W.Frag} {H H' : Hp} {a w p : Addr} {xs : List V} (h : SqL K H p xs) (k : Kept a w H H') (h1 : p ≠ a) (h2 : p ≠ w) : SqL K H' p xs := by
  rcases h with (h | ⟨o, h⟩) | h
  · exact .inl (.inl (k _ _ h h1 h2))
  · exact .inl (.inr ⟨o, k _ _ h h1 h2⟩)
  · exact .inr h
theorem seqT_kept {K : PySem.W.Frag} {H H' : Hp} {a w p : Addr} {xs : List V} (h : SqT K H p xs) (k : Kept a w H H') (h1 : p ≠ a) (h2 : p ≠ w) : SqT K H' p xs := by
  rcases h with (h | ⟨o, h⟩) | h
  · exact .inl (.inl (k _ _ h h1 h2))
  · exact .inl (.inr ⟨o, k _ _ h h1 h2⟩)
  · exact .inr h
theorem St.mono {H : Hp} {a w c : Addr} {T T' : Nat} (h : St H a w c T) (l : T ≤ T') : St H a w c T' := by
  obtain ⟨h0, ws, cs, r, t, h1, h2, h3, h4, h5, h6, h7⟩ := h
  exact ⟨h0, ws, cs, r, t, h1, h2, h3, h4, h5, h6, by omega⟩
theorem St.same {H H' : Hp} {a w c : Addr} {T : Nat} (h : St H a w c T) (k : Same H H') : St H' a w c T := by
  obtain ⟨h0, ws, cs, r, t, h1, h2, h3, h4⟩ := h
  exact ⟨h0, ws, cs, r, t, k _ _ h1, k _ _ h2, k _ _ h3, h4⟩
theorem Kept.of {a w : Addr} {H H' : Hp} (k : Same H H') : Kept a w H H' := fun b o e _ _ => k b o e
theorem St.off {H : Hp} {a w c l : Addr} {T : Nat} (h : St H a w c T) (n : H l = none) : l ≠ a ∧ l ≠ w ∧ l ≠ c := by
  obtain ⟨_, ws, cs, r, t, h1, h2, h3, _⟩ := h
  exact ⟨(ne_of_none h1 n).symm, (ne_of_none h2 n).symm, (ne_of_none h3 n).symm⟩
theorem St.put {H : Hp} {a w c l : Addr} {T : Nat} {o : HO} (h : St H a w c T) (n : l ≠ a ∧ l ≠ w ∧ l ≠ c) : St (upd H l o) a w c T := by
  obtain ⟨h0, ws, cs, r, t, h1, h2, h3, h4⟩ := h
  exact ⟨h0, ws, cs, r, t, (upd_ne n.1.symm).trans h1, (upd_ne n.2.1.symm).trans h2, (upd_ne n.2.2.symm).trans h3, h4⟩
theorem kept_none {a w b : Addr} {H H' : Hp} (k : Kept a w H H') (h : H' b = none) (n : b ≠ a ∧ b ≠ w) : H b = none := by
  cases e : H b with
  | none => rfl
  | some o => rw [k b o e n.1 n.2] at h; cases h
theorem Kept.put {a w l : Addr} {H H' : Hp} {o : HO} (k : Kept a w H H') (n : H l = none) : Kept a w H (upd H' l o) := fun b x e h1 h2 => by
  rw [upd_ne (ne_of_none e n)]
  exact k b x e h1 h2
theorem pow1000 {n : Nat} (h : n ≤ 1000) : (n : Int).natAbs < 2 ^ 1000 := Nat.lt_of_lt_of_le (show (n : Int).natAbs < 2 ^ 10 by omega) (Nat.pow_le_pow_right (by decide) (by decide))
theorem len_erase {α : Type} : ∀ (l : List α) (j : Nat), j < l.length → (l.eraseIdx j).length + 1 = l.length
  | a :: r, 0, _ => rfl
  | a :: r, j + 1, h => by
    rw [List.eraseIdx_cons_succ, List.length_cons, List.length_cons, len_erase r j (Nat.lt_of_succ_lt_succ h)]
theorem map_erase {α β : Type} (f : α → β) : ∀ (l : List α) (j : Nat), (l.map f).eraseIdx j = (l.eraseIdx j).map f
  | [], _ => rfl
  | a :: r, 0 => rfl
  | a :: r, j + 1 => by
    rw [List.map_cons, List.eraseIdx_cons_succ, List.eraseIdx_cons_succ, List.map_cons, map_erase f r j]
theorem perm_erase {α : Type} : ∀ (l : List α) (j : Nat) (h : j < l.length), (l[j] :: l.eraseIdx j).Perm l
  | a :: r, 0, _ => List.Perm.refl _
  | a :: r, j + 1, h => by
    rw [List.getElem_cons_succ, List.eraseIdx_cons_succ]
    exact (List.Perm.swap a _ _).trans ((perm_erase r j (Nat.lt_of_succ_lt_succ h)).cons a)
def TK (K : PySem.W.Frag) (H H' : Hp) : Prop := ∀ q xs, SqT K H q xs → SqT K H' q xs
theorem TK.trans {K : PySem.W.Frag} {H H1 H2 : Hp} (x : TK K H H1) (y : TK K H1 H2) : TK K H H2 := fun q xs h => y q xs (x q xs h)
theorem TK.of {K : PySem.W.Frag} {H H' : Hp} (s : Same H H') : TK K H H' := fun q xs h => sqT_same h s
theorem TK.put {K : PySem.W.Frag} {H : Hp} {l : Addr} {zs : List V} {o : HO} (e : H l = some (.lst zs)) : TK K H (upd H l o) := fun q xs h => by
  rcases h with (h | ⟨u, h⟩) | h
  · have n : q ≠ l := fun z => by rw [z, e] at h; cases h
    exact .inl (.inl ((upd_ne n).trans h))
  · have n : q ≠ l := fun z => by rw [z, e] at h; cases h
    exact .inl (.inr ⟨u, (upd_ne n).trans h⟩)
  · exact .inr h
theorem TK.kept {K : PySem.W.Frag} {H H' : Hp} {a w c : Addr} {T : Nat} (s : St H a w c T) (k : Kept a w H H') : TK K H H' := fun q xs h => by
  obtain ⟨_, ws, cs, r, t, h1, h2, _⟩ := s
  rcases h with (h | ⟨u, h⟩) | h
  · exact .inl (.inl (k _ _ h (fun z => by rw [z, h1] at h; cases h) (fun z => by rw [z, h2] at h; cases h)))
  · exact .inl (.inr ⟨u, k _ _ h (fun z => by rw [z, h1] at h; cases h) (fun z => by rw [z, h2] at h; cases h)⟩)
  · exact .inr h
theorem pe_weak {X : Cx} {e : Expr} {t t' : TE} (h : PE X e t) (k : ∀ σ H Q, t' σ H Q → t σ H Q) : PE X e t' := ⟨fun pins s σ H Q I q => h.run pins s σ H Q I (k σ H Q q)⟩
section
variable {K : PySem.W.Frag} {a w c l p : Addr} {T : Nat} {H H1 H2 H' : Hp} {o : HO} {xs zs : List V} {TT : List (Addr × Str)}
def KeptN (a w : Addr) (H H' : Hp) : Prop := ∀ b o, H b = some o → (∀ ps, o ≠ .tbl ps) → b ≠ a → b ≠ w → H' b = some o
theorem KeptN.refl : KeptN a w H H := fun _ _ e _ _ _ => e
theorem KeptN.trans (x : KeptN a w H H1) (y : KeptN a w H1 H2) : KeptN a w H H2 := fun b o e n h1 h2 => y b o (x b o e n h1 h2) n h1 h2
theorem KeptN.of (k : Kept a w H H') : KeptN a w H H' := fun b o e _ h1 h2 => k b o e h1 h2
theorem KeptN.same (s : Same H H') : KeptN a w H H' := fun b o e _ _ _ => s b o e
theorem KeptN.ext (s : LamX.ExtN H H') : KeptN a w H H' := fun b o e n _ _ => s b o e n
theorem KeptN.put (k : KeptN a w H H') (n : H l = none) : KeptN a w H (upd H' l o) := fun b x e hn h1 h2 => by
  have z : b ≠ l := fun z => by rw [z, n] at e; cases e
  rw [upd_ne z]
  exact k b x e hn h1 h2
theorem KeptN.lst (k : KeptN a w H H') (h : H p = some (.lst xs)) (n : p ≠ a ∧ p ≠ w) : H' p = some (.lst xs) := k _ _ h (fun _ z => by cases z) n.1 n.2
theorem KeptN.seqL (k : KeptN a w H H') (h : SqL K H p xs) (n : p ≠ a ∧ p ≠ w) : SqL K H' p xs := by
  rcases h with (h | ⟨o, h⟩) | h
  · exact .inl (.inl (k _ _ h (fun _ z => by cases z) n.1 n.2))
  · exact .inl (.inr ⟨o, k _ _ h (fun _ z => by cases z) n.1 n.2⟩)
  · exact .inr h
theorem KeptN.tk (k : KeptN a w H H') (s : St H a w c T) : TK K H H' := fun q xs h => by
  obtain ⟨_, ws, cs, r, t, h1, h2, _⟩ := s
  rcases h with (h | ⟨u, h⟩) | h
  · exact .inl (.inl (k _ _ h (fun _ z => by cases z) (fun z => by rw [z, h1] at h; cases h) (fun z => by rw [z, h2] at h; cases h)))
  · exact .inl (.inr ⟨u, k _ _ h (fun _ z => by cases z) (fun z => by rw [z, h1] at h; cases h) (fun z => by rw [z, h2] at h; cases h)⟩)
  · exact .inr h
theorem St.ext (h : St H a w c T) (e : LamX.ExtN H H') : St H' a w c T := by
  obtain ⟨h0, ws, cs, r, t, h1, h2, h3, h4⟩ := h
  exact ⟨h0, ws, cs, r, t, e _ _ h1 (fun _ z => by cases z), e _ _ h2 (fun _ z => by cases z), e _ _ h3 (fun _ z => by cases z), h4⟩
theorem tk_ext (e : LamX.ExtN H H') : TK K H H' := fun q xs h => by
  rcases h with (h | ⟨u, h⟩) | h
  · exact .inl (.inl (e _ _ h (fun _ z => by cases z)))
  · exact .inl (.inr ⟨u, e _ _ h (fun _ z => by cases z)⟩)
  · exact .inr h
theorem tabs_kept (t : LamX.Tabs TT H) (s : St H a w c T) (k : Kept a w H H') : LamX.Tabs TT H' := fun p hp => by
  obtain ⟨_, ws, cs, r, t0, h1, h2, _⟩ := s
  obtain ⟨ps, e1, e2, e3⟩ := t p hp
  refine ⟨ps, k _ _ e1 (fun z => by rw [z, h1] at e1; cases e1) (fun z => by rw [z, h2] at e1; cases e1), e2, fun pos cv hc => ?_⟩
  obtain ⟨d, f1, f2⟩ := e3 pos cv hc
  refine ⟨d, f1, k _ _ f2 (fun z => ?_) (fun z => ?_)⟩
  · rw [z, h1] at f2
    cases f2
  · rw [z, h2] at f2
    cases f2
theorem tabs_put (t : LamX.Tabs TT H) (e : H l = some (.lst zs)) : LamX.Tabs TT (upd H l o) := fun p hp => by
  obtain ⟨ps, e1, e2, e3⟩ := t p hp
  refine ⟨ps, (upd_ne fun z => by rw [z, e] at e1; cases e1).trans e1, e2, fun pos cv hc => ?_⟩
  obtain ⟨d, f1, f2⟩ := e3 pos cv hc
  refine ⟨d, f1, (upd_ne fun z => ?_).trans f2⟩
  rw [z, e] at f2
  cases f2
theorem tabs_same (t : LamX.Tabs TT H) (s : Same H H') : LamX.Tabs TT H' := t.ext s
end
theorem cut_take (xs : List V) (n : Nat) (h : n ≤ xs.length) : cutV xs none (some (n : Int)) = xs.take n := by
  unfold cutV
  rw [HT.sIx_none, HT.sIx_nat, List.drop_zero, Nat.min_eq_left h, Nat.sub_zero]
theorem cut_drop (xs : List V) (n : Nat) (h : n ≤ xs.length) : cutV xs (some (n : Int)) none = xs.drop n := by
  unfold cutV
  rw [HT.sIx_none, HT.sIx_nat, Nat.min_eq_left h, List.take_of_length_le]
  rw [List.length_drop]
  omega
theorem pe_cau {X : Cx} {T : List (Addr × Str)} {fC CR c Pt : Addr} {k : Nat} {odC anC : Option Addr} {oslC : Array (Option Value)} {kVC docC pmC ctC ocC cdvC dVC : Value} {params : Arguments} {body : Expr} {scope : Scope} {p lpos pos : Pos} {t : XK → TE}
    (lkC : X.K.lookup fC = some ⟨ocC, odC, .func (PySem.W.fnOf "_law_caught" "_law_caught" (defArgs sCaught) (defBody sCaught) (defScope sCaught) dVC kVC docC pmC anC cdvC ctC), oslC⟩) (hcdC : PySem.W.codeIn X.K cdvC "_law_caught" = true) (kC : PySem.W.keepIn X.K (.ref fC) = true)
    (bC : Binds X.K (PySem.W.fnOf "_law_caught" "_law_caught" (defArgs sCaught) (defBody sCaught) (defScope sCaught) dVC kVC docC pmC anC cdvC ctC) ["action"] []) (gC : X.mg "_law_caught" = some (.ref fC)) (gRE : X.mg "RulerError" = some (.ref CR))
    (TB : LamX.TabB X.base X.mg c Pt) (hcode : X.env.code = .ref c) (hmT : (Pt, X.env.qual ++ "<lambda>") ∈ T) (huT : ∀ p ∈ T, p.1 = Pt → p.2 = X.env.qual ++ "<lambda>") (hr : Room (k + 2) X.A) (hg : Gl X "_law_caught") (L : LamX.LamS X.env.scope scope) (hdef : defaultsOf params X.env = ([], []))
    (hbind : ∀ (q : Str) (cl : List (Str × Addr)) (pm cv ctv : Value), bindArgs (PySem.W.kla_fn "<lambda>" q params body scope cl pm cv ctv) ⟨[], []⟩ = pure [])
    (hbody : ∀ (A : Around) (outer : List Env) (s : Shared) (H : Hp) (E : XK) (f c' : Addr), Room k (A.deeper (LamX.lamEnv X scope s.heap.objs.size f c')) → PE (LamX.lamCx X A outer s H E scope f c') body (t E)) :
    PE X (.Call (.Name "_law_caught" p) [.Lambda params body scope lpos] [] pos) (LamX.tLam T (TCau X.K CR) t) :=
  LamX.pe_lamcall hg gC kC lkC hcdC bC scCau rfl (.inl rfl) (cau_here gRE) TB hcode hmT huT hr L hdef hbind hbody
theorem ps_weak {X : Cx} {s : Stmt} {t t' : TS} (h : PS X s t) (k : ∀ D σ H, t' D σ H → t D σ H) : PS X s t' := ⟨fun pins st σ H D I q => h.run pins st σ H D I (k D σ H q)⟩
theorem passN {X : Cx} : Passes (L2.CX X.prog X.w) X E0 := passes_call (W := fun _ _ _ _ => False) takes0 (fun _ _ _ _ h => h)
theorem blkOk_any {N : List Str} {sc sc' scope : Scope} {own : List (Str × Nat)} (h : BlkOk N sc' scope own) (hf : (scope.names.all fun y => match y.2 with | .free => false | _ => true) = true) : BlkOk N sc scope own :=
  ⟨h.kind, h.uniq, h.ix, fun y hy e => absurd (List.all_eq_true.mp hf y hy) (by rw [e]; exact Bool.false_ne_true), h.own⟩
theorem seqL_ext' {K : PySem.W.Frag} {H H' : Hp} {p : Addr} {xs : List V} (h : SqL K H p xs) (e : LamX.ExtN H H') : SqL K H' p xs := by
  rcases h with (h | ⟨o, h⟩) | h
  · exact .inl (.inl (e _ _ h (fun _ z => by cases z)))
  · exact .inl (.inr ⟨o, e _ _ h (fun _ z => by cases z)⟩)
  · exact .inr h
theorem show_bool (b : Bool) : (PyData.bool b).showable = true ∧ (PyData.bool b).hasDict = false ∧ (PyData.bool b).depth ≤ 60 ∧ (PyData.bool b).shown.length ≤ sizeLine := by cases b <;> decide +kernel
theorem canLay_tup {xs : List Str} (h : ∀ x ∈ xs, PyData.strOk x = true) : (PyData.tuple (xs.map PyData.str)).canLay0 = true := by
  have := canLay_strs xs h
  simpa [PyData.canLay0] using this
abbrev sPickS : Stmt := sPick
def spPick (K : PySem.W.Frag) : Sp := fun vs H Q _ => ∃ (a w c p : Addr) (T : Nat) (xs : List V), vs = [.ref a, .ref p] ∧ St H a w c T ∧ T ≤ 1000000 ∧ SqL K H p xs ∧ p ≠ a ∧ p ≠ w ∧ 0 < xs.length ∧ xs.length ≤ 1000 ∧
  ∀ (H' : Hp) (x : V), x ∈ xs → Kept a w H H' → St H' a w c (T + 1) → Q x H'
section
variable {P : Program} {w : World} {K : PySem.W.Frag} {mg : Str → Option Value} {base : Heap}
theorem scP : FnScope ["state", "some"] ["state", "some"] (defScope sPick) := ⟨rfl, rfl, rfl, by decide +kernel, rfl, by decide +kernel, by decide +kernel⟩
theorem ok_pick {f fD : Addr} {fd fdD : FuncData} (F : Fun K "_law_pick" "_law_pick" sPick f fd) (FD : Fun K "_law_draw" "_law_draw" sDraw fD fdD) (GD : FnOk P w K mg base CX0 2 fD fdD ["state", "size"] spDraw) (bD : Binds K fdD ["state", "size"] []) (gD : mg "_law_draw" = some (.ref fD)) (mlen : mg "len" = none) :
    FnOk P w K mg base CX0 3 f fd ["state", "some"] (spPick K) := by
  refine F.ok scP (fun vs H Q E h => ?_) (fun cdv A outer s H vs Q E hr h => ?_)
  · obtain ⟨a, w, c, p, T, xs, rfl, _⟩ := h
    rfl
  · obtain ⟨a, w, c, p, T, xs, rfl, hSt, hT, hS, npa, npw, hl0, hl1, q⟩ := h
    refine ⟨_, pss_one (ps_ret (pe_ix ix_list (pv 1) (pe_call GD hr (by rfl) gD FD.kp bD .nil pass0 (pa_cons (pv 0) (pa_cons (pe_callB call_len_seq (by rfl) mlen PySem.boot_len (pa_cons (pv 1) pa_nil)) pa_nil))) (fun _ _ => rfl))), ?_⟩
    refine ⟨_, rfl, _, rfl, _, rfl, p, xs, rfl, .inl hS, a, w, c, T, _, rfl, hSt, hT, by omega, pow1000 hl1, fun H' d h0 h1 k s' => ?_⟩
    obtain ⟨j, rfl⟩ : ∃ j : Nat, d = (j : Int) := ⟨d.toNat, by omega⟩
    have hd : j < xs.length := by omega
    exact ⟨p, xs, j, xs[j], rfl, rfl, seqL_kept hS k npa npw, atI_nat (List.getElem?_eq_getElem hd), q H' _ (List.getElem_mem _) k s'⟩
end
end R0

set_option Elab.async false
set_option linter.all false
set_option maxRecDepth 100000
set_option maxHeartbeats 2000000
/-! Where a token is known to be out: stores, defs, calls, tests and a list comprehension. -/
namespace Tk
open PySem PySem.Spec PyProof.Rows L2 CwR

theorem thnK {α : Type} {t : Sem α} {Q Q' : α → Shared → Prop} {M : Model} {A : Around} {E : Value → Shared → Prop} {s : Shared} {n : Nat} (hn : n ≤ s.toks) (h : wpAny M A t Q E s)
    (hQ : ∀ a s', n ≤ s'.toks → Q a s' → Q' a s') : wpAny M A t Q' E s :=
  wpAny_mono (wpAny_toks_of hn h) (fun a s' z => hQ a s' z.1 z.2) fun _ _ z => z.2
theorem wp_tok1 {α : Type} {M : Model} {Γ : PySem.Ctx} (t : Sem α) (Q : α → Pos → Shared → Prop) (E : Value → Pos → Shared → Prop) (p : Pos) (s : Shared) (h0 : 1 ≤ s.toks) (h : Sem.wp M Γ t Q E p s) : Sem.wp M Γ t (fun a p' s' => 1 ≤ s'.toks ∧ Q a p' s') E p s :=
  Sem.wp_mono M Γ t (fun _ _ _ z => z) (fun _ _ _ z => z.2) p s (Sem.wp_toks M Γ 1 t Q E p s h0 h)
/-- a store into a frame makes a token -/
theorem nsSet_tok {M : Model} {A : Around} {E : Value → Shared → Prop} {s : Shared} {a : Addr} {x : Str} {v : Value} {Q : Unit → Shared → Prop} (h : wpAny M A (nsSet a x v) Q E s) :
    wpAny M A (nsSet a x v) (fun u s' => 1 ≤ s'.toks ∧ Q u s') E s := by
  intro Γ p hΓ
  have g := h Γ p hΓ
  unfold nsSet at g ⊢
  rw [Sem.wp_bind'] at g ⊢
  refine Sem.wp_mono M Γ _ (fun hsh p1 s1 q => ?_) (fun _ _ _ z => z.2) _ _ (Sem.wp_toks M Γ s.toks _ _ _ p s (Nat.le_refl _) g)
  obtain ⟨-, q⟩ := q
  rw [Sem.wp_bind'] at q ⊢
  have q' : Sem.wp M Γ _ _ _ p1 { s1 with toks := s1.toks + 1 } := q
  have fin := Sem.wp_mono M Γ _ (fun y p2 s2 z => wp_tok1 _ _ _ _ _ z.1 z.2) (fun _ _ _ z => z) _ _ (wp_tok1 _ _ _ p1 { s1 with toks := s1.toks + 1 } (Nat.le_add_left _ _) q')
  exact fin
theorem store_tok {M : Model} {A : Around} {E : Value → Shared → Prop} {s : Shared} {env : Env} {x : Str} {v : Value} {Q : Unit → Shared → Prop} (hl : env.kindOf x = some .local) (hk : env.scope.kind = .function)
    (h : wpAny M A (storeName env x v) Q E s) : wpAny M A (storeName env x v) (fun u s' => 1 ≤ s'.toks ∧ Q u s') E s := by
  have hp : (env.scope.kind == .class || (env.scope.kind == .module && env.locals != env.globals)) = false := by rw [hk]; rfl
  rw [storeName_local hl hp] at h ⊢
  exact nsSet_tok h
section
variable {X : Cx} {rest : List Stmt} {u : TS}
/-- name = value, the name a local: behind it a token is out -/
theorem pss_setT {i : Nat} {x : Str} {e : Expr} {te : TE} {pos' pos : Pos} (hN : X.N.Nodup) (hi : X.N[i]? = some x) (hx : X.env.scope.names.lookup x = some .local) (he : PE X e te) (h2 : PSsT X rest u)
    (hs : swapsWith e (some (.Name x pos')) pos.line X.env = pure false := by rfl) : PSs X (.Assign [.Name x pos'] e pos :: rest) (tSeq (tAsg te (gName i)) u) := by
  constructor
  intro pins s σ H D I h
  apply wpAny_execs_cons
  refine wpAny_Assign_Name (thn (he.run pins s σ H _ I h) fun v s1 q => ?_) hs
  obtain ⟨y, H1, I1, r1, q1⟩ := q
  refine wpAny_mono (store_tok hx I1.ok.kind (store_ok (Q := fun _ s2 => Inv X pins (σ.set i (some y)) H1 s2) I1 hN hi (.inl hx) r1 (fun _ I2 => I2) (.inr hx))) (fun _ s2 q => ?_) fun _ _ z => z
  exact h2 pins s2 _ H1 D q.1 q.2 q1
end

/-! ### tests -/
def PTT (X : Cx) (e : Expr) (t : TT) : Prop :=
  ∀ (pins : List (Addr × Obj)) (s : Shared) (σ : L2.St) (H : Hp) (Q : Bool → Hp → Prop), Inv X pins σ H s → 1 ≤ s.toks → t σ H Q → wpAny (model X.prog X.w) X.A (isTrue e X.env (eval e X.env)) (TP X pins σ Q) X.xe s
/-- whatever stands around it -/
def PWT (X : Cx) (e : Expr) (t : TT) : Prop :=
  ∀ (wh : Sem Value) (pins : List (Addr × Obj)) (s : Shared) (σ : L2.St) (H : Hp) (Q : Bool → Hp → Prop), Inv X pins σ H s → 1 ≤ s.toks → t σ H Q → wpAny (model X.prog X.w) X.A (isTrue e X.env wh) (TP X pins σ Q) X.xe s
section
variable {X : Cx} {a b : Expr} {ta tb : TE} {t u : TT} {more : List Expr} {pos : Pos}
theorem ptt_of (h : PT X a t) : PTT X a t := fun pins s σ H Q I _ q => h.run pins s σ H Q I q
theorem ptt_wh (h : PWT X a t) : PTT X a t := h _
theorem ptt_val (h : PET X a ta) (he : ∀ whole, isTrue a X.env whole = (do let v ← whole; standAt a.pos; holding [v] (truthy v)) := by intro _; rfl) : PTT X a (tB ta) := by
  intro pins s σ H Q I h0 hw
  refine isTrue_plain (thn (h pins s σ H _ h0 I hw) fun v s1 q => ?_) (he _)
  obtain ⟨x, H1, I1, r1, d, e, q1⟩ := q
  subst e
  cases r1
  exact wpAny_truthy_bool ⟨H1, I1, q1⟩
theorem ptt_not (h : PTT X a t) : PTT X (.UnaryOp .Not a pos) (tNot t) := fun pins s σ H Q I h0 hw => isTrue_not (h pins s σ H (fun c H1 => Q (!c) H1) I h0 hw)
theorem ptt_cmp {op : CmpOp} {r : R2} (ho : OpR X (compareOp op) r) (ha : PET X a ta) (hb : PE X b tb) (hm : behindInMarks op b = false) : PTT X (.Compare a [op] [b] pos) (tTest (tOp r ta tb)) := by
  intro pins s σ H Q I h0 hw
  refine wpAny_isTrue_Compare1 (thn (ha pins s σ H _ h0 I hw) fun v s1 q => ?_) hm
  obtain ⟨x, H1, I1, r1, q1⟩ := q
  refine thn (hb.run pins s1 σ H1 _ I1 q1) fun v2 s2 q => ?_
  obtain ⟨y, H2, I2, r2, q2⟩ := q
  refine thn (ho pins s2 σ H2 x y v v2 _ I2 r1 r2 q2) fun c s3 q => ?_
  obtain ⟨z, H3, I3, r3, k, e, q3⟩ := q
  subst e
  cases r3
  exact wpAny_truthy_bool ⟨H3, I3, q3⟩
theorem pwt_or1 (h : PTT X a t) : PWT X (.BoolOp .Or [a] pos) t := by
  intro wh pins s σ H Q I h0 hw
  apply isTrue_or
  refine thn (h pins s σ H Q I h0 hw) fun c s1 q => ?_
  cases c
  · exact isTrue_or_nil q
  · exact q
theorem pwt_or (h : PTT X a t) (h2 : PWT X (.BoolOp .Or (b :: more) pos) u) : PWT X (.BoolOp .Or (a :: b :: more) pos) (tOr t u) := by
  intro wh pins s σ H Q I h0 hw
  apply isTrue_or
  refine thnK h0 (h pins s σ H _ I h0 hw) fun c s1 hk q => ?_
  obtain ⟨H1, I1, q1⟩ := q
  cases c
  · exact h2 wh pins s1 σ H1 Q I1 hk q1
  · exact ⟨H1, I1, q1⟩
theorem pst_ifT {l r : List Stmt} {tl tr : TS} (hc : PTT X a t) (hl : PSs X l tl) (hr : PSs X r tr) : PST X (.If a l r pos) (tIfS t tl tr) := by
  intro pins s σ H D h0 I hw
  apply wpAny_If
  refine thn (hc pins s σ H _ I h0 hw) fun d s1 q => ?_
  obtain ⟨H1, I1, q1⟩ := q
  cases d
  · exact hr.run pins s1 σ H1 D I1 q1
  · exact hl.run pins s1 σ H1 D I1 q1
end

/-! ### defs that want a token out -/
structure FnT (P : Program) (w : World) (K : PySem.W.Frag) (mg : Str → Option Value) (base : Heap) (CX : CXT) (k : Nat) (f : Addr) (fd : FuncData) (ps : List Str) (sp : Sp) : Prop where
  arity : ∀ vs H Q E, sp vs H Q E → vs.length = ps.length
  goes : ∀ (A : Around), Room k A → ∀ (outer : List Env) (s : Shared) (H : Hp), 1 ≤ s.toks → Env0 P w K mg base A outer s H → ∀ (args : Args) (us : List Value) (vs : List V), BindsTo s fd args (ps.zip us) → Vals vs us →
    ∀ (Q : VK) (E : XK), sp vs H Q E → codeAny (model P w) A (.call (.ref f) args) (CR CX outer P w H s Q E) s
section
variable {P : Program} {w : World} {K : PySem.W.Frag} {mg : Str → Option Value} {base : Heap} {CX : CXT} {k : Nat} {f : Addr} {fd : FuncData} {ps : List Str} {sp : Sp}
theorem okT {x qual : Str} {st : Stmt} {N : List Str} (F : Fun K x qual st f fd) (S : FnScope N ps (defScope st)) (len : ∀ vs H Q E, sp vs H Q E → vs.length = ps.length)
    (hbody : ∀ (cdv : Value) (A : Around) (outer : List Env) (s : Shared) (H : Hp) (vs : List V) (Q : VK) (E : XK), Room k (A.deeper (envOfC qual (defScope st) s.heap.objs.size f cdv)) → sp vs H Q E →
      ∃ t, PSsT (cxOf CX0 P w K mg base N qual (defScope st) f cdv A outer s H E) (defBody st) t ∧ t { nx := fun _ H' => Q .non H', rt := Q } (start N vs) H) : FnT P w K mg base CX0 (k + 1) f fd ps sp := by
  obtain ⟨_, _, _, _, _, _, cdv, _, _, rfl, lk, hcd⟩ := F.ex
  refine ⟨len, fun A hr outer s H h0 e0 args us vs hb r Q E h => ?_⟩
  have KX : K.In s.heap := e0.mod.kin.keeps fun b o e => (e0.bs b o e).1
  have kinds : ∀ y ∈ ps.zip us, (defScope st).names.lookup y.1 = some .local ∨ ((defScope st).names.lookup y.1 = some .cell ∧ ((cellsFrom (s.heap.objs.size + 1) (defScope st).names []).lookup y.1).isSome = true) := by
    intro y hy
    obtain ⟨n, v⟩ := y
    exact (S.par n (List.of_mem_zip hy).1).imp id fun q => ⟨q, PySem.W.cellsFrom_some _ _ _ (.inl q)⟩
  refine codeAny_call_function hr.depth (KX _ _ lk) rfl S.co S.gen rfl (PySem.W.codeRec_of KX hcd) (hb _ _ _ _ ?_)
  refine wpAny_with_toks h0 (wpAny_newFunctionEnv_cells S.kind kinds fun env he s1 x h1 => ?_)
  subst he
  obtain ⟨t, ht, q⟩ := hbody cdv A outer s H vs Q E (hr.deeper _) h
  refine ⟨(e0.mod.nolimit.keeps fun b o e => (e0.bs b o e).1).keeps x.toInCall.keep, codeAny_func ?_⟩
  have I := inv_start (CX := CX0) (P := P) (w := w) (cd := cdv) (H := H) (outer := outer) (E := E) S hr.hd e0 (len _ _ _ _ h) r x
  refine wpAny_mono (ht [] s1 _ H _ h1 I q) (fun fl s' hs => ?_) fun _ _ z => z
  cases fl with
  | ret v =>
    obtain ⟨y, σ', H', J, rv, q'⟩ := hs
    exact ⟨y, H', J.os, J.bare, J.base, J.hok, rv, q'⟩
  | next =>
    obtain ⟨σ', H', J, q'⟩ := hs
    exact ⟨V.non, H', J.os, J.bare, J.base, J.hok, rfl, q'⟩
  | brk => exact False.elim (hs.elim fun _ z => z.elim fun _ z => z.2)
  | cont => exact False.elim (hs.elim fun _ z => z.elim fun _ z => z.2)
end
section
variable {X : Cx} {CX : CXT} {k : Nat} {f : Addr} {fd : FuncData} {ps : List Str} {sp : Sp} {E : XK} {x : Str} {p pos : Pos} {e : Expr} {es : List Expr} {t : TA}
theorem goT {pins : List (Addr × Obj)} {σ : L2.St} {H : Hp} {s : Shared} {Q : VK} {us : List Value} {vs : List V} (F : FnT X.prog X.w X.K X.mg X.base CX k f fd ps sp) (h0 : 1 ≤ s.toks) (hr : Room k X.A) (hb : Binds X.K fd ps []) (hx : Passes CX X E)
    (I : Inv X pins σ H s) (r : Vals vs us) (h : sp vs H Q E) : wpAny (model X.prog X.w) X.A (call (.ref f) us) (EP X pins σ Q) X.xe s := by
  have hl : (us ++ []).length = ps.length := by rw [List.append_nil, ← r.length]; exact F.arity _ _ _ _ h
  have bt := hb s us I.kIn hl
  rw [List.append_nil] at bt
  refine wpAny_call (codeAny_mono (F.goes X.A hr X.stack s H h0 I.env0 ⟨us, []⟩ us vs bt r Q E h) ?_)
  rintro (e | (_ | _ | _ | u)) s' q
  · exact hx pins σ H s e s' I q
  all_goals first
    | exact I.after q
    | exact False.elim q
theorem pet_callT (F : FnT X.prog X.w X.K X.mg X.base CX k f fd ps sp) (hr : Room k X.A) (hg : Gl X x) (hm : X.mg x = some (.ref f)) (hk : PySem.W.keepIn X.K (.ref f) = true) (hb : Binds X.K fd ps []) (hx : Passes CX X E)
    (ha : PAT X (e :: es) t) (hdb : (x == ("__debug__" : Str)) = false := by decide) (he : starEach (e :: es) X.env = (false, eval e X.env) :: starEach es X.env := by rfl) (hpl : (backTo pos (starEach es X.env)).any (·.1) = false := by rfl) :
    PET X (.Call (.Name x p) (e :: es) [] pos) (tCall sp [] E t) := by
  intro pins s σ H Q h0 I h
  apply wpAny_Call_Name_kw
  apply ld_glob I hg hm _ hdb
  refine PySem.W.callWith_K (h₀ := X.base) I.ok.mod.kin hk (thnK h0 (ha pos pins s σ H _ h0 I h) ?_) he hpl
  rintro us s1 h1 ⟨vs, H1, I1, r, q⟩
  rw [List.append_nil] at q
  exact ⟨I1.kIn, goT F h1 hr hb hx I1 r q⟩
/-- one written text: it makes the token itself -/
theorem pe_callT {c : Str} {j : Nat} {cp : Pos} (F : FnT X.prog X.w X.K X.mg X.base CX k f fd ps sp) (hr : Room k X.A) (hg : Gl X x) (hm : X.mg x = some (.ref f)) (hk : PySem.W.keepIn X.K (.ref f) = true) (hb : Binds X.K fd ps []) (hx : Passes CX X E)
    (hdb : (x == ("__debug__" : Str)) = false := by decide) :
    PE X (.Call (.Name x p) [.Constant (.str c) j cp] [] pos) (fun _ H Q => sp [.str c] H Q E) := by
  constructor
  intro pins s σ H Q I h
  apply wpAny_Call_Name_kw
  apply ld_glob I hg hm _ hdb
  refine PySem.W.callWith_K (h₀ := X.base) I.ok.mod.kin hk ?_ rfl rfl
  show wpAny _ _ (spliced ((false, eval (.Constant (.str c) j cp) X.env) :: backTo pos (starEach [] X.env))) _ _ s
  refine Calls.spliced_cons (Calls.Constant_str (Calls.spliced_nil ?_))
  have I1 : Inv X pins σ H { s with toks := s.toks + 1 } := I.tok _
  exact ⟨I1.kIn, goT F (by show 1 ≤ s.toks + 1; omega) hr hb hx I1 (vs := [.str c]) (.cons ⟨_, rfl⟩ .nil) h⟩
end
end Tk

set_option Elab.async false
set_option linter.all false
set_option maxRecDepth 100000
set_option maxHeartbeats 2000000
/-! A list comprehension whose first iterable wants a token out. -/
namespace Tk
open PySem PySem.Spec PyProof.Rows L2 CwR

/-- an iterable, a token out; split of such a text -/
def LcR (g : TG) (tt : TT) (te : TE) (vs : List Nat) (σ : L2.St) (Q : VK) : It → Hp → Prop := fun J H1 => ∀ D, H1 D = none → ∃ W : Nat → Nat → Hp → Prop, (∃ m, W 0 m (upd H1 D (.lst []))) ∧ ∀ i m H, W i m H →
  (J.stop i H ∧ Q (.ref D) H) ∨ (J.go i H ∧ ∃ Nx : Hp → Prop, (∀ H', Nx H' → ∃ m', m' < m ∧ W (i + 1) m' H') ∧ ∀ x H', J.yld i H x H' → g x (wipe σ vs) H' fun σ2 H2 => wipe σ2 vs = wipe σ vs ∧ tt σ2 H2 fun b H3 =>
    if b = true then te σ2 H3 fun y H4 => ∃ acc, H4 D = some (.lst acc) ∧ acc.length < sizeLine ∧ Nx (upd H4 D (.lst (acc ++ [y]))) else Nx H3)

section
variable {X : Cx} {pins : List (Addr × Obj)} {σ : L2.St} {H : Hp} {s : Shared} {Q : VK} {elt tg iter : Expr} {ifs : List Expr} {sc : Scope} {own : List (Str × Nat)} {pos : Pos} {g : TG} {tt : TT} {te : TE} {wi : TI}
theorem comp_at (calm : X.calm = true) (nd : X.N.Nodup) (I : Inv X pins σ H s) (ok : BlkOk X.N X.env.scope sc own)
    (hg : ∀ (s : Shared) (H : Hp) (C : Addr) (cl : List (Str × Addr)) (fp : List Addr), PG (X.blk s H sc (compEnvC sc cl C X.env) fp) tg g) (ht : ∀ (s : Shared) (H : Hp) (C : Addr) (cl : List (Str × Addr)) (fp : List Addr), PTs (X.blk s H sc (compEnvC sc cl C X.env) fp) ifs tt)
    (he : ∀ (s : Shared) (H : Hp) (C : Addr) (cl : List (Str × Addr)) (fp : List Addr), PE (X.blk s H sc (compEnvC sc cl C X.env) fp) elt te) (plain : ∀ x, foldedSetIterable iter X.env x = pure x)
    (first : wpAny (model X.prog X.w) X.A (eval iter X.env) (fun v s1 => wpAny (model X.prog X.w) X.A (pyIter v) (PIE X pins σ tg (LcR g tt te (own.map (·.2)) σ Q)) X.xe s1) X.xe s) :
    wpAny (model X.prog X.w) X.A (eval (.ListComp elt [⟨tg, iter, ifs, 0⟩] sc pos) X.env) (EP X pins σ Q) X.xe s := by
  rw [eval_ListComp]
  have frees : ∀ y ∈ sc.names, y.2 = .free → ∃ c, X.env.cells.lookup y.1 = some c := by
    intro y hy e
    exact (ok.free y hy e).elim (fun k => I.ok.has _ (.inl k)) fun k => I.ok.has _ (.inr k)
  refine wpAny_comprehension_free (use := none) rfl plain (closure_ok frees) ok.kind (fun y hy e => (ok.uniq y hy).trans (congrArg some e)) (thn first fun v1 s1 h1 => thn h1 fun v2 s2 h2 => ?_)
  obtain ⟨ia, fp, tn, J, Ha, e, Ia, T, at0, free0, body⟩ := h2
  subst e
  refine wpAny_newObj_type (newEnv_comp ?_) (Nat.zero_le _)
  -- L: where the new list lies
  obtain ⟨L, eL⟩ : ∃ L, s2.heap.objs.size = L := ⟨_, rfl⟩
  have Lnew : Ha L = none := Ia.hok.fresh (Nat.le_of_eq eL)
  obtain ⟨W, ⟨m0, start⟩, turn⟩ := body L Lnew
  obtain ⟨sb, esb⟩ : ∃ sb : Shared, ({ s2 with heap := s2.heap.push { cls := .type "list", data := .seq ([] : List Value).toArray } } : Shared) = sb := ⟨_, rfl⟩
  obtain ⟨Hb, eHb⟩ : ∃ Hb, upd Ha L (.lst []) = Hb := ⟨_, rfl⟩
  have hb : sb.heap = s2.heap.push { cls := .type "list", data := .seq ([] : List Value).toArray } := by rw [← esb]
  have Ib : Inv X pins σ Hb sb := by
    rw [← esb, ← eHb]
    exact Ia.laid (t' := s2.toks) (fun b u e => Heap.get?_push_of_some _ e) (Nat.le_of_eq eL) ⟨Nat.zero_le _, [], 0, .nil, by rw [← eL]; exact Heap.get?_push_size _ rfl⟩
  have small : ∀ b ∈ fp, b < s2.heap.objs.size := fun b hb => (T.obj _ _ at0 b hb).elim fun o z => Heap.lt_size z.1
  have freeB : ∀ b ∈ fp, FpOk X pins Hb b ∧ b < sb.heap.objs.size := by
    intro b hbf
    have lt := small b hbf
    refine ⟨⟨?_, (free0 b hbf).2⟩, ?_⟩
    · rw [← eHb, upd_ne (by rw [← eL]; exact Nat.ne_of_lt lt)]
      exact (free0 b hbf).1
    · rw [hb, Heap.size_push]
      exact Nat.lt_succ_of_lt lt
  have atB : tn 0 sb.heap := T.keep _ _ _ at0 fun b _ o e => by rw [hb]; exact Heap.get?_push_of_some _ e
  have Ic := block_start Ib ok nd freeB
  have g1 := hg sb Hb sb.heap.objs.size (cellsFrom (sb.heap.objs.size + 1) sc.names (cloFrom X.env.cells sc.names [])) fp
  have t1 := ht sb Hb sb.heap.objs.size (cellsFrom (sb.heap.objs.size + 1) sc.names (cloFrom X.env.cells sc.names [])) fp
  have e1 := he sb Hb sb.heap.objs.size (cellsFrom (sb.heap.objs.size + 1) sc.names (cloFrom X.env.cells sc.names [])) fp
  rw [eHb] at start
  rw [esb, eL]
  show codeAny _ _ (.compStart _ 0 (.ref ia) (.ref L) (compEnvC sc (cellsFrom (sb.heap.objs.size + 1) sc.names (cloFrom X.env.cells sc.names [])) sb.heap.objs.size X.env)) (compPost (model X.prog X.w) X.A X.xe none _ (.ref L) sb.heap.objs.size)
    { sb with heap := pushCells (sb.heap.push { cls := .type "dict", data := .dict #[] }) sc.names }
  obtain ⟨ce, ece⟩ : ∃ ce, compEnvC sc (cellsFrom (sb.heap.objs.size + 1) sc.names (cloFrom X.env.cells sc.names [])) sb.heap.objs.size X.env = ce := ⟨_, rfl⟩
  rw [ece] at Ic g1 t1 e1 ⊢
  have celoc : ce.locals = sb.heap.objs.size := by rw [← ece]; rfl
  obtain ⟨sd, esd⟩ : ∃ sd : Shared, ({ sb with heap := pushCells (sb.heap.push { cls := .type "dict", data := .dict #[] }) sc.names } : Shared) = sd := ⟨_, rfl⟩
  rw [esd] at Ic ⊢
  have atD : tn 0 sd.heap := T.keep _ _ _ atB fun b _ o e => by rw [← esd]; exact pushCells_keeps _ _ _ _ (Heap.get?_push_of_some _ e)
  suffices lp : codeAny (model X.prog X.w) X.A (.compLoop (.ListComp elt [⟨tg, iter, ifs, 0⟩] sc pos) 0 (.ref ia) (.ref L) ce) (compPost (model X.prog X.w) X.A X.xe none (EP X pins σ Q) (.ref L) sb.heap.objs.size) sd from codeAny_compStart_list lp (T.self X.A 0 _ _ _ atD lp)
  -- what a turn's step may count on
  have static : ∀ {σ' : L2.St} {H' : Hp} {s' : Shared}, Inv (X.blk sb Hb sc ce fp) [] σ' H' s' → (∀ b ∈ fp, H' b = none) → ∀ b ∈ fp, FpOk (X.blk sb Hb sc ce fp) [] H' b := by
    intro σ' H' s' I' z b hb'
    exact ⟨z b hb', (I'.ok.exf b hb').1, I'.ok.exfs b hb', Or.inl hb', fun x c e => (I'.ok.exf b hb').2 x c e, fun p hp => nomatch (show p ∈ ([] : List (Addr × Obj)) from hp)⟩
  refine compLoop_any (fun n s' => ∃ i H', Inv (X.blk sb Hb sc ce fp) [] (wipe σ (own.map (·.2))) H' s' ∧ tn i s'.heap ∧ (∀ b ∈ fp, H' b = none) ∧ W i n H') ?_ m0 ⟨0, Hb, Ic, atD, fun b hb' => (freeB b hb').1.1, start⟩
  intro n s3 h3
  obtain ⟨i, H3, I3, at3, free3, w3⟩ := h3
  rcases turn i n H3 w3 with ⟨stop, done⟩ | ⟨go, Nx, next, step⟩
  · refine thnF (T.done (X.blk sb Hb sc ce fp) rfl rfl rfl calm i [] s3 _ H3 (fun _ _ => False) I3 (static I3 free3) at3 stop) fun r s4 h4 => ?_
    obtain ⟨er, I4⟩ := h4
    subst er
    have back : Inv X pins σ H3 s4 := Ib.call' (ch := fp) I4.os I4.base I4.hok I4.bare fun b hb' =>
      have z := (freeB b hb').1.2
      ⟨z.2.2.1, z.1, z.2.2.2.1, z.2.2.2.2⟩
    have gone : H3 sb.heap.objs.size = none := by
      have z : H3 ce.locals = none := I4.free
      rwa [celoc] at z
    obtain ⟨m, ns, _⟩ := I4.loc
    have ns : s4.heap.Ns ce.locals m := ns
    rw [celoc] at ns
    refine ⟨m, ns, fun h'' same => ?_⟩
    obtain ⟨c0, c1, c2, c3, c4, c5⟩ := Ib.fpOk (Nat.le_refl _) gone
    exact ⟨.ref L, H3, back.turned (t' := s4.toks) (fun b o hb' e => (same.2 b hb').trans e) c0 c1 c3 c4 c5, rfl, done⟩
  · refine thnF (T.item (X.blk sb Hb sc ce fp) rfl rfl rfl calm i [] s3 _ H3 (fun _ _ => False) I3 (static I3 free3) at3 go) fun r s4 h4 => ?_
    obtain ⟨u, er, h4⟩ := h4
    subst er
    refine thnF h4 fun _ s5 h5 => ?_
    obtain ⟨x, H5, I5, r5, y5, at5, free5⟩ := h5
    refine thnF (g1.run _ s5 _ H5 x u _ (I5.pinned (static I5 free5) (T.obj _ _ at5)) r5 (step x H5 y5)) fun _ s6 h6 => ?_
    obtain ⟨σ6, H6, I6, same6, q6⟩ := h6
    -- back at the loop's head
    have head : ∀ {s' : Shared} {H' : Hp}, Inv (X.blk sb Hb sc ce fp) ([] ++ pinsAt fp s5.heap) σ6 H' s' → Nx H' → ∃ m, m < n ∧ ∃ i H', Inv (X.blk sb Hb sc ce fp) [] (wipe σ (own.map (·.2))) H' s' ∧ tn i s'.heap ∧ (∀ b ∈ fp, H' b = none) ∧ W i m H' := by
      intro s' H' I' nx
      obtain ⟨m', lt, w'⟩ := next H' nx
      have pinned : ∀ b ∈ fp, ∀ o, s5.heap.get? b = some o → s'.heap.get? b = some o ∧ H' b = none := by
        intro b hb' o e
        have z := I'.pin (b, o) (List.mem_append_right _ (List.mem_append_right _ (mem_pinsAt hb' e)))
        exact ⟨z.1, z.2.1⟩
      have wl : (wipe σ (own.map (·.2))).length = σ6.length := by rw [← same6, wipe_length]
      refine ⟨m', lt, i + 1, H', (I'.unpinned (pins := [])).weak wl ?_, T.keep _ _ _ at5 fun b hb' o e => (pinned b hb' o e).1, ?_, w'⟩
      · intro j v e
        rw [← same6] at e
        exact (wipe_some e).1
      · intro b hb'
        obtain ⟨o, e, _⟩ := T.obj _ _ at5 b hb'
        exact (pinned b hb' o e).2
    refine thnF (t1.run _ s6 σ6 H6 _ I6 q6) fun b s7 h7 => ?_
    obtain ⟨H7, I7, q7⟩ := h7
    cases b
    · exact head I7 q7
    · rw [if_pos rfl] at q7 ⊢
      refine thnF (e1.run _ s7 σ6 H7 _ I7 q7) fun z s8 h8 => ?_
      obtain ⟨y, H8, I8, r8, acc, at8, len8, nx⟩ := h8
      exact app_ok (X := X.blk sb Hb sc ce fp) I8 at8 len8 r8 fun s9 I9 => head I9 nx
/-- [elt for target in iter if ..], a token out -/
theorem pet_lc (calm : X.calm = true) (nd : X.N.Nodup) (hi : PIT X tg iter wi) (ok : BlkOk X.N X.env.scope sc own)
    (hg : ∀ (s : Shared) (H : Hp) (C : Addr) (cl : List (Str × Addr)) (fp : List Addr), PG (X.blk s H sc (compEnvC sc cl C X.env) fp) tg g) (ht : ∀ (s : Shared) (H : Hp) (C : Addr) (cl : List (Str × Addr)) (fp : List Addr), PTs (X.blk s H sc (compEnvC sc cl C X.env) fp) ifs tt)
    (he : ∀ (s : Shared) (H : Hp) (C : Addr) (cl : List (Str × Addr)) (fp : List Addr), PE (X.blk s H sc (compEnvC sc cl C X.env) fp) elt te) (plain : ∀ x, foldedSetIterable iter X.env x = pure x := by intro _; rfl) :
    PET X (.ListComp elt [⟨tg, iter, ifs, 0⟩] sc pos) (tLc wi g tt te (own.map (·.2))) := by
  intro pins s σ H Q h0 I h
  exact comp_at calm nd I ok hg ht he plain (hi pins s σ H _ h0 I h)
end
section
variable {X : Cx} {o e : Expr} {to te : TE} {apos pos : Pos}
/-- what split at a text asks -/
def rSplit : V → List V → Hp → VK → Prop := fun x xs H Q => ∃ a b, x = .str a ∧ xs = [.str b] ∧ (b.length == 0) = false ∧ a.length + 2 ≤ sizeLine ∧ rNewStrs (Txt.split a b) H Q
theorem pet_split (ho : PET X o to) (he : PE X e te) (hs : starEach [e] X.env = [(false, eval e X.env)] := by rfl) (hb : attributeBase o "split" X.env (eval o X.env) = eval o X.env := by rfl) (hl : (apos.endLine == pos.line) = true := by rfl) :
    PET X (.Call (.Attribute o "split" apos) [e] [] pos) (tM1 rSplit to te) := by
  intro pins s σ H Q h0 I h
  refine PySem.Call_method1 hb hs hl (thn (ho pins s σ H _ h0 I h) fun v s1 h1 => ?_)
  obtain ⟨x, H1, I1, r1, ⟨a, ex⟩, q1⟩ := h1
  subst ex
  obtain ⟨t, ev⟩ := r1
  subst ev
  refine ⟨"str", _, F.plainAttrs_str, F.slot_str_split, F.type_str_split, typeIs_str _ _ _, (fun _ e => nomatch e), Calls.callWith_builtin rfl (Calls.evalArgs_plain (Calls.spliced_cons ?_))⟩
  refine thn (he.run pins s1 σ H1 _ I1 q1) fun u s2 h2 => Calls.spliced_nil ?_
  obtain ⟨y, H2, I2, r2, q2⟩ := h2
  exact mt_split pins s2 σ H2 (.str a) [y] _ [u] Q I2 ⟨t, rfl⟩ (.cons r2 .nil) q2
end
end Tk

set_option Elab.async false
set_option linter.all false
set_option maxRecDepth 100000
set_option maxHeartbeats 2000000
/-! Rows as data, their texts, and how a text is read. -/
namespace R3
open PySem PySem.Spec PyProof.Rows L2 TL
abbrev CL := List Nat
abbrev Rw := List Nat × List (Option Int)
def W (s : String) : CL := s.toList.map Char.toNat
def digs (l : CL) : Bool := l.all fun c => decide (48 ≤ c) && decide (c ≤ 57)
def bareOf (l : CL) : CL := if l.take 1 = [45] then l.drop 1 else l
def dval (l : CL) : Int := ((NumText.digitsVal l : Nat) : Int)
/-- the whole that a word writes -/
def wholeOf (l : CL) : Option Int :=
  if bareOf l = [] ∨ digs (bareOf l) = false then none
  else if (bareOf l).head? = some 48 then (if l = [48] then some 0 else none)
  else if bareOf l = l then some (dval (bareOf l)) else some (-(dval (bareOf l)))
def intL (i : Int) : CL := if i < 0 then 45 :: numL i.natAbs else numL i.natAbs
def twos : List CL := [W "plus", W "minus", W "times", W "over", W "hyp"]
def ixB (i : Int) (many : Nat) : Bool := decide (0 ≤ i) && decide (i < many)
/-- how many items a row with the word has -/
def sizeOf (w : CL) : Option Nat := if w = W "fraction" then some 3 else if w = W "root" then some 2 else if w ∈ twos then some 3 else none
def goodRow (r : Rw) (many : Nat) : Bool :=
  if r.1 = W "fraction" then (match r.2 with | [some _, some d] => decide (1 ≤ d) | _ => false)
  else if r.1 = W "root" then (match r.2 with | [some i] => ixB i many | _ => false)
  else if r.1 ∈ twos then (match r.2 with | [some i, some j] => ixB i many && ixB j many | _ => false)
  else false
def goodFrom : List Rw → Nat → Bool
  | [], _ => true
  | r :: rs, n => goodRow r n && goodFrom rs (n + 1)
def goodRows (rs : List Rw) : Bool := !rs.isEmpty && goodFrom rs 0
def lineOf (l : CL) : Rw := ((spl [32] 0 [] l).headD [], (spl [32] 0 [] l).tail.map wholeOf)
/-- the rows ahead of the first bad line, and its place -/
def readFrom : List CL → Nat → List Rw × Option Nat
  | [], _ => ([], none)
  | l :: ls, n => if goodRow (lineOf l) n = true then (lineOf l :: (readFrom ls (n + 1)).1, (readFrom ls (n + 1)).2) else ([], some n)
def rowText (r : Rw) : CL := joinL [32] (r.1 :: r.2.map fun o => intL (o.getD 0))
def textOf (rs : List Rw) : CL := joinL [10] (rs.map rowText)
def readText (l : CL) : List Rw × Option Nat := readFrom (spl [10] 0 [] l) 0
/-! ### digits -/
theorem digs_iff {l : CL} : digs l = true ↔ NumText.AllDigits l := by
  unfold digs
  rw [List.all_eq_true]
  constructor
  · intro h c hc
    have := h c hc
    simp only [Bool.and_eq_true, decide_eq_true_eq] at this
    exact this
  · intro h c hc
    have := h c hc
    simp only [Bool.and_eq_true, decide_eq_true_eq]
    exact this
theorem val_snoc (l : CL) (c : Nat) : NumText.digitsVal (l ++ [c]) = NumText.digitsVal l * 10 + (c - 48) := by
  unfold NumText.digitsVal
  rw [List.foldl_append]
  rfl
/-- digits without a zero ahead are what their value is written as -/
theorem num_val : ∀ (n : Nat) (l : CL), l.length = n → l ≠ [] → digs l = true → (l.head? ≠ some 48 ∨ l = [48]) → numL (NumText.digitsVal l) = l := by
  intro n
  induction n with
  | zero =>
    intro l hl hne
    exact absurd (List.length_eq_zero_iff.mp hl) hne
  | succ n ih =>
    intro l hl hne hd h0
    obtain ⟨p, c, rfl⟩ : ∃ p c, l = p ++ [c] := ⟨l.dropLast, l.getLast hne, (List.dropLast_concat_getLast hne).symm⟩
    have hc : 48 ≤ c ∧ c ≤ 57 := (digs_iff.mp hd) c (by simp)
    rw [val_snoc]
    cases p with
    | nil =>
      have e : NumText.digitsVal ([] : List Nat) = 0 := rfl
      rw [e, Nat.zero_mul, Nat.zero_add, numL_lt (by omega)]
      simp
      omega
    | cons d r =>
      have hd1 : digs (d :: r) = true := by
        unfold digs at hd ⊢
        rw [List.all_append, Bool.and_eq_true] at hd
        exact hd.1
      have h1 : (d :: r).head? ≠ some 48 := by
        rcases h0 with h | h
        · exact h
        · simp at h
      have z := ih (d :: r) (by simp at hl ⊢; omega) (by simp) hd1 (.inl h1)
      have pos : 1 ≤ NumText.digitsVal (d :: r) := by
        cases hv : NumText.digitsVal (d :: r) with
        | succ _ => omega
        | zero =>
          rw [hv, numL_lt (by decide)] at z
          rw [← z] at h1
          simp at h1
      rw [numL_step (by omega), show (NumText.digitsVal (d :: r) * 10 + (c - 48)) / 10 = NumText.digitsVal (d :: r) by omega, z]
      congr 2
      omega
theorem numL_head {n : Nat} (h : (numL n).head? = some 48) : n = 0 := by
  have key : ∀ n, 1 ≤ n → (numL n).head? ≠ some 48 := by
    intro n
    induction n using Nat.strongRecOn with
    | _ n ih =>
      intro h1
      by_cases h10 : n < 10
      · rw [numL_lt h10]
        simp
        omega
      · rw [numL_step (by omega)]
        have z := ih (n / 10) (by omega) (by omega)
        have ne := numL_ne (n / 10)
        cases e : numL (n / 10) with
        | nil => exact absurd e ne
        | cons a r =>
          rw [e] at z
          exact z
  cases n with
  | zero => rfl
  | succ n => exact absurd h (key _ (by omega))
theorem numL_0 : numL 0 = [48] := numL_lt (by decide)
theorem numL_minus (n : Nat) : (numL n).take 1 ≠ [45] := by
  intro h
  cases e : numL n with
  | nil => exact numL_ne n e
  | cons a r =>
    rw [e] at h
    have : a = 45 := by simpa using h
    have d := numL_digits n a (by rw [e]; simp)
    omega
/-- what str(i) gives -/
theorem tl_int (i : Int) : tl (Str.ofString (toString i)) = intL i := by
  unfold intL
  cases i with
  | ofNat n =>
    rw [if_neg (by simp)]
    exact tl_num n
  | negSucc n =>
    rw [if_pos (Int.negSucc_lt_zero n)]
    have e : toString (Int.negSucc n) = "-" ++ toString (((n + 1 : Nat)) : Int) := rfl
    rw [e, tl_ofString]
    rw [String.toList_append, List.map_append, ← tl_ofString (toString (((n + 1 : Nat)) : Int)), tl_num]
    rfl
theorem whole_str (i : Int) : wholeOf (intL i) = some i := by
  unfold intL
  by_cases h : i < 0
  · rw [if_pos h]
    have e : bareOf (45 :: numL i.natAbs) = numL i.natAbs := by simp [bareOf]
    have hn : (numL i.natAbs).head? ≠ some 48 := fun z => by have := numL_head z; omega
    unfold wholeOf
    rw [e, if_neg (by
      rintro (z | z)
      · exact numL_ne _ z
      · rw [digs_iff.mpr (numL_digits _)] at z; cases z), if_neg hn, if_neg (by
        intro z
        have := congrArg List.length z
        simp at this), dval, numL_val]
    congr 1
    omega
  · rw [if_neg h]
    have e : bareOf (numL i.natAbs) = numL i.natAbs := by unfold bareOf; rw [if_neg (numL_minus _)]
    unfold wholeOf
    rw [e, if_neg (by
      rintro (z | z)
      · exact numL_ne _ z
      · rw [digs_iff.mpr (numL_digits _)] at z; cases z)]
    by_cases h0 : (numL i.natAbs).head? = some 48
    · have z := numL_head h0
      have iz : i = 0 := by omega
      subst iz
      have e0 : numL (Int.natAbs 0) = [48] := numL_0
      rw [if_pos h0, if_pos e0]
    · rw [if_neg h0, if_pos rfl, dval, numL_val]
      congr 1
      omega
/-- the law's test: a word of digits, bare of its sign, is what its value is written as -/
theorem str_back {l : CL} (hne : bareOf l ≠ []) (hd : digs (bareOf l) = true) : (intL (if bareOf l = l then dval (bareOf l) else -(dval (bareOf l))) = l) ↔ wholeOf l = some (if bareOf l = l then dval (bareOf l) else -(dval (bareOf l))) := by
  constructor
  · intro h
    generalize hv : (if bareOf l = l then dval (bareOf l) else -(dval (bareOf l))) = v at h ⊢
    rw [← h]
    exact whole_str v
  · intro h
    unfold wholeOf at h
    rw [if_neg (by
      rintro (z | z)
      · exact hne z
      · rw [hd] at z; cases z)] at h
    by_cases h0 : (bareOf l).head? = some 48
    · rw [if_pos h0] at h
      by_cases hl : l = [48]
      · subst hl
        have e : bareOf [48] = [48] := by simp [bareOf]
        rw [e, if_pos rfl]
        have ev : dval [48] = 0 := rfl
        rw [ev]
        exact numL_0
      · rw [if_neg hl] at h
        cases h
    · have back := num_val _ (bareOf l) rfl hne hd (.inl h0)
      by_cases hb : bareOf l = l
      · rw [if_pos hb]
        unfold intL dval
        rw [if_neg (by omega), Int.natAbs_natCast, back, hb]
      · rw [if_neg hb]
        have pos : 1 ≤ NumText.digitsVal (bareOf l) := by
          cases hv : NumText.digitsVal (bareOf l) with
          | succ _ => omega
          | zero =>
            rw [hv, numL_0] at back
            rw [← back] at h0
            simp at h0
        unfold intL dval
        rw [if_pos (by omega), Int.natAbs_neg, Int.natAbs_natCast, back]
        unfold bareOf at hb ⊢
        by_cases h45 : l.take 1 = [45]
        · rw [if_pos h45]
          cases l with
          | nil => simp at h45
          | cons a r =>
            have : a = 45 := by simpa using h45
            subst this
            rfl
        · rw [if_neg h45] at hb
          exact absurd rfl hb
theorem whole_cases {l : CL} (hne : bareOf l ≠ []) (hd : digs (bareOf l) = true) : wholeOf l = none ∨ wholeOf l = some (if bareOf l = l then dval (bareOf l) else -(dval (bareOf l))) := by
  unfold wholeOf
  rw [if_neg (by
    rintro (z | z)
    · exact hne z
    · rw [hd] at z; cases z)]
  by_cases h0 : (bareOf l).head? = some 48
  · rw [if_pos h0]
    by_cases hl : l = [48]
    · subst hl
      exact .inr rfl
    · rw [if_neg hl]
      exact .inl rfl
  · rw [if_neg h0]
    right
    by_cases hb : bareOf l = l
    · rw [if_pos hb, if_pos hb]
    · rw [if_neg hb, if_neg hb]
/-! ### cut at one sign -/
theorem spl_ne (S : CL) : ∀ (l : CL) (k : Nat) (acc : CL), spl S k acc l ≠ []
  | [], k, acc => by rw [spl_nil]; simp
  | c :: r, 0, acc => by
    cases h : pre S (c :: r) with
    | true => rw [spl_hit h]; simp
    | false => rw [spl_miss h]; exact spl_ne S r 0 _
  | c :: r, k + 1, acc => spl_ne S r k acc
theorem pre_one (s c : Nat) (r : CL) : pre [s] (c :: r) = decide (c = s) := by
  unfold pre
  by_cases h : c = s
  · subst h; simp
  · simp [h]
theorem spl_app (s : Nat) : ∀ (p : CL) (acc rest : CL), spl [s] 0 acc (p ++ s :: rest) = spl [s] 0 acc p ++ spl [s] 0 [] rest
  | [], acc, rest => by
    rw [List.nil_append, spl_nil, spl_hit (by rw [pre_one]; simp)]
    rfl
  | c :: r, acc, rest => by
    by_cases h : c = s
    · subst h
      rw [List.cons_append, spl_hit (by rw [pre_one]; simp), spl_hit (by rw [pre_one]; simp)]
      show acc :: spl [c] 0 [] (r ++ c :: rest) = (acc :: spl [c] 0 [] r) ++ _
      rw [spl_app c r [] rest]
      rfl
    · rw [List.cons_append, spl_miss (by rw [pre_one]; simp [h]), spl_miss (by rw [pre_one]; simp [h])]
      exact spl_app s r _ rest
theorem spl_joined (s : Nat) : ∀ (ls : List CL), ls ≠ [] → spl [s] 0 [] (joinL [s] ls) = ls.flatMap (spl [s] 0 [])
  | [], h => absurd rfl h
  | [p], _ => by simp [joinL]
  | p :: q :: r, _ => by
    show spl [s] 0 [] (p ++ s :: joinL [s] (q :: r)) = _
    rw [spl_app, spl_joined s (q :: r) (by simp)]
    rfl
theorem spl_len (S : CL) : ∀ (l : CL) (k : Nat) (acc : CL), (spl S k acc l).length ≤ l.length + 1
  | [], k, acc => by rw [spl_nil]; simp
  | c :: r, 0, acc => by
    have a := spl_len S r (S.length - 1) []
    have b := spl_len S r 0 (acc ++ [c])
    cases h : pre S (c :: r) with
    | true => rw [spl_hit h, List.length_cons, List.length_cons]; omega
    | false => rw [spl_miss h, List.length_cons]; omega
  | c :: r, k + 1, acc => by
    have a := spl_len S r k acc
    show (spl S k acc r).length ≤ _
    rw [List.length_cons]
    omega
theorem spl_item (s : Nat) : ∀ (l : CL) (acc : CL), ∀ p ∈ spl [s] 0 acc l, p.length ≤ acc.length + l.length
  | [], acc, p, h => by
    rw [spl_nil] at h
    rw [List.mem_singleton.mp h]
    simp
  | c :: r, acc, p, h => by
    cases hp : pre [s] (c :: r) with
    | true =>
      rw [spl_hit hp] at h
      rcases List.mem_cons.mp h with e | e
      · rw [e]; omega
      · have := spl_item s r [] p e
        simp at this ⊢
        omega
    | false =>
      rw [spl_miss hp] at h
      have := spl_item s r _ p h
      simp at this ⊢
      omega

/-! ### there and back -/
theorem joinL_mem {S : CL} {c : Nat} : ∀ {ls : List CL}, c ∈ joinL S ls → c ∈ S ∨ ∃ p ∈ ls, c ∈ p
  | [], h => by simp [joinL] at h
  | [p], h => .inr ⟨p, by simp, h⟩
  | p :: q :: r, h => by
    have h : c ∈ p ++ (S ++ joinL S (q :: r)) := h
    rw [List.mem_append, List.mem_append] at h
    rcases h with h | h | h
    · exact .inr ⟨p, by simp, h⟩
    · exact .inl h
    · rcases joinL_mem h with z | ⟨x, hx, z⟩
      · exact .inl z
      · exact .inr ⟨x, List.mem_cons_of_mem _ hx, z⟩
theorem intL_free {i : Int} {c : Nat} (h : c < 45 ∨ 57 < c) : c ∉ intL i := by
  unfold intL
  split
  · rw [List.mem_cons]
    rintro (z | z)
    · omega
    · exact numL_free (by omega) z
  · exact fun z => numL_free (by omega) z
def sevenW : List CL := [W "fraction", W "root", W "plus", W "minus", W "times", W "over", W "hyp"]
theorem seven_free : ∀ w ∈ sevenW, 10 ∉ w ∧ 32 ∉ w := by decide +kernel
theorem good_word {r : Rw} {n : Nat} (h : goodRow r n = true) : r.1 ∈ sevenW := by
  unfold goodRow at h
  by_cases h1 : r.1 = W "fraction"
  · rw [h1]; decide +kernel
  · rw [if_neg h1] at h
    by_cases h2 : r.1 = W "root"
    · rw [h2]; decide +kernel
    · rw [if_neg h2] at h
      by_cases h3 : r.1 ∈ twos
      · unfold sevenW
        simp only [List.mem_cons] at h3 ⊢
        unfold twos at h3
        simp only [List.mem_cons] at h3
        exact .inr (.inr h3)
      · rw [if_neg h3] at h
        cases h
/-- the wholes of a good row -/
theorem good_some {r : Rw} {n : Nat} (h : goodRow r n = true) : ∀ o ∈ r.2, o = some (o.getD 0) := by
  obtain ⟨w, cs⟩ := r
  unfold goodRow at h
  by_cases h1 : w = W "fraction"
  · rw [if_pos h1] at h
    match cs, h with
    | [some a, some b], _ => simp
  · rw [if_neg h1] at h
    by_cases h2 : w = W "root"
    · rw [if_pos h2] at h
      match cs, h with
      | [some a], _ => simp
    · rw [if_neg h2] at h
      by_cases h3 : w ∈ twos
      · rw [if_pos h3] at h
        match cs, h with
        | [some a, some b], _ => simp
      · rw [if_neg h3] at h
        cases h
theorem line_row {r : Rw} {n : Nat} (h : goodRow r n = true) : lineOf (rowText r) = r := by
  have hw := good_word h
  have e : spl [32] 0 [] (rowText r) = r.1 :: r.2.map fun o => intL (o.getD 0) := by
    unfold rowText
    refine spl_join (by simp) fun p hp => ?_
    rcases List.mem_cons.mp hp with z | z
    · rw [z]; exact (seven_free _ hw).2
    · obtain ⟨o, _, rfl⟩ := List.mem_map.mp z
      exact intL_free (by omega)
  unfold lineOf
  rw [e]
  show (r.1, (r.2.map fun o => intL (o.getD 0)).map wholeOf) = r
  have e2 : (r.2.map fun o => intL (o.getD 0)).map wholeOf = r.2 := by
    rw [List.map_map]
    have all := good_some h
    generalize r.2 = cs at all
    induction cs with
    | nil => rfl
    | cons o cs ih =>
      rw [List.map_cons, ih fun x hx => all x (List.mem_cons_of_mem _ hx)]
      show wholeOf (intL (o.getD 0)) :: cs = o :: cs
      rw [whole_str, ← all o (by simp)]
  rw [e2]
theorem row_no10 {r : Rw} {n : Nat} (h : goodRow r n = true) : 10 ∉ rowText r := by
  intro z
  rcases joinL_mem z with z | ⟨p, hp, z⟩
  · simp at z
  · rcases List.mem_cons.mp hp with e | e
    · rw [e] at z
      exact (seven_free _ (good_word h)).1 z
    · obtain ⟨o, _, rfl⟩ := List.mem_map.mp e
      exact intL_free (by omega) z
theorem good_at : ∀ {rs : List Rw} {n : Nat}, goodFrom rs n = true → ∀ r ∈ rs, ∃ m, goodRow r m = true
  | [], _, _, r, hr => by simp at hr
  | q :: rs, n, h, r, hr => by
    unfold goodFrom at h
    rw [Bool.and_eq_true] at h
    rcases List.mem_cons.mp hr with e | e
    · rw [e]; exact ⟨n, h.1⟩
    · exact good_at h.2 r e
theorem read_rows : ∀ {rs : List Rw} {n : Nat}, goodFrom rs n = true → readFrom (rs.map rowText) n = (rs, none)
  | [], _, _ => rfl
  | r :: rs, n, h => by
    unfold goodFrom at h
    rw [Bool.and_eq_true] at h
    rw [List.map_cons]
    unfold readFrom
    rw [line_row h.1, if_pos h.1, read_rows h.2]
theorem read_back {rs : List Rw} (h : goodRows rs = true) : readText (textOf rs) = (rs, none) := by
  unfold goodRows at h
  rw [Bool.and_eq_true] at h
  have ne : rs ≠ [] := by
    intro z
    rw [z] at h
    simp at h
  unfold readText textOf
  rw [spl_join (by simpa using ne) fun p hp => ?_]
  · exact read_rows h.2
  · obtain ⟨r, hr, rfl⟩ := List.mem_map.mp hp
    obtain ⟨m, hm⟩ := good_at h.2 r hr
    exact row_no10 hm
theorem goodFrom_app : ∀ (rs qs : List Rw) (n : Nat), goodFrom (rs ++ qs) n = (goodFrom rs n && goodFrom qs (n + rs.length))
  | [], qs, n => by simp [goodFrom]
  | r :: rs, qs, n => by
    show (goodRow r n && goodFrom (rs ++ qs) (n + 1)) = ((goodRow r n && goodFrom rs (n + 1)) && goodFrom qs (n + (rs.length + 1)))
    rw [goodFrom_app rs qs (n + 1), Bool.and_assoc, show n + 1 + rs.length = n + (rs.length + 1) by omega]
theorem read_good : ∀ (ls : List CL) (n : Nat), goodFrom (readFrom ls n).1 n = true
  | [], _ => rfl
  | l :: ls, n => by
    unfold readFrom
    split
    · rename_i h
      show (goodRow (lineOf l) n && goodFrom (readFrom ls (n + 1)).1 (n + 1)) = true
      rw [h, read_good ls (n + 1)]
      rfl
    · rfl
/-! ### words of a text whose line ends are exchanged for blanks -/
def wordsOf (l : CL) : List CL := spl [32] 0 [] (joinL [32] (spl [10] 0 [] l))
theorem words_all {l : CL} (h : ∀ w ∈ wordsOf l, w.length ≤ 30) : ∀ x ∈ spl [10] 0 [] l, ∀ w ∈ spl [32] 0 [] x, w.length ≤ 30 := by
  intro x hx w hw
  refine h w ?_
  unfold wordsOf
  rw [spl_joined 32 _ (spl_ne _ _ _ _)]
  exact List.mem_flatMap.mpr ⟨x, hx, hw⟩
theorem joinL_len : ∀ (ls : List CL) (s : Nat) , (joinL [s] ls).length + 1 = (ls.map fun p => p.length + 1).sum ∨ ls = []
  | [], _ => .inr rfl
  | [p], _ => by left; simp [joinL]
  | p :: q :: r, s => by
    left
    rcases joinL_len (q :: r) s with h | h
    · show (p ++ ([s] ++ joinL [s] (q :: r))).length + 1 = _
      rw [List.map_cons, List.sum_cons, ← h]
      simp
      omega
    · cases h
theorem spl_sum (s : Nat) : ∀ (l acc : CL), ((spl [s] 0 acc l).map fun p => p.length + 1).sum = acc.length + l.length + 1
  | [], acc => by rw [spl_nil]; simp
  | c :: r, acc => by
    cases hp : pre [s] (c :: r) with
    | true =>
      rw [spl_hit hp, List.map_cons, List.sum_cons]
      show acc.length + 1 + ((spl [s] 0 [] r).map fun p => p.length + 1).sum = _
      rw [spl_sum s r []]
      simp
      omega
    | false =>
      rw [spl_miss hp, spl_sum s r _]
      simp
      omega
theorem repl_len (l : CL) : (joinL [32] (spl [10] 0 [] l)).length = l.length := by
  rcases joinL_len (spl [10] 0 [] l) 32 with h | h
  · rw [spl_sum] at h
    simp at h
    omega
  · exact absurd h (spl_ne _ _ _ _)
theorem repl_tl (x : Str) : tl (Txt.replace x ⟨#[10]⟩ ⟨#[32]⟩) = joinL [32] (spl [10] 0 [] (tl x)) := by
  rw [PySem.StrLaws.replace_one, tl_join]
  congr 1
  exact split_spl x ⟨#[10]⟩ (by decide) (kind_ok (by decide +kernel))
end R3

set_option Elab.async false
set_option linter.all false
set_option maxRecDepth 100000
set_option maxHeartbeats 2000000
/-! How the program judges a row. -/
namespace R4
open PySem PySem.Spec PyProof.Rows L2 Cau Dr65 R0 R3
abbrev sIsWhole : Stmt := topS 6
abbrev sTupleOf : Stmt := topS 7
abbrev sIsList : Stmt := topS 8
abbrev sIndex : Stmt := topS 23
abbrev sRow : Stmt := topS 24
abbrev S (l : CL) : Str := ⟨l.toArray⟩
def cellV : Option Int → V
  | none => .non
  | some i => .int i
theorem S_W (s : String) : S (W s) = Str.ofString s := TL.ext_tl (TL.tl_ofString s).symm
theorem S_eq {a b : CL} : S a = S b ↔ a = b := ⟨fun h => congrArg (fun x : Str => x.cps.toList) h, fun h => by rw [h]⟩
theorem eqW (w : CL) (s : String) : decide (V.str (S w) = V.str (Str.ofString s)) = decide (w = W s) := by
  rw [← S_W, Bool.eq_iff_iff, decide_eq_true_iff, decide_eq_true_iff]
  exact ⟨fun h => S_eq.mp (V.str.inj h), fun h => by rw [h]⟩
/-- the items of a row -/
def itemsV (r : Rw) : List V := .str (S r.1) :: r.2.map cellV
def RowV (K : PySem.W.Frag) (H : Hp) (x : V) (r : Rw) : Prop := ∃ a, x = .ref a ∧ SqT K H a (itemsV r)
/-- a value that may be a row, or a text or a whole -/
def RowO (K : PySem.W.Frag) (H : Hp) (x : V) (o : Option Rw) : Prop := (∃ r, o = some r ∧ RowV K H x r) ∨ (o = none ∧ ((∃ z, x = .str z) ∨ ∃ i, x = .int i))
def goodO : Option Rw → Nat → Bool
  | some r, n => goodRow r n
  | none, _ => false
def WordsK (K : PySem.W.Frag) (d : Addr) (ws : List Str) : Prop := ∀ H, SqT K H d (ws.map V.str)
def twoS : List Str := ["plus", "minus", "times", "over", "hyp"]
theorem inV_two (w : CL) : inV (.str (S w)) (twoS.map V.str) = decide (w ∈ twos) := by
  have e : twoS = twos.map S := by decide +kernel
  rw [e]
  generalize twos = ws
  unfold inV
  rw [List.any_map, List.any_map, Bool.eq_iff_iff, decide_eq_true_iff, List.any_eq_true]
  constructor
  · rintro ⟨x, hx, h⟩
    have h : (S x == S w) = true := h
    have := S_eq.mp (eq_of_beq h)
    rw [← this]
    exact hx
  · intro h
    exact ⟨w, h, show (S w == S w) = true from beq_self_eq_true _⟩
theorem strs_flat (ws : List Str) : (ws.map V.str).all flatV = true := by
  rw [List.all_map, List.all_eq_true]
  intro _ _
  rfl
def spWhole : Sp := fun vs H Q _ => ∃ o : Option Int, vs = [cellV o] ∧ Q (.bl o.isSome) H
def spTupleOf (K : PySem.W.Frag) : Sp := fun vs H Q _ => ∃ (p : Addr) (xs : List V) (n : Nat), vs = [.ref p, .int n] ∧ SqT K H p xs ∧ Q (.bl (decide (xs.length = n))) H
def spIndex : Sp := fun vs H Q _ => ∃ (o : Option Int) (n : Nat), vs = [cellV o, .int n] ∧ Q (.bl (match o with | some i => ixB i n | none => false)) H
def spRow (K : PySem.W.Frag) : Sp := fun vs H Q _ => ∃ (x : V) (o : Option Rw) (n : Nat), vs = [x, .int n] ∧ RowO K H x o ∧ Q (.bl (goodO o n)) H
section
variable {P : Program} {w : World} {K : PySem.W.Frag} {mg : Str → Option Value} {base : Heap}
theorem scW : FnScope ["value"] ["value"] (defScope sIsWhole) := ⟨rfl, rfl, rfl, by decide +kernel, rfl, by decide +kernel, by decide +kernel⟩
theorem ok_whole {f : Addr} {fd : FuncData} (F : Fun K "is_whole" "is_whole" sIsWhole f fd) (mi : mg "isinstance" = none) (mint : mg "int" = none) (mb : mg "bool" = none) : FnOk P w K mg base CX0 1 f fd ["value"] spWhole := by
  refine F.ok scW (fun vs H Q E h => ?_) (fun cdv A outer s H vs Q E hr h => ?_)
  · obtain ⟨x, rfl, _⟩ := h
    rfl
  · obtain ⟨o, rfl, q⟩ := h
    refine ⟨_, pss_one (ps_ret (pe_and (pe_callB call_isi (by rfl) mi (by decide +kernel) (pa_cons (pv 0) (pa_cons (pe_bltn (v := .ty "int") (by rfl) mint (by decide +kernel) rfl) pa_nil)))
      (pe_one (pe_not (pe_callB call_isi (by rfl) mi (by decide +kernel) (pa_cons (pv 0) (pa_cons (pe_bltn (v := .ty "bool") (by rfl) mb (by decide +kernel) rfl) pa_nil))))))), ?_⟩
    cases o with
    | none => exact ⟨_, rfl, .non, .ty "int", .type "NoneType", .type "int", false, rfl, .ty _, .base .non, kit_ty (by decide +kernel), false, rfl, iteF q⟩
    | some i =>
      refine ⟨_, rfl, .int i, .ty "int", .type "int", .type "int", true, rfl, .ty _, .base (.int i), kit_ty (by decide +kernel), true, rfl, iteT ?_⟩
      exact ⟨_, rfl, .int i, .ty "bool", .type "int", .type "bool", false, rfl, .ty _, .base (.int i), kit_ty (by decide +kernel), false, rfl, q⟩
theorem scT : FnScope ["value", "size"] ["value", "size"] (defScope sTupleOf) := ⟨rfl, rfl, rfl, by decide +kernel, rfl, by decide +kernel, by decide +kernel⟩
theorem ok_tupleOf {f : Addr} {fd : FuncData} (F : Fun K "is_tuple_of" "is_tuple_of" sTupleOf f fd) (mi : mg "isinstance" = none) (mt : mg "tuple" = none) (ml : mg "len" = none) : FnOk P w K mg base CX0 1 f fd ["value", "size"] (spTupleOf K) := by
  refine F.ok scT (fun vs H Q E h => ?_) (fun cdv A outer s H vs Q E hr h => ?_)
  · obtain ⟨p, xs, n, rfl, _⟩ := h
    rfl
  · obtain ⟨p, xs, n, rfl, hp, q⟩ := h
    refine ⟨_, pss_one (ps_ret (pe_and (pe_callB call_isi (by rfl) mi (by decide +kernel) (pa_cons (pv 0) (pa_cons (pe_bltn (v := .ty "tuple") (by rfl) mt (by decide +kernel) rfl) pa_nil)))
      (pe_one (pe_cmpR op_eq (pe_callB call_len_seq (by rfl) ml PySem.boot_len (pa_cons (pv 0) pa_nil)) (pv 1) (nomark _))))), ?_⟩
    refine ⟨_, rfl, .ref p, .ty "tuple", .type "tuple", .type "tuple", true, rfl, .ty _, sqT_ty hp, kit_ty (by decide +kernel), true, rfl, iteT ?_⟩
    refine ⟨_, rfl, p, xs, rfl, .inr hp, _, rfl, rfl, ?_⟩
    have e : decide (V.int ((xs.length : Nat) : Int) = V.int ((n : Nat) : Int)) = decide (xs.length = n) := by
      rw [Bool.eq_iff_iff]
      simp
      omega
    rw [e]
    exact q
theorem scX : FnScope ["value", "many"] ["value", "many"] (defScope sIndex) := ⟨rfl, rfl, rfl, by decide +kernel, rfl, by decide +kernel, by decide +kernel⟩
theorem ok_index {f fW : Addr} {fd fdW : FuncData} (F : Fun K "is_index" "is_index" sIndex f fd) (FW : Fun K "is_whole" "is_whole" sIsWhole fW fdW) (GW : FnOk P w K mg base CX0 1 fW fdW ["value"] spWhole) (bW : Binds K fdW ["value"] []) (gW : mg "is_whole" = some (.ref fW)) :
    FnOk P w K mg base CX0 2 f fd ["value", "many"] spIndex := by
  refine F.ok scX (fun vs H Q E h => ?_) (fun cdv A outer s H vs Q E hr h => ?_)
  · obtain ⟨o, n, rfl, _⟩ := h
    rfl
  · obtain ⟨o, n, rfl, q⟩ := h
    refine ⟨_, pss_one (ps_ret (pe_and (pe_call GW hr (by rfl) gW FW.kp bW .nil pass0 (pa_cons (pv 0) pa_nil)) (pe_one (pe_chain op_le op_lt pe_int (pv 0) (pv 1))))), ?_⟩
    refine ⟨_, rfl, o, rfl, o.isSome, rfl, ?_⟩
    cases o with
    | none => exact iteF q
    | some i =>
      refine iteT ⟨_, rfl, 0, i, rfl, rfl, _, rfl, ?_⟩
      have q : Q (.bl (decide (0 ≤ i) && decide (i < n))) H := q
      by_cases h : (0 : Int) ≤ i
      · rw [decide_eq_true h] at q ⊢
        refine iteT ⟨_, rfl, i, _, rfl, rfl, ?_⟩
        rw [Bool.true_and] at q
        exact q
      · rw [decide_eq_false h] at q ⊢
        exact iteF q
theorem scR : FnScope ["value", "many"] ["value", "many"] (defScope sRow) := ⟨rfl, rfl, rfl, by decide +kernel, rfl, by decide +kernel, by decide +kernel⟩
theorem ok_row {f fW fT fX d : Addr} {fd fdW fdT fdX : FuncData} (F : Fun K "is_row" "is_row" sRow f fd) (FW : Fun K "is_whole" "is_whole" sIsWhole fW fdW) (GW : FnOk P w K mg base CX0 1 fW fdW ["value"] spWhole) (bW : Binds K fdW ["value"] []) (gW : mg "is_whole" = some (.ref fW))
    (FT : Fun K "is_tuple_of" "is_tuple_of" sTupleOf fT fdT) (GT : FnOk P w K mg base CX0 1 fT fdT ["value", "size"] (spTupleOf K)) (bT : Binds K fdT ["value", "size"] []) (gT : mg "is_tuple_of" = some (.ref fT))
    (FX : Fun K "is_index" "is_index" sIndex fX fdX) (GX : FnOk P w K mg base CX0 2 fX fdX ["value", "many"] spIndex) (bX : Binds K fdX ["value", "many"] []) (gX : mg "is_index" = some (.ref fX))
    (Ws : WordsK K d twoS) (gWs : mg "WORDS_WITH_TWO" = some (.ref d))
    (mi : mg "isinstance" = none) (mt : mg "tuple" = none) (ms : mg "str" = none) (ml : mg "len" = none) : FnOk P w K mg base CX0 3 f fd ["value", "many"] (spRow K) := by
  refine F.ok scR (fun vs H Q E h => ?_) (fun cdv A outer s H vs Q E hr h => ?_)
  · obtain ⟨x, o, n, rfl, _⟩ := h
    rfl
  · obtain ⟨x, o, n, rfl, hx, q⟩ := h
    have hr1 : Room 1 _ := hr.mono (by decide)
    refine ⟨_, pss_cons (ps_if (PW.pt (pw_or (pt_not (pt_val (pe_callB call_isi (by rfl) mi (by decide +kernel) (pa_cons (pv 0) (pa_cons (pe_bltn (v := .ty "tuple") (by rfl) mt (by decide +kernel) rfl) pa_nil)))))
        (pw_or (pt_cmpR op_eq (pe_callB call_len_seq (by rfl) ml PySem.boot_len (pa_cons (pv 0) pa_nil)) pe_int (nomark _))
        (pw_or1 (pt_not (pt_val (pe_callB call_isi (by rfl) mi (by decide +kernel) (pa_cons (pe_ix ix_tup (pv 0) pe_int (fun _ _ => rfl)) (pa_cons (pe_bltn (v := .ty "str") (by rfl) ms (by decide +kernel) rfl) pa_nil)))))))))
        (pss_one (ps_ret pe_bl)) pss_nil)
      (pss_cons (ps_if (pt_cmpR op_eq (pe_ix ix_tup (pv 0) pe_int (fun _ _ => rfl)) pe_str (nomark _))
        (pss_one (ps_ret (pe_and (pe_call GT hr1 (by rfl) gT FT.kp bT .nil pass0 (pa_cons (pv 0) (pa_cons pe_int pa_nil)))
          (pe_and (pe_call GW hr1 (by rfl) gW FW.kp bW .nil pass0 (pa_cons (pe_ix ix_tup (pv 0) pe_int (fun _ _ => rfl)) pa_nil))
          (pe_and (pe_call GW hr1 (by rfl) gW FW.kp bW .nil pass0 (pa_cons (pe_ix ix_tup (pv 0) pe_int (fun _ _ => rfl)) pa_nil))
          (pe_one (pe_cmpR op_ge (pe_ix ix_tup (pv 0) pe_int (fun _ _ => rfl)) pe_int (nomark _)))))))) pss_nil)
      (pss_cons (ps_if (pt_cmpR op_eq (pe_ix ix_tup (pv 0) pe_int (fun _ _ => rfl)) pe_str (nomark _))
        (pss_one (ps_ret (pe_and (pe_call GT hr1 (by rfl) gT FT.kp bT .nil pass0 (pa_cons (pv 0) (pa_cons pe_int pa_nil)))
          (pe_one (pe_call GX hr (by rfl) gX FX.kp bX .nil pass0 (pa_cons (pe_ix ix_tup (pv 0) pe_int (fun _ _ => rfl)) (pa_cons (pv 1) pa_nil))))))) pss_nil)
      (pss_cons (ps_if (pt_cmpR op_notIn_seq (pe_ix ix_tup (pv 0) pe_int (fun _ _ => rfl)) (pe_glob (v := .ref d) (by rfl) gWs rfl) (by rfl)) (pss_one (ps_ret pe_bl)) pss_nil)
      (pss_one (ps_ret (pe_and (pe_call GT hr1 (by rfl) gT FT.kp bT .nil pass0 (pa_cons (pv 0) (pa_cons pe_int pa_nil)))
          (pe_and (pe_call GX hr (by rfl) gX FX.kp bX .nil pass0 (pa_cons (pe_ix ix_tup (pv 0) pe_int (fun _ _ => rfl)) (pa_cons (pv 1) pa_nil)))
          (pe_one (pe_call GX hr (by rfl) gX FX.kp bX .nil pass0 (pa_cons (pe_ix ix_tup (pv 0) pe_int (fun _ _ => rfl)) (pa_cons (pv 1) pa_nil))))))))))), ?_⟩
    rcases hx with ⟨r, rfl, p, rfl, hp⟩ | ⟨rfl, hx⟩
    · obtain ⟨wd, cs⟩ := r
      refine ⟨_, rfl, .ref p, .ty "tuple", .type "tuple", .type "tuple", true, rfl, .ty _, sqT_ty hp, kit_ty (by decide +kernel), true, rfl, iteF ?_⟩
      refine ⟨_, rfl, p, _, rfl, .inr hp, rfl, _, rfl, iteF2 (decide_eq_false fun z => by simp [itemsV] at z; omega) ?_⟩
      refine ⟨_, rfl, p, _, 0, .str (S wd), rfl, rfl, hp, atI_nat (j := 0) rfl, ?_⟩
      refine ⟨.str (S wd), .ty "str", .type "str", .type "str", true, rfl, .ty _, .base (.str _), kit_ty (by decide +kernel), true, rfl, iteF ?_⟩
      have len3 : decide ((itemsV (wd, cs)).length = 3) = decide (cs.length = 2) := by simp [itemsV]
      have len2 : decide ((itemsV (wd, cs)).length = 2) = decide (cs.length = 1) := by simp [itemsV]
      refine ⟨_, rfl, p, _, 0, .str (S wd), rfl, rfl, hp, atI_nat (j := 0) rfl, rfl, _, rfl, ?_⟩
      rw [show decide (V.str (S wd) = V.str ("fraction" : Str)) = decide (wd = W "fraction") from eqW wd "fraction"]
      have q : Q (.bl (goodRow (wd, cs) n)) H := q
      unfold goodRow at q
      by_cases h1 : wd = W "fraction"
      · refine iteT2 (decide_eq_true h1) ?_
        rw [if_pos h1] at q
        refine ⟨_, rfl, p, _, 3, rfl, hp, _, rfl, ?_⟩
        rw [len3]
        match cs, hp, q with
        | [], _, q => exact iteF2 rfl q
        | [x], _, q => cases x <;> exact iteF2 rfl q
        | x :: y :: _ :: _, _, q => cases x <;> cases y <;> exact iteF2 (decide_eq_false (by simp)) q
        | [a, b], hp, q =>
          refine iteT2 rfl ?_
          refine ⟨_, rfl, p, _, 1, cellV a, rfl, rfl, hp, atI_nat (j := 1) rfl, a, rfl, _, rfl, ?_⟩
          cases a with
          | none => exact iteF2 rfl q
          | some a =>
            refine iteT2 rfl ?_
            refine ⟨_, rfl, p, _, 2, cellV b, rfl, rfl, hp, atI_nat (j := 2) rfl, b, rfl, _, rfl, ?_⟩
            cases b with
            | none => exact iteF2 rfl q
            | some b =>
              refine iteT2 rfl ?_
              exact ⟨_, rfl, p, _, 2, .int b, rfl, rfl, hp, atI_nat (j := 2) rfl, _, _, rfl, rfl, q⟩
      · refine iteF2 (decide_eq_false h1) ?_
        rw [if_neg h1] at q
        refine ⟨_, rfl, p, _, 0, .str (S wd), rfl, rfl, hp, atI_nat (j := 0) rfl, rfl, _, rfl, ?_⟩
        rw [show decide (V.str (S wd) = V.str ("root" : Str)) = decide (wd = W "root") from eqW wd "root"]
        by_cases h2 : wd = W "root"
        · refine iteT2 (decide_eq_true h2) ?_
          rw [if_pos h2] at q
          refine ⟨_, rfl, p, _, 2, rfl, hp, _, rfl, ?_⟩
          rw [len2]
          match cs, hp, q with
          | [], _, q => exact iteF2 rfl q
          | x :: _ :: _, _, q => cases x <;> exact iteF2 (decide_eq_false (by simp)) q
          | [a], hp, q =>
            refine iteT2 rfl ?_
            refine ⟨_, rfl, p, _, 1, cellV a, rfl, rfl, hp, atI_nat (j := 1) rfl, _, rfl, a, n, rfl, ?_⟩
            cases a with
            | none => exact q
            | some a => exact q
        · refine iteF2 (decide_eq_false h2) ?_
          rw [if_neg h2] at q
          refine ⟨_, rfl, p, _, 0, .str (S wd), rfl, rfl, hp, atI_nat (j := 0) rfl, d, twoS.map V.str, rfl, .inr (Ws H), rfl, strs_flat _, _, rfl, ?_⟩
          rw [inV_two]
          by_cases h3 : wd ∈ twos
          · refine iteF2 (by rw [decide_eq_true h3]; rfl) ?_
            rw [if_pos h3] at q
            refine ⟨_, rfl, p, _, 3, rfl, hp, _, rfl, ?_⟩
            rw [len3]
            match cs, hp, q with
            | [], _, q => exact iteF2 rfl q
            | [x], _, q => cases x <;> exact iteF2 rfl q
            | x :: y :: _ :: _, _, q => cases x <;> cases y <;> exact iteF2 (decide_eq_false (by simp)) q
            | [a, b], hp, q =>
              refine iteT2 rfl ?_
              refine ⟨_, rfl, p, _, 1, cellV a, rfl, rfl, hp, atI_nat (j := 1) rfl, _, rfl, a, n, rfl, ?_⟩
              cases a with
              | none => exact ⟨_, rfl, iteF2 rfl q⟩
              | some a =>
                refine ⟨_, rfl, ?_⟩
                cases ha : ixB a n with
                | false =>
                  refine iteF2 ha ?_
                  cases b with
                  | none => exact q
                  | some b =>
                    have q : Q (.bl (ixB a n && ixB b n)) H := q
                    rw [ha] at q
                    exact q
                | true =>
                  refine iteT2 ha ?_
                  refine ⟨_, rfl, p, _, 2, cellV b, rfl, rfl, hp, atI_nat (j := 2) rfl, _, rfl, b, n, rfl, ?_⟩
                  cases b with
                  | none => exact q
                  | some b =>
                    have q : Q (.bl (ixB a n && ixB b n)) H := q
                    rw [ha] at q
                    exact q
          · refine iteT2 (by rw [decide_eq_false h3]; rfl) ?_
            rw [if_neg h3] at q
            exact q
    · rcases hx with ⟨z, rfl⟩ | ⟨i, rfl⟩
      · exact ⟨_, rfl, .str z, .ty "tuple", .type "str", .type "tuple", false, rfl, .ty _, .base (.str z), kit_ty (by decide +kernel), false, rfl, iteT q⟩
      · exact ⟨_, rfl, .int i, .ty "tuple", .type "int", .type "tuple", false, rfl, .ty _, .base (.int i), kit_ty (by decide +kernel), false, rfl, iteT q⟩
end
end R4

set_option Elab.async false
set_option linter.all false
set_option maxRecDepth 100000
set_option maxHeartbeats 2000000
/-! enumerate over a tuple, or over a list or a tuple. -/
namespace R5
open PySem PySem.Spec PyProof.Rows L2 R0
section
set_option maxHeartbeats 1000000
theorem meets_enum1 {v : Value} {o : Obj} {Hs : Heap → Prop} (B : Begins v o Hs) :
    Meets (Builtin.«enumerate.__new__» ⟨[.type "enumerate", v], []⟩) (fun _ R s => Hs s.heap ∧ R (.ok (.ret (.ref (s.heap.push o).objs.size)))
      { s with heap := (s.heap.push o).push { cls := .type "enumerate", data := .fields #[.none, .bool false, .ref s.heap.objs.size, rawInt 0, .none, .none] } }) := by
  refine .of_wp fun prog w A R s h => ?_
  obtain ⟨hp, gs, dr, tk, os⟩ := s
  obtain ⟨h1, h⟩ := h
  have hsub := sub_enumerate
  have walkq : ∀ {A2 : Around} {E2 : Value → Shared → Prop} {Q2 : Value → Shared → Prop}, Q2 (.ref hp.objs.size) ⟨hp.push o, gs, dr, tk, os⟩ → wpAny (model prog w) A2 (pyIter v) Q2 E2 ⟨hp, gs, dr, tk, os⟩ :=
    fun q => B.iter prog w _ _ ⟨hp, gs, dr, tk, os⟩ _ h1 q
  wp_walk using walkq
  refine wpAny_stack_any fun st => wpAny_pure ?_
  split
  · rename_i c _ _ _ _ _
    cases (c == Value.type "enumerate") <;> (wp_walk using walkq; exact ⟨_, rfl, h⟩)
  · wp_walk using walkq
    exact ⟨_, rfl, h⟩
end
section
variable {prog : Program} {w : World} {A : Around} {E : Value → Shared → Prop} {s : Shared}
theorem call_enumT {l : Addr} {items : Array Value} {Q : Value → Shared → Prop} (hL : s.heap.IsTuple l items)
    (h : ∀ h', IsEnum h' (s.heap.objs.size + 1) s.heap.objs.size 0 .none → h'.IsTupleIter s.heap.objs.size l 0 → h'.objs.size = s.heap.objs.size + 2 →
      (∀ b u, s.heap.get? b = some u → h'.get? b = some u) → Q (.ref (s.heap.objs.size + 1)) { s with heap := h' }) :
    wpAny (model prog w) A (call (.type "enumerate") [.ref l]) Q E s := by
  refine callType_new F.called_enumerate (by decide) (F.typeCall_enumerate_1 _) (F.newCall_enumerate_1 _) (fun obj => F.args_object_init_2 obj _) F.entry_enumerate_new (meets_enum1 (begins_tuple l items)) ⟨hL, ?_⟩
  obtain ⟨oi, hoi⟩ : ∃ oi : Obj, oi = { cls := .type "tuple_iterator", data := .fields #[.ref l, .int 0 0] } := ⟨_, rfl⟩
  rw [← hoi]
  have fz : oi.isFreed = false := by rw [hoi]; rfl
  have hz : (s.heap.push oi).objs.size = s.heap.objs.size + 1 := Heap.size_push ..
  show _ ∧ _
  rw [hz]
  have he : IsEnum ((s.heap.push oi).push { cls := .type "enumerate", data := .fields #[.none, .bool false, .ref s.heap.objs.size, rawInt 0, .none, .none] }) (s.heap.objs.size + 1) s.heap.objs.size 0 .none := by
    have z := Heap.get?_push_size (s.heap.push oi) (o := { cls := .type "enumerate", data := .fields #[.none, .bool false, .ref s.heap.objs.size, rawInt 0, .none, .none] }) rfl
    rwa [hz] at z
  exact ⟨⟨_, he, rfl⟩, h _ he ⟨oi, Heap.get?_push_of_some _ (Heap.get?_push_size _ fz), by rw [hoi], by rw [hoi] <;> rfl⟩ (by rw [Heap.size_push, hz]) fun b u x => Heap.get?_push_of_some _ (Heap.get?_push_of_some _ x)⟩
end
/-- the tuple at a as it stands at each turn, each item in a new pair -/
def ItT (K : PySem.W.Frag) (a : Addr) : It :=
  ⟨fun i H => ∃ (xs : List V) (x : V), SqT K H a xs ∧ xs[i]? = some x, fun i H v H' => ∃ T x, v = .ref T ∧ H T = none ∧ H' = upd H T (.tup [.int (i : Nat), x]) ∧ ∀ xs, SqT K H a xs → xs[i]? = some x, fun i H => ∃ xs : List V, SqT K H a xs ∧ xs.length = i⟩
theorem turn_enumT {P : Program} {w : World} {K : PySem.W.Frag} {elts : List Expr} {kk : Nat} {tpos : Pos} (a e it : Addr) :
    Turn P w K (.Tuple elts kk tpos) (ItT K a) [e, it] e (fun i h => (∃ old, IsEnum h e it ((i : Nat) : Int) old) ∧ h.IsTupleIter it a i ∧ e ≠ it ∧ a ≠ it ∧ e ≠ a) where
  mem := List.mem_cons_self ..
  obj := fun i h st b hb => by
    obtain ⟨⟨old, he⟩, ⟨o, ho, hc, hd⟩, _⟩ := st
    rcases List.mem_cons.mp hb with z | z
    · subst z
      exact ⟨_, he, fun v q => nomatch q⟩
    · rw [List.mem_singleton] at z
      subst z
      exact ⟨o, ho, fun v q => by rw [hd] at q; cases q⟩
  keep := fun i h h' st k => let ⟨⟨old, he⟩, hi, hne⟩ := st; ⟨⟨old, k e (List.mem_cons_self ..) _ he⟩, hi.at fun o q => k it (by simp) o q, hne⟩
  item := by
    intro X hP hw hK hc i pins s σ H E I hf st hg
    subst hP hw hK
    obtain ⟨⟨old, he⟩, hit, hne, hai, hea⟩ := st
    obtain ⟨xs, x, hq, hx⟩ := hg
    obtain ⟨its, rv, p, hz⟩ := I.tuple hq
    obtain ⟨u, hu, ru⟩ := rv.get hx
    have lt1 : e < s.heap.objs.size := Heap.lt_size he
    have lt2 : it < s.heap.objs.size := hit.elim fun _ z => Heap.lt_size z.1
    have hp : s.heap.IsTuple a its.toArray := p
    have hi : i < its.toArray.size := by
      have := (List.getElem?_eq_some_iff.mp hu).1
      simpa using this
    refine wpAny_pyNext_enum_itemD (Draws.tuple (A := X.A.in1) (I.ok.hd hc) it a hai its.toArray) he ⟨hit, hp⟩ hi hne (by simp [hne, hea]) fun y h' tk hy ho hst hT hsz hk => ?_
    obtain ⟨hit', hp'⟩ := hst
    have eu : y = u := by
      have hy : its.toArray[i]? = some y := hy
      have hu' : its.toArray[i]? = some u := by simpa using hu
      rw [hu'] at hy
      exact (Option.some.inj hy).symm
    subst eu
    refine ⟨_, rfl, wpAny_letOwnedTupleGo_enum (s := { s with heap := h', toks := tk + 1 }) ho fun h'' he' sb => ?_⟩
    have hT2 : h''.get? s.heap.objs.size = some { cls := .type "tuple", data := .seq #[.int i tk, y] } := (sb.2 _ (Nat.ne_of_gt lt1)).trans hT
    have new : ObjOk X.prog X.w (upd H s.heap.objs.size (.tup [.int (i : Nat), x])) h'' s.heap.objs.size (.tup [.int (i : Nat), x]) :=
      ⟨by show 2 ≤ sizeLine; decide, [.int i tk, y], .cons ⟨_, rfl⟩ (.cons ru .nil), _, hT2, rfl, _, rfl⟩
    have I1 : Inv X pins σ (upd H s.heap.objs.size (.tup [.int (i : Nat), x])) { s with heap := h'', toks := tk + 1 } :=
      I.turnedNew (ch := [e, it]) (fun b ob hb q => (sb.2 b (fun z => hb (by simp [z]))).trans (hk b ob (fun z => hb (by simp [z])) (fun z => hb (by simp [z])) q)) hf (Nat.le_refl _) new
    refine ⟨.ref s.heap.objs.size, _, I1, rfl, ⟨_, x, rfl, I.hok.fresh (Nat.le_refl _), rfl, fun ys hy => by rw [I.tuple_inj hy hq]; exact hx⟩, ⟨⟨y, ?_⟩, hit'.at fun o q => (sb.2 it (Ne.symm hne)).trans q, hne, hai, hea⟩, fun b hb => ?_⟩
    · have e1 : ((i + 1 : Nat) : Int) = (i : Int) + 1 := by omega
      rw [e1]
      exact he'
    · have hb' : b < s.heap.objs.size := by
        rcases List.mem_cons.mp hb with z | z
        · rw [z]; exact lt1
        · rw [List.mem_singleton.mp z]; exact lt2
      rw [upd_ne (Nat.ne_of_lt hb')]
      exact (hf b hb).1
  done := by
    intro X hP hw hK hc i pins s σ H E I hf st hg
    subst hP hw hK
    obtain ⟨⟨old, he⟩, hit, hne, hai, hea⟩ := st
    obtain ⟨xs, hq, hx⟩ := hg
    obtain ⟨its, rv, p, hz⟩ := I.tuple hq
    obtain ⟨f0, f1, f2, f3, f4, f5⟩ := hf it (by simp)
    have hp : s.heap.IsTuple a its.toArray := p
    have en : i = its.toArray.size := by
      have := rv.length
      simp
      omega
    subst en
    exact wpAny_pyNext_enum_endD (Draws.tuple (A := X.A.in1) (I.ok.hd hc) it a hai its.toArray) he ⟨hit, hp⟩ fun h' eb => ⟨rfl, I.turned (t' := s.toks) (fun b o hb q => eb b o hb q) f0 f1 f3 f4 f5⟩
  self := fun A i s Q E st h => let ⟨⟨_, he⟩, _⟩ := st; wpAny_pyIter_enum he h
/-- over a list or a tuple -/
def EnAt (K : PySem.W.Frag) (a : Addr) (xs : List V) (R : It → Hp → Prop) (H1 : Hp) : Prop := (SqL K H1 a xs ∧ R (Ite K a) H1) ∨ (SqT K H1 a xs ∧ R (ItT K a) H1)
def iEn (K : PySem.W.Frag) (ta : TA) : TI := fun σ H R => ta σ H fun vs H1 => ∃ a xs, vs = [.ref a] ∧ EnAt K a xs R H1
theorem pi_en {X : Cx} {e : Expr} {ta : TA} {p pos tpos : Pos} {elts : List Expr} {kk : Nat} (hg : Gl X "enumerate") (hm : X.mg "enumerate" = none) (ha : PA X [e] ta) (hs : starEach [e] X.env = [(false, eval e X.env)] := by rfl) :
    PI X (.Tuple elts kk tpos) (.Call (.Name "enumerate" p) [e] [] pos) (iEn X.K ta) := by
  constructor
  intro pins s σ H R I h
  refine Call_ (ld_blt I hg hm boot_enumerate (PyProof.Rows.callWith_type1 (thn (ha.run pos pins s σ H _ I h) fun us s1 q1 => ?_) hs rfl))
  obtain ⟨vs, H1, I1, r1, a, xs, ex, q⟩ := q1
  subst ex
  obtain ⟨u, eu, ru⟩ := r1.one
  subst eu
  obtain rfl : u = Value.ref a := ru
  have apart : ∀ b, b = s1.heap.objs.size + 1 ∨ b = s1.heap.objs.size → s1.heap.objs.size ≤ b := by
    intro b hb
    rcases hb with z | z <;> omega
  rcases q with ⟨hq, q⟩ | ⟨hq, q⟩
  · obtain ⟨its, rv, p', hz⟩ := I1.list hq
    refine call_enumerate_list p'.isList fun h' he hit hsz hk => wpAny_pyIter_enum he ?_
    refine ⟨s1.heap.objs.size + 1, [s1.heap.objs.size + 1, s1.heap.objs.size], _, _, H1, rfl, I1.kept (t' := s1.toks) hk, turn_enum a (s1.heap.objs.size + 1) s1.heap.objs.size, ⟨⟨.none, he⟩, hit, Nat.succ_ne_self _⟩, fun b hb => ?_, q⟩
    have hle := apart b (by simpa using hb)
    exact I1.fpOk hle (I1.hok.fresh hle)
  · obtain ⟨its, rv, p', hz⟩ := I1.tuple hq
    have hp : s1.heap.IsTuple a its.toArray := p'
    have lt : a < s1.heap.objs.size := hp.elim fun _ z => Heap.lt_size z.1
    refine call_enumT hp fun h' he hit hsz hk => wpAny_pyIter_enum he ?_
    refine ⟨s1.heap.objs.size + 1, [s1.heap.objs.size + 1, s1.heap.objs.size], _, _, H1, rfl, I1.kept (t' := s1.toks) hk, turn_enumT a (s1.heap.objs.size + 1) s1.heap.objs.size, ⟨⟨.none, he⟩, hit, Nat.succ_ne_self _, Nat.ne_of_lt lt, Nat.ne_of_gt (Nat.lt_succ_of_lt lt)⟩, fun b hb => ?_, q⟩
    have hle := apart b (by simpa using hb)
    exact I1.fpOk hle (I1.hok.fresh hle)
theorem walk_enT {K : PySem.W.Frag} {a : Addr} {xs : List V} : Walk (ItT K a) xs.length (fun H => SqT K H a xs) (YPair (fun i => some (.int (i : Nat))) (fun i => xs[i]?)) := by
  refine ⟨fun i _ hi q => ⟨xs, xs[i], q, List.getElem?_eq_getElem hi⟩, fun _ q => ⟨xs, q, rfl⟩, fun i H v H' _ q y => ?_⟩
  obtain ⟨T, x, h1, h2, h3, h4⟩ := y
  exact ⟨T, .int (i : Nat), x, h1, h2, h3, rfl, h4 xs q⟩
theorem en_of {K : PySem.W.Frag} {a : Addr} {xs : List V} {R : It → Hp → Prop} {H0 H1 : Hp} (h : SqX K H0 a xs) (s : Same H0 H1) (q : ∀ (J : It) (G : Hp → Prop), Walk J xs.length G (YPair (fun i => some (.int (i : Nat))) (fun i => xs[i]?)) → (∀ H', Same H0 H' → G H') → R J H1) : EnAt K a xs R H1 := by
  rcases h with h | h
  · exact .inl ⟨s.seq h, q _ _ walk_enum fun H' s' => s'.seq h⟩
  · exact .inr ⟨sqT_same h s, q _ _ walk_enT fun H' s' => sqT_same h s'⟩
end R5

set_option Elab.async false
set_option linter.all false
set_option maxRecDepth 100000
set_option maxHeartbeats 2000000
/-! What is a reckoning. -/
namespace R6
open PySem PySem.Spec PyProof.Rows L2 Cau Dr65 R0 R3 R4 R5
abbrev sReck : Stmt := topS 25
abbrev sCheck : Stmt := topS 26
/-- what the top has written of an own error without an __init__ -/
structure TxtE (K : PySem.W.Frag) (mg : Str → Option Value) (x : Str) (C : Addr) : Prop where
  g : mg x = some (.ref C)
  x : PySem.W.excIn K C [.type "ValueError", .type "Exception", .type "BaseException", .type "object"] "ValueError.__new__" = true
  k : PySem.W.keepIn K (.ref C) = true
  b : PySem.W.subIn K (.ref C) (.type "BaseException") = some true
  t : PySem.W.typeIn K (.ref C) = some (.type "type")
/-- neither list nor tuple nor text -/
inductive Odd (H : Hp) : V → Prop
  | non : Odd H .non
  | int {i : Int} : Odd H (.int i)
  | bl {b : Bool} : Odd H (.bl b)
  | dK {p : Addr} {kvs : List (Key × V)} (h : H p = some (.dK kvs)) : Odd H (.ref p)
theorem Odd.same {H H' : Hp} {v : V} (h : Odd H v) (s : Same H H') : Odd H' v := by
  cases h with
  | non => exact .non
  | int => exact .int
  | bl => exact .bl
  | dK h => exact .dK (s _ _ h)
theorem Odd.ty {K : PySem.W.Frag} {H : Hp} {v : V} (h : Odd H v) : ∃ t, TyX K H v (.type t) ∧ kitB t "tuple" = some false ∧ kitB t "list" = some false ∧ kitB t "str" = some false := by
  cases h with
  | non => exact ⟨"NoneType", .base .non, by decide +kernel, by decide +kernel, by decide +kernel⟩
  | bl => exact ⟨"bool", .base (.bl _), by decide +kernel, by decide +kernel, by decide +kernel⟩
  | int => exact ⟨"int", .base (.int _), by decide +kernel, by decide +kernel, by decide +kernel⟩
  | dK h => exact ⟨"dict", .base (.dK h), by decide +kernel, by decide +kernel, by decide +kernel⟩
/-- a value as a list of values that may be rows -/
def Rk (K : PySem.W.Frag) (H : Hp) (x : V) (o : Option (List (Option Rw))) : Prop :=
  (∃ p xs os, x = .ref p ∧ SqX K H p xs ∧ os.length = xs.length ∧ xs.length ≤ 1000 ∧ (∀ (i : Nat) (v : V) (r : Option Rw), xs[i]? = some v → os[i]? = some r → RowO K H v r) ∧ o = some os) ∨ (Odd H x ∧ o = none)
def goodOs : List (Option Rw) → Nat → Bool
  | [], _ => true
  | o :: r, n => goodO o n && goodOs r (n + 1)
def reckB : Option (List (Option Rw)) → Bool
  | some os => !os.isEmpty && goodOs os 0
  | none => false
theorem goodOs_some : ∀ (rs : List Rw) (n : Nat), goodOs (rs.map some) n = goodFrom rs n
  | [], _ => rfl
  | r :: rs, n => by
    show (goodRow r n && goodOs (rs.map some) (n + 1)) = (goodRow r n && goodFrom rs (n + 1))
    rw [goodOs_some rs (n + 1)]
theorem reck_some (rs : List Rw) : reckB (some (rs.map some)) = goodRows rs := by
  show (!(rs.map some).isEmpty && goodOs (rs.map some) 0) = _
  rw [goodOs_some, List.isEmpty_map]
  rfl
/-- what is judged, place by place -/
theorem goodOs_get : ∀ (os : List (Option Rw)) (n : Nat) (bs : List Bool), bs.length = os.length → (∀ i o, os[i]? = some o → bs[i]? = some (goodO o (n + i))) → bs.all id = goodOs os n
  | [], n, bs, hl, _ => by
    rw [List.length_eq_zero_iff.mp hl]
    rfl
  | o :: r, n, [], hl, _ => by simp at hl
  | o :: r, n, b :: bs, hl, h => by
    have h0 : b = goodO o n := by simpa using h 0 o rfl
    have hr := goodOs_get r (n + 1) bs (by simpa using hl) fun i x e => by
      have z := h (i + 1) x (by simpa using e)
      rw [show n + 1 + i = n + (i + 1) by omega]
      simpa using z
    show (b && bs.all id) = (goodO o n && goodOs r (n + 1))
    rw [h0, hr]
theorem rowO_same {K : PySem.W.Frag} {H H' : Hp} {x : V} {o : Option Rw} (h : RowO K H x o) (s : Same H H') : RowO K H' x o := by
  rcases h with ⟨r, e, a, e2, h⟩ | h
  · exact .inl ⟨r, e, a, e2, sqT_same h s⟩
  · exact .inr h
theorem Rk.same {K : PySem.W.Frag} {H H' : Hp} {x : V} {o : Option (List (Option Rw))} (h : Rk K H x o) (s : Same H H') : Rk K H' x o := by
  rcases h with ⟨p, xs, os, e, h1, h2, h3, h4, h5⟩ | ⟨h, e⟩
  · exact .inl ⟨p, xs, os, e, h1.same s, h2, h3, fun i v r e1 e2 => rowO_same (h4 i v r e1 e2) s, h5⟩
  · exact .inr ⟨h.same s, e⟩
def Lv (K : PySem.W.Frag) (H : Hp) (x : V) (b : Bool) : Prop := (∃ p xs, x = .ref p ∧ SqX K H p xs ∧ b = true) ∨ (Odd H x ∧ b = false)
def spIsList (K : PySem.W.Frag) : Sp := fun vs H Q _ => ∃ (x : V) (b : Bool), vs = [x] ∧ Lv K H x b ∧ ∀ H', Same H H' → Q (.bl b) H'
def spReck (K : PySem.W.Frag) : Sp := fun vs H Q _ => ∃ (x : V) (o : Option (List (Option Rw))), vs = [x] ∧ Rk K H x o ∧ ∀ H', Same H H' → Q (.bl (reckB o)) H'
def spCheck (K : PySem.W.Frag) (C : Addr) : Sp := fun vs H Q E => ∃ (x : V) (o : Option (List (Option Rw))), vs = [x] ∧ Rk K H x o ∧ ((reckB o = true ∧ ∀ H', Same H H' → Q .non H') ∨ (reckB o = false ∧ ∀ H', Same H H' → E (.ref C) none H'))
theorem same_none {H H' : Hp} {D : Addr} (s : Same H H') (n : H' D = none) : H D = none := by
  cases e : H D with
  | none => rfl
  | some u =>
    rw [s _ _ e] at n
    cases n
section
variable {P : Program} {w : World} {K : PySem.W.Frag} {mg : Str → Option Value} {base : Heap}
theorem scI : FnScope ["value"] ["value"] (defScope sIsList) := ⟨rfl, rfl, rfl, by decide +kernel, rfl, by decide +kernel, by decide +kernel⟩
theorem ok_isList {f : Addr} {fd : FuncData} (F : Fun K "is_list" "is_list" sIsList f fd) (mi : mg "isinstance" = none) (mt : mg "tuple" = none) (ml : mg "list" = none) : FnOk P w K mg base CX0 1 f fd ["value"] (spIsList K) := by
  refine F.ok scI (fun vs H Q E h => ?_) (fun cdv A outer s H vs Q E hr h => ?_)
  · obtain ⟨x, o, rfl, _⟩ := h
    rfl
  · obtain ⟨x, b, rfl, hx, q⟩ := h
    refine ⟨_, pss_one (ps_ret (pe_callB call_isiT (by rfl) mi (by decide +kernel) (pa_cons (pv 0) (pa_cons (pe_tup (pa_cons (pe_bltn (v := .ty "list") (by rfl) ml (by decide +kernel) rfl) (pa_cons (pe_bltn (v := .ty "tuple") (by rfl) mt (by decide +kernel) rfl) pa_nil))) pa_nil)))), ?_⟩
    refine ⟨_, rfl, by show 2 ≤ sizeLine; decide, fun t nt => ?_⟩
    have S1 : Same H (upd H t (.tup [.ty "list", .ty "tuple"])) := same_upd nt
    obtain ⟨ty, h1, h2⟩ : ∃ ty : Value, TyX K (upd H t (.tup [.ty "list", .ty "tuple"])) x ty ∧ PySem.W.kitAny K ty [.type "list", .type "tuple"] = some b := by
      rcases hx with ⟨p, xs, rfl, h | h, rfl⟩ | ⟨h, rfl⟩
      · exact ⟨_, sqL_ty (S1.seq h), kitAny_cons (b := true) (kit_ty (by decide +kernel)) (fun z => by cases z) (fun _ => rfl)⟩
      · exact ⟨_, sqT_ty (sqT_same h S1), kitAny_cons (b := false) (kit_ty (by decide +kernel)) (fun _ => kitAny_cons (b := true) (kit_ty (by decide +kernel)) (fun z => by cases z) (fun _ => rfl)) (fun z => by cases z)⟩
      · obtain ⟨t2, ht, h1, h2, _⟩ := (h.same S1).ty (K := K)
        exact ⟨_, ht, kitAny_cons (b := false) (kit_ty h2) (fun _ => kitAny_cons (b := false) (kit_ty h1) (fun _ => kitAny_nil) (fun z => by cases z)) (fun z => by cases z)⟩
    exact ⟨x, t, [.ty "list", .ty "tuple"], ty, [.type "list", .type "tuple"], b, rfl, upd_same, .cons (.ty _) (.cons (.ty _) .nil), h1, h2, q _ S1⟩
theorem scK : FnScope ["value", "at", "row"] ["value"] (defScope sReck) := ⟨rfl, rfl, rfl, by decide +kernel, rfl, by decide +kernel, by decide +kernel⟩
theorem ok_reck {f fL fR : Addr} {fd fdL fdR : FuncData} (F : Fun K "is_reckoning" "is_reckoning" sReck f fd) (FL : Fun K "is_list" "is_list" sIsList fL fdL) (GL : FnOk P w K mg base CX0 1 fL fdL ["value"] (spIsList K)) (bL : Binds K fdL ["value"] []) (gL : mg "is_list" = some (.ref fL))
    (FR : Fun K "is_row" "is_row" sRow fR fdR) (GR : FnOk P w K mg base CX0 3 fR fdR ["value", "many"] (spRow K)) (bR : Binds K fdR ["value", "many"] []) (gR : mg "is_row" = some (.ref fR))
    (ml : mg "len" = none) (ma : mg "all" = none) (me : mg "enumerate" = none) : FnOk P w K mg base CX0 4 f fd ["value"] (spReck K) := by
  refine F.ok scK (fun vs H Q E h => ?_) (fun cdv A outer s H vs Q E hr h => ?_)
  · obtain ⟨x, o, rfl, _⟩ := h
    rfl
  · obtain ⟨x, o, rfl, hx, q⟩ := h
    have hr1 : Room 1 _ := hr.mono (by decide)
    refine ⟨_, pss_cons (ps_if (PW.pt (pw_or (pt_not (pt_val (pe_call GL hr1 (by rfl) gL FL.kp bL .nil pass0 (pa_cons (pv 0) pa_nil))))
        (pw_or1 (pt_cmpR op_eq (pe_callB call_len_seq (by rfl) ml PySem.boot_len (pa_cons (pv 0) pa_nil)) pe_int (nomark _))))) (pss_one (ps_ret pe_bl)) pss_nil)
      (pss_one (ps_ret (pe_callB (cr_all rfl) (by rfl) ma (by decide +kernel) (pa_cons
        (pe_lc (own := [("at", 1), ("row", 2)]) (g := gTup K 2 (gCons (gName 1) (gCons (gName 2) gNil))) (tt := tYes) rfl scK.nd (pi_en (by rfl) me (pa_cons (pv 0) pa_nil))
          (blkOk_by (own := [("at", 1), ("row", 2)]) (N := ["value", "at", "row"]) (sc := defScope sReck) (by decide +kernel))
          (fun _ _ _ _ _ => pg_tup rfl (pgs_cons (pg_name (i := 1) scK.nd rfl (.inl rfl)) (pgs_cons (pg_name (i := 2) scK.nd rfl (.inl rfl)) pgs_nil)))
          (fun _ _ _ _ _ => pts_nil)
          (fun _ _ _ _ _ => pe_call GR hr (by rfl) gR FR.kp bR .nil pass0 (pa_cons (pv 2) (pa_cons (pv 1) pa_nil)))) pa_nil)))), ?_⟩
    have q' : ∀ b H', reckB o = b → Same H H' → Q (.bl b) H' := fun b H' e sm => by
      subst e
      exact q H' sm
    rcases hx with ⟨p, xs, os, rfl, hp, hl, hl2, hok, rfl⟩ | ⟨hn, rfl⟩
    · refine ⟨_, rfl, .ref p, true, rfl, .inl ⟨p, xs, rfl, hp, rfl⟩, fun H1 sm1 => ⟨_, rfl, iteF ?_⟩⟩
      refine ⟨_, rfl, p, xs, rfl, hp.same sm1, rfl, _, rfl, ?_⟩
      by_cases h0 : xs.length = 0
      · refine iteT2 (decide_eq_true (by rw [h0]; rfl)) (q' _ _ ?_ sm1)
        have : os = [] := List.length_eq_zero_iff.mp (hl.trans h0)
        rw [this]
        rfl
      · refine iteF2 (decide_eq_false fun z => h0 (by have := V.int.inj z; omega)) ?_
        refine ⟨_, rfl, p, xs, rfl, en_of hp sm1 fun J G wk hG => fun D nD => ?_⟩
        have nD0 : H D = none := same_none sm1 nD
        refine lc_it wk (fun i H' => ∃ bs : List Bool, H' D = some (.lst (bs.map V.bl)) ∧ bs.length = i ∧ (∀ j o, j < i → os[j]? = some o → bs[j]? = some (goodO o (0 + j))) ∧ Same H H') ⟨[], upd_same, rfl, fun j o h => absurd h (Nat.not_lt_zero _), same_put sm1 nD0⟩ (fun i H' _ ⟨_, _, _, _, sm⟩ => hG _ sm) ?_ ?_
        · rintro i x H2 H3 hi ⟨bs, hD, hbl, hbs, sm⟩ ⟨T, n, v, rfl, nT, rfl, en, ev⟩
          cases en
          have ho : os[i]? = some os[i] := List.getElem?_eq_getElem (by omega)
          have nTD : D ≠ T := fun z => by rw [← z, hD] at nT; cases nT
          have smT : Same H (upd H2 T (.tup [.int (i : Nat), v])) := sm.trans (same_upd nT)
          refine ⟨T, _, rfl, .inl (.inl upd_same), rfl, _, _, rfl, _, _, rfl, rfl, rfl, ?_⟩
          refine ⟨_, rfl, _, rfl, v, os[i], i, rfl, rowO_same (hok i v _ ev ho) smT, bs.map V.bl, (upd_ne nTD).trans hD, ?_, bs ++ [goodO os[i] i], by rw [upd_same, List.map_append]; rfl, by rw [List.length_append, hbl]; rfl, ?_, same_put smT nD0⟩
          · rw [List.length_map]
            exact small1000 (by omega)
          · intro j o2 hj ho2
            by_cases e : j = i
            · subst e
              rw [ho] at ho2
              cases ho2
              rw [List.getElem?_append_right (by omega), hbl, Nat.sub_self, Nat.zero_add]
              rfl
            · rw [List.getElem?_append_left (by omega)]
              exact hbs j o2 (by omega) ho2
        · rintro H2 ⟨bs, hD, hbl, hbs, sm⟩
          refine ⟨D, bs, rfl, .inl (.inl hD), q' _ _ ?_ sm⟩
          have hall := goodOs_get os 0 bs (by omega) fun j o2 e => hbs j o2 (by have := (List.getElem?_eq_some_iff.mp e).1; omega) e
          rw [hall]
          cases os with
          | nil => exact absurd hl.symm h0
          | cons => rfl
    · exact ⟨_, rfl, x, false, rfl, .inr ⟨hn, rfl⟩, fun H1 sm1 => ⟨_, rfl, iteT (q' _ _ rfl sm1)⟩⟩
theorem scC : FnScope ["value"] ["value"] (defScope sCheck) := ⟨rfl, rfl, rfl, by decide +kernel, rfl, by decide +kernel, by decide +kernel⟩
theorem ok_check {f fR C : Addr} {fd fdR : FuncData} (F : Fun K "check_rows" "check_rows" sCheck f fd) (FR : Fun K "is_reckoning" "is_reckoning" sReck fR fdR) (GR : FnOk P w K mg base CX0 4 fR fdR ["value"] (spReck K)) (bR : Binds K fdR ["value"] []) (gR : mg "is_reckoning" = some (.ref fR))
    (T : TxtE K mg "BadRows" C) : FnOk P w K mg base (L2.CX P w) 5 f fd ["value"] (spCheck K C) := by
  refine F.okX scC (fun vs H Q E h => ?_) (fun cdv A outer s H vs Q E hr h => ?_)
  · obtain ⟨x, o, rfl, _⟩ := h
    rfl
  · obtain ⟨x, o, rfl, hx, q⟩ := h
    refine ⟨_, pss_one (ps_if (pt_not (pt_val (pe_call GR hr (by rfl) gR FR.kp bR .nil pass0 (pa_cons (pv 0) pa_nil)))) (pss_one (ps_raise rfl (takes_of rfl rfl rfl rfl) (pmk_own PySem.F.excBase_ValueError T.x T.g T.k (raises_own T.b T.t) rfl))) pss_nil), ?_⟩
    refine ⟨_, rfl, x, o, rfl, hx, fun H1 sm => ⟨_, rfl, ?_⟩⟩
    rcases q with ⟨e, q⟩ | ⟨e, q⟩
    · rw [e]
      exact iteF (q H1 sm)
    · rw [e]
      exact iteT (q H1 sm)
end
end R6

set_option Elab.async false
set_option linter.all false
set_option maxRecDepth 100000
set_option maxHeartbeats 2000000
/-! The program writes a reckoning. -/
namespace R7
open PySem PySem.Spec PyProof.Rows L2 Cau Dr65 R0 R3 R4 R5 R6
abbrev sDigits : Stmt := topS 12
abbrev sWText : Stmt := topS 15
abbrev sRText : Stmt := topS 16
abbrev sTextOf : Stmt := topS 20
abbrev sRecText : Stmt := topS 27
def piece : Int := 10 ^ 60
theorem str_S (i : Int) : Str.ofString (toString i) = S (intL i) := TL.ext_tl (tl_int i)
theorem intL_nat {i : Int} (h : 0 ≤ i) : intL i = TL.numL i.natAbs := by
  unfold intL
  rw [if_neg (by omega)]
theorem intL_len {i : Int} (h : i.natAbs < 10 ^ 40) : (intL i).length ≤ 41 := by
  have z := TL.numL_len (n := i.natAbs) (k := 40) (by decide) h
  unfold intL
  split
  · rw [List.length_cons]; omega
  · omega
theorem log_small {i : Int} (h : i.natAbs < 10 ^ 40) : i.natAbs.log2 < 1920 := by
  by_cases h0 : i.natAbs = 0
  · rw [h0]; decide
  · exact (Nat.log2_lt h0).mpr (Nat.lt_of_lt_of_le h (by decide +kernel))
def spDigits : Sp := fun vs H Q _ => ∃ i : Int, vs = [.int i] ∧ 0 ≤ i ∧ i.natAbs < 10 ^ 40 ∧ ∀ H', Same H H' → Q (.str (S (intL i))) H'
def spWText : Sp := fun vs H Q _ => ∃ i : Int, vs = [.int i] ∧ i.natAbs < 10 ^ 40 ∧ ∀ H', Same H H' → Q (.str (S (intL i))) H'
theorem noB {X : Cx} {b : List Stmt} : PSs X b (fun _ _ _ => False) := ⟨fun _ _ _ _ _ _ h => h.elim⟩
/-- rows whose wholes are written in short -/
def fitRow (r : Rw) : Prop := r.1.length ≤ 30 ∧ ∃ is : List Int, r.2 = is.map some ∧ is.length ≤ 10 ∧ ∀ i ∈ is, i.natAbs < 10 ^ 40
theorem len_S (l : CL) : (S l).length = l.length := by simp [S, Str.length]
theorem cell_some (is : List Int) : (is.map some).map cellV = is.map V.int := by rw [List.map_map]; rfl
theorem sum_le {α : Type} {f : α → Nat} {c : Nat} : ∀ {l : List α}, (∀ x ∈ l, f x ≤ c) → (l.map f).sum ≤ l.length * c
  | [], _ => by simp
  | a :: r, h => by
    have h1 := h a (by simp)
    have h2 := sum_le (l := r) fun x hx => h x (List.mem_cons_of_mem _ hx)
    rw [List.map_cons, List.sum_cons, List.length_cons, Nat.succ_mul]
    omega
theorem joinL_le {s c : Nat} {ls : List CL} (h : ∀ p ∈ ls, p.length ≤ c) : (TL.joinL [s] ls).length ≤ ls.length * (c + 1) := by
  rcases joinL_len ls s with e | e
  · have := sum_le (f := fun p : CL => p.length + 1) (c := c + 1) fun p hp => Nat.succ_le_succ (h p hp)
    omega
  · rw [e]; simp [TL.joinL]
theorem join_S (a : CL) (ys : List CL) : Txt.join (S a) (ys.map S) = S (TL.joinL a ys) := SX.join_S a ys
section
variable {P : Program} {w : World} {K : PySem.W.Frag} {mg : Str → Option Value} {base : Heap}
theorem scD : FnScope ["n", "pieces", "low"] ["n"] (defScope sDigits) := ⟨rfl, rfl, rfl, by decide +kernel, rfl, by decide +kernel, by decide +kernel⟩
theorem ok_digits {f : Addr} {fd : FuncData} {tP : Tok} (F : Fun K "digits_of" "digits_of" sDigits f fd) (gP : mg "PIECE" = some (.int piece tP)) (ms : mg "str" = none) : FnOk P w K mg base CX0 1 f fd ["n"] spDigits := by
  refine F.ok scD (fun vs H Q E h => ?_) (fun cdv A outer s H vs Q E hr h => ?_)
  · obtain ⟨x, rfl, _⟩ := h
    rfl
  · obtain ⟨i, rfl, h0, hi, q⟩ := h
    refine ⟨_, pss_cons (ps_set (i := 1) scD.nd rfl (.inl rfl) (pe_lst pa_nil))
      (pss_cons (ps_while PassesOwn.never (pt_cmpR op_ge (pv 0) (pe_glob (v := .int piece) (by rfl) gP ⟨_, rfl⟩) (nomark _)) noB)
      (pss_cons (ps_expr (pe_bm PySem.F.plainAttrs_list PySem.F.slot_list_append PySem.F.type_list_append mt_append (pv 1) (pa_cons (pe_callTy call_str_int (by rfl) ms (by decide +kernel) (pa_cons (pv 0) pa_nil)) pa_nil)))
      (pss_one (ps_ret (pe_join pe_str (pe_revL (pv 1))))))), ?_⟩
    refine ⟨Nat.zero_le _, fun l nl => ?_⟩
    refine ⟨fun m σ H' => σ = [some (.int i), some (.ref l), none] ∧ H' = upd H l (.lst []), ⟨0, rfl, rfl⟩, ?_⟩
    rintro m σ H' ⟨rfl, rfl⟩
    refine ⟨_, rfl, _, _, rfl, rfl, _, rfl, iteF2 (decide_eq_false ?_) ?_⟩
    · have : i.natAbs < 10 ^ 60 := Nat.lt_trans hi (by decide)
      unfold piece
      omega
    · refine ⟨_, rfl, .inl ⟨rfl, _, .inl (.inl upd_same)⟩, _, rfl, i, rfl, log_small hi, l, _, _, rfl, rfl, upd_same, by show 0 < sizeLine; decide, ?_⟩
      refine ⟨⟨_, rfl⟩, _, rfl, l, _, rfl, .inl (.inl upd_same), fun p np => ?_⟩
      refine ⟨_, p, [S (intL i)], rfl, rfl, .inl (.inl (.inl ?_)), ?_, ?_⟩
      · rw [upd_same, str_S]
        rfl
      · have := intL_len hi
        simp only [List.map_cons, List.map_nil, List.sum_cons, List.sum_nil, List.length_cons, List.length_nil, len_S]
        have e : (Str.ofString "").length = 0 := by decide
        first
          | omega
          | (rw [e]; omega)
      · have e : Txt.join (Str.ofString "") [S (intL i)] = S (intL i) := by
          rw [show Str.ofString "" = S [] from by decide +kernel]
          exact join_S [] [intL i]
        rw [show Txt.join ("" : Str) [S (intL i)] = S (intL i) from e]
        refine q _ ?_
        intro b o e
        have nb : b ≠ l := ne_of_none e nl
        rw [upd_ne (ne_of_none (by rw [upd_ne nb, upd_ne nb]; exact e) np), upd_ne nb, upd_ne nb]
        exact e
theorem scWT : FnScope ["n"] ["n"] (defScope sWText) := ⟨rfl, rfl, rfl, by decide +kernel, rfl, by decide +kernel, by decide +kernel⟩
theorem ok_wtext {f fD : Addr} {fd fdD : FuncData} (F : Fun K "whole_text" "whole_text" sWText f fd) (FD : Fun K "digits_of" "digits_of" sDigits fD fdD) (GD : FnOk P w K mg base CX0 1 fD fdD ["n"] spDigits) (bD : Binds K fdD ["n"] []) (gD : mg "digits_of" = some (.ref fD)) : FnOk P w K mg base CX0 2 f fd ["n"] spWText := by
  refine F.ok scWT (fun vs H Q E h => ?_) (fun cdv A outer s H vs Q E hr h => ?_)
  · obtain ⟨x, rfl, _⟩ := h
    rfl
  · obtain ⟨i, rfl, hi, q⟩ := h
    refine ⟨_, pss_one (ps_ret (pe_ifExp (pt_cmpR op_lt (pv 0) pe_int (nomark _)) (pe_op op_add_str pe_str (pe_call GD hr (by rfl) gD FD.kp bD .nil pass0 (pa_cons (pe_un un_neg (pv 0)) pa_nil)))
      (pe_call GD hr (by rfl) gD FD.kp bD .nil pass0 (pa_cons (pv 0) pa_nil)))), ?_⟩
    refine ⟨_, rfl, _, _, rfl, rfl, _, rfl, ite2 (fun e => ?_) (fun e => ?_)⟩
    · have h0 : i < 0 := of_decide_eq_true e
      refine ⟨_, rfl, _, rfl, -i, rfl, by omega, by omega, fun H' sm => ⟨_, _, rfl, rfl, ?_, ?_⟩⟩
      · have := intL_len (i := -i) (by omega)
        rw [show ("-" : Str).length = 1 from by decide, len_S, sizeLine_eq]
        omega
      · have e2 : (("-" : Str) ++ S (intL (-i))) = S (intL i) := by
          rw [show ("-" : Str) = S [45] from by decide +kernel, show S [45] ++ S (intL (-i)) = S ([45] ++ intL (-i)) from SX.S_cat _ _]
          congr 1
          unfold intL
          rw [if_neg (by omega), if_pos h0, Int.natAbs_neg]
          rfl
        rw [e2]
        exact q H' sm
    · have h0 : ¬ i < 0 := fun z => e (decide_eq_true z)
      exact ⟨_, rfl, i, rfl, by omega, hi, q⟩
/-! ### a row, a reckoning -/
def spRText (K : PySem.W.Frag) : Sp := fun vs H Q _ => ∃ (x : V) (r : Rw), vs = [x] ∧ RowV K H x r ∧ fitRow r ∧ ∀ H', Same H H' → Q (.str (S (rowText r))) H'
def spTextOf (K : PySem.W.Frag) : Sp := fun vs H Q _ => ∃ (p : Addr) (ls : List CL), vs = [.ref p] ∧ SqL K H p (ls.map fun l => V.str (S l)) ∧ ls.length ≤ 1000 ∧ (∀ l ∈ ls, l.length ≤ 1000) ∧ Q (.str (S (TL.joinL [10] ls))) H
theorem fit_text {r : Rw} {is : List Int} (e : r.2 = is.map some) : rowText r = TL.joinL [32] (r.1 :: is.map intL) := by
  unfold rowText
  rw [e, List.map_map]
  rfl
theorem map_strS (ls : List CL) : (ls.map fun l => V.str (S l)) = (ls.map S).map V.str := by rw [List.map_map]; rfl
theorem join_fits {ls : List CL} {c : Nat} {a : Str} (h : ∀ l ∈ ls, l.length ≤ c) (hs : ls.length * (c + a.length) ≤ 16777216) : ((ls.map S).map (·.length)).sum + (ls.map S).length * a.length ≤ 16777216 := by
  have z := sum_le (f := fun l : CL => (S l).length) (c := c) (l := ls) fun l hl => by rw [len_S]; exact h l hl
  rw [List.map_map, List.length_map]
  rw [Nat.mul_add] at hs
  exact Nat.le_trans (Nat.add_le_add_right z _) hs
theorem cut1 (v : V) (r : List V) : cutV (v :: r) (some 1) none = r := by
  rw [show (some (1 : Int)) = some ((1 : Nat) : Int) from rfl, cut_drop _ 1 (by simp)]
  rfl
theorem scRT : FnScope ["row", "n"] ["row"] (defScope sRText) := ⟨rfl, rfl, rfl, by decide +kernel, rfl, by decide +kernel, by decide +kernel⟩
theorem ok_rtext {f fW : Addr} {fd fdW : FuncData} (F : Fun K "row_text" "row_text" sRText f fd) (FW : Fun K "whole_text" "whole_text" sWText fW fdW) (GW : FnOk P w K mg base CX0 2 fW fdW ["n"] spWText) (bW : Binds K fdW ["n"] []) (gW : mg "whole_text" = some (.ref fW)) : FnOk P w K mg base CX0 3 f fd ["row"] (spRText K) := by
  refine F.ok scRT (fun vs H Q E h => ?_) (fun cdv A outer s H vs Q E hr h => ?_)
  · obtain ⟨x, r, rfl, _⟩ := h
    rfl
  · obtain ⟨x, r, rfl, ⟨a, rfl, ha⟩, ⟨hwl, is, eis, hil, hif⟩, q⟩ := h
    have hit : itemsV r = .str (S r.1) :: is.map V.int := by
      unfold itemsV
      rw [eis, cell_some]
    rw [hit] at ha
    refine ⟨_, pss_one (ps_ret (pe_join pe_str (pe_op op_cat (pe_lst (pa_cons (pe_ix ix_tup (pv 0) pe_int (fun _ _ => rfl)) pa_nil))
      (pe_lc (own := [("n", 1)]) (g := gName 1) (tt := tYes) rfl scRT.nd (pi_tup (pe_slice sl_tup (pv 0) (po_some pe_int) po_none))
        (blkOk_by (own := [("n", 1)]) (N := ["row", "n"]) (sc := defScope sRText) (by decide +kernel))
        (fun _ _ _ _ _ => pg_name (i := 1) scRT.nd rfl (.inl rfl)) (fun _ _ _ _ _ => pts_nil)
        (fun _ _ _ _ _ => pe_call GW hr (by rfl) gW FW.kp bW .nil pass0 (pa_cons (pv 1) pa_nil)))))), ?_⟩
    refine ⟨⟨_, rfl⟩, _, rfl, a, _, 0, _, rfl, rfl, ha, atI_nat (j := 0) rfl, by show 1 ≤ sizeLine; decide, fun l nl => ?_⟩
    have S1 : Same H (upd H l (.lst [.str (S r.1)])) := same_upd nl
    refine ⟨_, rfl, _, rfl, a, _, rfl, sqT_same ha S1, not_whole _ _ _, fun p np => ?_⟩
    rw [cut1]
    have S2 : Same (upd H l (.lst [.str (S r.1)])) (upd (upd H l (.lst [.str (S r.1)])) p (.tup (is.map V.int))) := same_upd np
    refine ⟨p, rfl, ⟨_, .inl (.inl upd_same)⟩, fun D nD => ?_⟩
    have S3 : Same (upd (upd H l (.lst [.str (S r.1)])) p (.tup (is.map V.int))) (upd (upd (upd H l (.lst [.str (S r.1)])) p (.tup (is.map V.int))) D (.lst [])) := same_upd nD
    generalize hHa : upd (upd H l (.lst [.str (S r.1)])) p (.tup (is.map V.int)) = Ha at nD S2 S3 ⊢
    have hp : SqT K Ha p (is.map V.int) := by rw [← hHa]; exact .inl (.inl upd_same)
    refine lc_it (walk_tup (K := K) (a := p) (xs := is.map V.int)) (fun i H1 => ∃ ls : List CL, H1 D = some (.lst (ls.map fun l => V.str (S l))) ∧ ls = (is.take i).map intL ∧ Same Ha H1) ⟨[], upd_same, rfl, S3⟩ (fun i H1 _ ⟨_, _, _, sm⟩ => sqT_same hp sm) ?_ ?_
    · rintro i x H1 H2 hi ⟨ls, hD, hls, sm⟩ ⟨rfl, hx⟩
      rw [List.length_map] at hi
      obtain ⟨n, rfl, hn⟩ : ∃ n, x = V.int n ∧ is[i]? = some n := by
        rw [List.getElem?_map] at hx
        cases e : is[i]? with
        | none => rw [e] at hx; cases hx
        | some n => rw [e] at hx; exact ⟨n, (Option.some.inj hx).symm, rfl⟩
      refine ⟨rfl, _, rfl, n, rfl, hif n (List.mem_of_getElem? hn), fun H3 sm3 => ⟨_, sm3 _ _ hD, ?_, ls ++ [intL n], by rw [upd_same, List.map_append]; rfl, ?_, same_put (sm.trans sm3) nD⟩⟩
      · rw [List.length_map, hls, List.length_map, List.length_take]
        exact small1000 (by omega)
      · rw [List.take_succ, hn, hls, List.map_append]
        rfl
    · rintro H1 ⟨ls, hD, hls, sm⟩
      rw [List.length_map, List.take_length] at hls
      have hl1 : H1 l = some (.lst [.str (S r.1)]) := sm _ _ (S2 _ _ upd_same)
      have hlen : ls.length ≤ 10 := by rw [hls, List.length_map]; exact hil
      refine ⟨l, D, _, _, rfl, rfl, hl1, hD, ?_, fun u nu => ?_⟩
      · rw [List.length_map]
        exact Nat.le_trans (show 1 + ls.length ≤ 11 by omega) (by decide)
      · refine ⟨_, u, (r.1 :: ls).map S, rfl, rfl, .inl (.inl (.inl ?_)), ?_, ?_⟩
        · rw [upd_same, ← map_strS]
          rfl
        · refine join_fits (c := 41) (fun x hx => ?_) ?_
          · rcases List.mem_cons.mp hx with e | e
            · rw [e]; omega
            · rw [hls] at e
              obtain ⟨n, hn, rfl⟩ := List.mem_map.mp e
              exact intL_len (hif n hn)
          · rw [show (" " : Str).length = 1 from by decide, List.length_cons]
            omega
        · rw [show Txt.join (" " : Str) ((r.1 :: ls).map S) = S (TL.joinL [32] (r.1 :: ls)) from by
            rw [show (" " : Str) = S [32] from by decide +kernel]
            exact join_S _ _, hls, ← fit_text eis]
          exact q _ (S1.trans (S2.trans (sm.trans (same_upd nu))))
theorem row_len {r : Rw} (h : fitRow r) : (rowText r).length ≤ 500 := by
  obtain ⟨hwl, is, eis, hil, hif⟩ := h
  rw [fit_text eis]
  refine Nat.le_trans (joinL_le (c := 41) fun p hp => ?_) ?_
  · rcases List.mem_cons.mp hp with e | e
    · rw [e]; omega
    · obtain ⟨n, hn, rfl⟩ := List.mem_map.mp e
      exact intL_len (hif n hn)
  · rw [List.length_cons, List.length_map]
    omega
theorem scTO : FnScope ["lines"] ["lines"] (defScope sTextOf) := ⟨rfl, rfl, rfl, by decide +kernel, rfl, by decide +kernel, by decide +kernel⟩
theorem ok_textOf {f : Addr} {fd : FuncData} (F : Fun K "text_of" "text_of" sTextOf f fd) : FnOk P w K mg base CX0 1 f fd ["lines"] (spTextOf K) := by
  refine F.ok scTO (fun vs H Q E h => ?_) (fun cdv A outer s H vs Q E hr h => ?_)
  · obtain ⟨p, ls, rfl, _⟩ := h
    rfl
  · obtain ⟨p, ls, rfl, hp, hl, hc, q⟩ := h
    refine ⟨_, pss_one (ps_ret (pe_join pe_str (pv 0))), ?_⟩
    refine ⟨⟨_, rfl⟩, _, rfl, _, p, ls.map S, rfl, rfl, .inl (by rw [← map_strS]; exact hp), ?_, ?_⟩
    · refine join_fits (c := 1000) hc ?_
      have : ls.length * (1000 + ("\n" : Str).length) ≤ 1000 * 1001 := Nat.mul_le_mul hl (by decide)
      omega
    · rw [show Txt.join ("\n" : Str) (ls.map S) = S (TL.joinL [10] ls) from by
        rw [show ("\n" : Str) = S [10] from by decide +kernel]
        exact join_S _ _]
      exact q
/-- a list or tuple of rows -/
def RowsX (K : PySem.W.Frag) (H : Hp) (p : Addr) (rs : List Rw) : Prop := ∃ xs, SqX K H p xs ∧ rs.length = xs.length ∧ xs.length ≤ 1000 ∧ ∀ (i : Nat) (v : V) (r : Rw), xs[i]? = some v → rs[i]? = some r → RowV K H v r
theorem RowsX.rk {H : Hp} {p : Addr} {rs : List Rw} (h : RowsX K H p rs) : Rk K H (.ref p) (some (rs.map some)) := by
  obtain ⟨xs, hx, hl, hl2, hr⟩ := h
  refine .inl ⟨p, xs, _, rfl, hx, by rw [List.length_map]; exact hl, hl2, fun i v r e1 e2 => ?_, rfl⟩
  rw [List.getElem?_map] at e2
  cases e : rs[i]? with
  | none => rw [e] at e2; cases e2
  | some z =>
    rw [e] at e2
    cases e2
    exact .inl ⟨z, rfl, hr i v z e1 e⟩
def spRecText (K : PySem.W.Frag) (C : Addr) : Sp := fun vs H Q E =>
  (∃ (p : Addr) (rs : List Rw), vs = [.ref p] ∧ RowsX K H p rs ∧ goodRows rs = true ∧ (∀ r ∈ rs, fitRow r) ∧ ∀ H', Same H H' → Q (.str (S (textOf rs))) H') ∨
  (∃ (x : V) (o : Option (List (Option Rw))), vs = [x] ∧ Rk K H x o ∧ reckB o = false ∧ ∀ H', Same H H' → E (.ref C) none H')
theorem scRec : FnScope ["rows", "row"] ["rows"] (defScope sRecText) := ⟨rfl, rfl, rfl, by decide +kernel, rfl, by decide +kernel, by decide +kernel⟩
theorem ok_recText {f fC fR fT C : Addr} {fd fdC fdR fdT : FuncData} (F : Fun K "reckoning_text" "reckoning_text" sRecText f fd) (FC : Fun K "check_rows" "check_rows" sCheck fC fdC) (GC : FnOk P w K mg base (L2.CX P w) 5 fC fdC ["value"] (spCheck K C)) (bC : Binds K fdC ["value"] []) (gC : mg "check_rows" = some (.ref fC))
    (FR : Fun K "row_text" "row_text" sRText fR fdR) (GR : FnOk P w K mg base CX0 3 fR fdR ["row"] (spRText K)) (bR : Binds K fdR ["row"] []) (gR : mg "row_text" = some (.ref fR))
    (FT : Fun K "text_of" "text_of" sTextOf fT fdT) (GT : FnOk P w K mg base CX0 1 fT fdT ["lines"] (spTextOf K)) (bT : Binds K fdT ["lines"] []) (gT : mg "text_of" = some (.ref fT)) : FnOk P w K mg base (L2.CX P w) 6 f fd ["rows"] (spRecText K C) := by
  refine F.okX scRec (fun vs H Q E h => ?_) (fun cdv A outer s H vs Q E hr h => ?_)
  · rcases h with ⟨p, rs, rfl, _⟩ | ⟨x, o, rfl, _⟩ <;> rfl
  · refine ⟨_, pss_cons (ps_expr (pe_call GC hr (by rfl) gC FC.kp bC .nil (passes_call (takes_of rfl rfl rfl rfl) (fun _ _ _ _ h => h)) (pa_cons (pv 0) pa_nil)))
      (pss_one (ps_ret (pe_call GT (hr.mono (by decide)) (by rfl) gT FT.kp bT .nil pass0 (pa_cons
        (pe_lc (own := [("row", 1)]) (g := gName 1) (tt := tYes) rfl scRec.nd (pi_seq (pv 0))
          (blkOk_by (own := [("row", 1)]) (N := ["rows", "row"]) (sc := defScope sRecText) (by decide +kernel))
          (fun _ _ _ _ _ => pg_name (i := 1) scRec.nd rfl (.inl rfl)) (fun _ _ _ _ _ => pts_nil)
          (fun _ _ _ _ _ => pe_call GR (hr.mono (by decide)) (by rfl) gR FR.kp bR .nil pass0 (pa_cons (pv 1) pa_nil))) pa_nil)))), ?_⟩
    rcases h with ⟨p, rs, rfl, hp, hg, hfit, q⟩ | ⟨x, o, rfl, hx, hb, q⟩
    · refine ⟨_, rfl, .ref p, _, rfl, hp.rk, .inl ⟨by rw [reck_some]; exact hg, fun H1 sm1 => ?_⟩⟩
      obtain ⟨xs, hX, hl, hl2, hrow⟩ := hp
      refine ⟨_, rfl, p, xs, rfl, seq_of hX sm1 fun J G wk hG => fun D nD => ?_⟩
      have nD0 : H D = none := same_none sm1 nD
      refine lc_it wk (fun i H' => ∃ ls : List CL, H' D = some (.lst (ls.map fun l => V.str (S l))) ∧ ls = (rs.take i).map rowText ∧ Same H H') ⟨[], upd_same, rfl, same_put sm1 nD0⟩ (fun i H' _ ⟨_, _, _, sm⟩ => hG _ sm) ?_ ?_
      · rintro i x H2 H3 hi ⟨ls, hD, hls, sm⟩ ⟨rfl, hx⟩
        have hr' : rs[i]? = some rs[i] := List.getElem?_eq_getElem (by omega)
        obtain ⟨a, ea, ha⟩ := hrow i x _ hx hr'
        refine ⟨rfl, _, rfl, x, rs[i], rfl, ⟨a, ea, sqT_same ha sm⟩, hfit _ (List.getElem_mem _), fun H4 sm4 => ⟨_, sm4 _ _ hD, ?_, ls ++ [rowText rs[i]], by rw [upd_same, List.map_append]; rfl, ?_, same_put (sm.trans sm4) nD0⟩⟩
        · rw [List.length_map, hls, List.length_map, List.length_take]
          exact small1000 (by omega)
        · rw [List.take_succ, hr', hls, List.map_append]
          rfl
      · rintro H2 ⟨ls, hD, hls, sm⟩
        rw [← hl, List.take_length] at hls
        refine ⟨D, ls, rfl, .inl (.inl hD), by rw [hls, List.length_map]; omega, fun l hl' => ?_, ?_⟩
        · rw [hls] at hl'
          obtain ⟨r, hr2, rfl⟩ := List.mem_map.mp hl'
          exact Nat.le_trans (row_len (hfit r hr2)) (by decide)
        · rw [hls]
          exact q _ sm
    · exact ⟨_, rfl, x, o, rfl, hx, .inr ⟨hb, fun H1 sm1 => q H1 sm1⟩⟩
end
end R7

set_option Elab.async false
set_option linter.all false
set_option maxRecDepth 100000
set_option maxHeartbeats 2000000
/-! The program reads a word. -/
namespace R8
open PySem PySem.Spec PyProof.Rows L2 Cau Dr65 R0 R3 R4 R5 R6 R7
abbrev sWholeOf : Stmt := topS 13
abbrev sWOText : Stmt := topS 17
def digT : Str := "0123456789"
def spWholeOf : Sp := fun vs H Q _ => ∃ d : CL, vs = [.str (S d)] ∧ digs d = true ∧ d ≠ [] ∧ d.length ≤ 30 ∧ Q (.int (dval d)) H
def spWOText : Sp := fun vs H Q _ => ∃ l : CL, vs = [.str (S l)] ∧ l.length ≤ 30 ∧ ∀ H', Same H H' → Q (cellV (wholeOf l)) H'
theorem rg60 : ∀ n : Nat, n ≤ 30 → RgC n n 60 0 := by
  have all : ∀ n : Nat, n ≤ 30 → Builtin.Range.small n n 60 = true ∧ Builtin.Range.rangeSize n n 60 = 0 := by decide +kernel
  exact fun n h => ⟨by decide, by decide, (all n h).1, (all n h).2⟩
theorem line_ok {l : CL} (h : l.length ≤ 30) : (S l).length ≤ sizeLine := by
  rw [len_S, sizeLine_eq]
  omega
theorem int_S {d : CL} (hd : digs d = true) (hne : d ≠ []) (hl : d.length ≤ 30) : PySem.intText? (S d) = some (dval d) := SX.int_S hd hne (by omega)
theorem digit_mem (c : Nat) : decide (c ∈ digT.cps.toList) = (decide (48 ≤ c) && decide (c ≤ 57)) := by
  have e : digT.cps.toList = [48, 49, 50, 51, 52, 53, 54, 55, 56, 57] := by decide +kernel
  rw [e, Bool.eq_iff_iff]
  simp only [List.mem_cons, List.not_mem_nil, or_false, decide_eq_true_iff, Bool.and_eq_true]
  omega
section
variable {P : Program} {w : World} {K : PySem.W.Frag} {mg : Str → Option Value} {base : Heap}
theorem scWO : FnScope ["digits", "head", "n", "at"] ["digits"] (defScope sWholeOf) := ⟨rfl, rfl, rfl, by decide +kernel, rfl, by decide +kernel, by decide +kernel⟩
theorem ok_wholeOf {f : Addr} {fd : FuncData} {tD : Tok} (F : Fun K "whole_of" "whole_of" sWholeOf f fd) (gD : mg "PIECE_DIGITS" = some (.int 60 tD)) (ml : mg "len" = none) (mi : mg "int" = none) (mr : mg "range" = none) : FnOk P w K mg base CX0 1 f fd ["digits"] spWholeOf := by
  refine F.ok scWO (fun vs H Q E h => ?_) (fun cdv A outer s H vs Q E hr h => ?_)
  · obtain ⟨x, rfl, _⟩ := h
    rfl
  · obtain ⟨d, rfl, hd, hne, hl, q⟩ := h
    have hpos : 0 < d.length := List.length_pos_iff.mpr hne
    refine ⟨_, pss_cons (ps_set (i := 1) scWO.nd rfl (.inl rfl) (pe_op op_mod (pe_callB call_len_str (by rfl) ml PySem.boot_len (pa_cons (pv 0) pa_nil)) (pe_glob (v := .int 60) (by rfl) gD ⟨_, rfl⟩)))
      (pss_cons (ps_set (i := 2) scWO.nd rfl (.inl rfl) (pe_ifExp (pt_cmpR op_gt (pv 1) pe_int (nomark _)) (pe_callTy call_int_str (by rfl) mi boot_int (pa_cons (pe_slice C8.sl_txt (pv 0) po_none (po_some (pv 1))) pa_nil)) pe_int))
      (pss_cons (ps_for PassesOwn.never rfl (pi_range3 (by rfl) mr (pa_cons (pv 1) (pa_cons (pe_callB call_len_str (by rfl) ml PySem.boot_len (pa_cons (pv 0) pa_nil)) (pa_cons (pe_glob (v := .int 60) (by rfl) gD ⟨_, rfl⟩) pa_nil)))) (pg_name (i := 3) scWO.nd rfl (.inl rfl)) noB)
      (pss_one (ps_ret (pv 2))))), ?_⟩
    have hS := line_ok hl
    refine ⟨_, rfl, _, rfl, hS, _, _, rfl, rfl, by show (0 : Int) < 60; decide, ?_⟩
    show gName 1 (V.int (((S d).length : Int) % 60)) _ _ _
    have em : ((S d).length : Int) % 60 = (d.length : Int) := by
      rw [len_S]
      omega
    rw [em]
    refine ⟨_, rfl, _, _, rfl, rfl, _, rfl, iteT2 (decide_eq_true (by omega)) ?_⟩
    refine ⟨_, rfl, _, rfl, _, rfl, _, rfl, hS, ?_⟩
    have es : Txt.slice (S d) none (some (d.length : Int)) = S d := by
      rw [show Txt.slice (S d) none (some (d.length : Int)) = S (d.take (d.length : Int).toNat) from SX.slice_to (by omega)]
      rw [Int.toNat_natCast, List.take_length]
    rw [es]
    refine ⟨_, _, rfl, int_S hd hne hl, by rw [len_S]; omega, ?_⟩
    refine ⟨_, rfl, _, rfl, _, rfl, hS, _, _, _, 0, rfl, ?_, ?_⟩
    · rw [len_S]
      exact rg60 _ hl
    · refine for_it (g := gName 3) (tb := fun _ _ _ => False) (walk_rangeC (lo := (d.length : Int)) (c := 60) (n := 0)) (fun i σ H' => σ = [some (.str (S d)), some (.int (d.length : Int)), some (.int (dval d)), none] ∧ H' = H) ⟨rfl, rfl⟩ (fun _ _ _ _ _ => trivial) (fun i x σ H1 H2 hi => absurd hi (Nat.not_lt_zero _)) ?_
      rintro σ H1 ⟨rfl, rfl⟩
      exact ⟨_, rfl, q⟩
theorem scOT : FnScope ["text", "digits", "n", "sign"] ["text"] (defScope sWOText) := ⟨rfl, rfl, rfl, by decide +kernel, rfl, by decide +kernel, by decide +kernel⟩
theorem ok_woText {f fW : Addr} {fd fdW : FuncData} {tD : Tok} (F : Fun K "whole_of_text" "whole_of_text" sWOText f fd) (FW : Fun K "whole_of" "whole_of" sWholeOf fW fdW) (GW : FnOk P w K mg base CX0 1 fW fdW ["digits"] spWholeOf) (bW : Binds K fdW ["digits"] []) (gW : mg "whole_of" = some (.ref fW))
    (gD : mg "DIGITS" = some (.str digT tD)) (ma : mg "all" = none) : FnOk P w K mg base CX0 2 f fd ["text"] spWOText := by
  refine F.ok scOT (fun vs H Q E h => ?_) (fun cdv A outer s H vs Q E hr h => ?_)
  · obtain ⟨x, rfl, _⟩ := h
    rfl
  · obtain ⟨l, rfl, hl, q⟩ := h
    have hS := line_ok hl
    refine ⟨_, pss_cons (ps_set (i := 1) scOT.nd rfl (.inl rfl) (pe_weak (t' := fun σ H Q => ∃ l : CL, σ[0]? = some (some (.str (S l))) ∧ l.length ≤ 30 ∧ Q (.str (S (bareOf l))) H)
        (pe_ifExp (pt_cmpR op_eq (pe_slice C8.sl_txt (pv 0) po_none (po_some pe_int)) pe_str (nomark _)) (pe_slice C8.sl_txt (pv 0) (po_some pe_int) po_none) (pv 0)) ?bare))
      (pss_cons (ps_if (PW.pt (pw_or (pt_cmpR op_eq (pv 1) pe_str (nomark _)) (pw_or1 (pt_not (pt_val (pe_callB (cr_all rfl) (by rfl) ma (by decide +kernel) (pa_cons
          (pe_lc (own := [("sign", 3)]) (g := gName 3) (tt := tYes) rfl scOT.nd (pi_str (pv 1))
            (blkOk_by (own := [("sign", 3)]) (N := ["text", "digits", "n", "sign"]) (sc := defScope sWOText) (by decide +kernel))
            (fun _ _ _ _ _ => pg_name (i := 3) scOT.nd rfl (.inl rfl)) (fun _ _ _ _ _ => pts_nil)
            (fun _ _ _ _ _ => pe_cmpR op_inS (pv 3) (pe_glob (v := .str digT) (by rfl) gD ⟨_, rfl⟩) (by rfl))) pa_nil))))))) (pss_one (ps_ret pe_non)) pss_nil)
      (pss_cons (ps_if (pt_cmpR op_eq (pe_item_str (pv 1) pe_int (fun _ _ => rfl)) pe_str (nomark _))
        (pss_one (ps_ret (pe_ifExp (pt_cmpR op_eq (pv 0) pe_str (nomark _)) pe_int pe_non))) pss_nil)
      (pss_cons (ps_set (i := 2) scOT.nd rfl (.inl rfl) (pe_call GW (hr.mono (by decide)) (by rfl) gW FW.kp bW .nil pass0 (pa_cons (pv 1) pa_nil)))
      (pss_one (ps_ret (pe_ifExp (pt_cmpR op_eq (pv 1) (pv 0) (nomark _)) (pv 2) (pe_un un_neg (pv 2)))))))), ?main⟩
    case bare =>
      rintro σ H Q ⟨l, hσ, hl, q⟩
      have hS := line_ok hl
      have esl : Txt.slice (S l) none (some 1) = S (l.take 1) := SX.slice_to (a := l) (i := 1) (by decide)
      have esd : Txt.slice (S l) (some 1) none = S (l.drop 1) := SX.slice_from (a := l) (i := 1) (by decide)
      refine ⟨_, hσ, _, rfl, _, rfl, hS, ?_⟩
      rw [esl]
      refine ⟨rfl, _, rfl, ?_⟩
      rw [show decide (V.str (S (l.take 1)) = V.str ("-" : Str)) = decide (l.take 1 = W "-") from eqW _ "-"]
      have e45 : W "-" = [45] := by decide +kernel
      rw [e45]
      unfold bareOf at q
      by_cases h : l.take 1 = [45]
      · rw [if_pos h] at q
        refine iteT2 (decide_eq_true h) ⟨_, hσ, _, rfl, _, rfl, hS, ?_⟩
        rw [esd]
        exact q
      · rw [if_neg h] at q
        exact iteF2 (decide_eq_false h) ⟨_, hσ, q⟩
    case main =>
      have dl : (bareOf l).length ≤ 30 := by
        unfold bareOf
        split
        · rw [List.length_drop]; omega
        · exact hl
      have wo : wholeOf l = if bareOf l = [] ∨ digs (bareOf l) = false then none else if (bareOf l).head? = some 48 then (if l = [48] then some 0 else none) else if bareOf l = l then some (dval (bareOf l)) else some (-(dval (bareOf l))) := rfl
      have q' : ∀ o H', wholeOf l = o → Same H H' → Q (cellV o) H' := fun o H' e sm => by
        subst e
        exact q H' sm
      refine ⟨l, rfl, hl, ?_⟩
      refine ⟨_, rfl, rfl, _, rfl, ?_⟩
      rw [show decide (V.str (S (bareOf l)) = V.str ("" : Str)) = decide (bareOf l = W "") from eqW _ "", show W "" = [] from rfl]
      by_cases hne : bareOf l = []
      · exact iteT2 (decide_eq_true hne) (q' none _ (by rw [wo, if_pos (.inl hne)]) same_rfl)
      · refine iteF2 (decide_eq_false hne) ?_
        refine ⟨_, rfl, S (bareOf l), rfl, fun D nD => ?_⟩
        have len0 : (S (bareOf l)).cps.size = (bareOf l).length := len_S _
        refine lc_it walk_str (fun i H1 => ∃ bs : List Bool, H1 = upd H D (.lst (bs.map V.bl)) ∧ bs = ((bareOf l).take i).map fun c => decide (48 ≤ c) && decide (c ≤ 57)) ⟨[], rfl, rfl⟩ (fun _ _ _ _ => trivial) ?_ ?_
        · rintro i x H1 H2 hi ⟨bs, rfl, hbs⟩ ⟨rfl, c1, hc1, rfl⟩
          have hc : (bareOf l)[i]? = some c1 := by simpa using hc1
          refine ⟨rfl, _, rfl, c1, digT, rfl, rfl, _, upd_same, ?_, bs ++ [decide (48 ≤ c1) && decide (c1 ≤ 57)], ?_, ?_⟩
          · rw [List.length_map, hbs, List.length_map, List.length_take]
            exact small1000 (by omega)
          · rw [upd_upd, digit_mem, List.map_append]
            rfl
          · rw [List.take_succ, hc, hbs, List.map_append]
            rfl
        · rintro H1 ⟨bs, rfl, hbs⟩
          rw [len0, List.take_length] at hbs
          have sm : Same H (upd H D (.lst (bs.map V.bl))) := same_upd nD
          refine ⟨D, bs, rfl, .inl (.inl upd_same), _, rfl, ?_⟩
          have eall : bs.all id = digs (bareOf l) := by
            rw [hbs, List.all_map]
            rfl
          rw [eall]
          cases hd : digs (bareOf l) with
          | false => exact iteT2 rfl (q' none _ (by rw [wo, if_pos (.inr hd)]) sm)
          | true =>
            refine iteF2 rfl ?_
            have w1 : wholeOf l = if (bareOf l).head? = some 48 then (if l = [48] then some 0 else none) else if bareOf l = l then some (dval (bareOf l)) else some (-(dval (bareOf l))) := by
              rw [wo, if_neg (by
                rintro (z | z)
                · exact hne z
                · rw [hd] at z; cases z)]
            obtain ⟨c, r, ecr⟩ : ∃ c r, bareOf l = c :: r := by
              cases e : bareOf l with
              | nil => exact absurd e hne
              | cons c r => exact ⟨c, r, rfl⟩
            refine ⟨_, rfl, S (bareOf l), 0, c, rfl, rfl, by decide, by decide, ?_, ?_, rfl, _, rfl, ?_⟩
            · rw [len_S, ecr, List.length_cons]
              omega
            · rw [ecr]
              rfl
            rw [show decide (V.str (⟨#[c]⟩ : Str) = V.str ("0" : Str)) = decide ([c] = W "0") from eqW [c] "0", show W "0" = [48] from by decide +kernel]
            have eh : ((bareOf l).head? = some 48) ↔ [c] = [48] := by
              rw [ecr]
              simp
            by_cases h0 : [c] = [48]
            · refine iteT2 (decide_eq_true h0) ?_
              refine ⟨_, rfl, rfl, _, rfl, ?_⟩
              rw [show decide (V.str (S l) = V.str ("0" : Str)) = decide (l = W "0") from eqW l "0", show W "0" = [48] from by decide +kernel]
              rw [if_pos (eh.mpr h0)] at w1
              by_cases h48 : l = [48]
              · exact iteT2 (decide_eq_true h48) (q' (some 0) _ (by rw [w1, if_pos h48]) sm)
              · exact iteF2 (decide_eq_false h48) (q' none _ (by rw [w1, if_neg h48]) sm)
            · refine iteF2 (decide_eq_false h0) ?_
              rw [if_neg fun z => h0 (eh.mp z)] at w1
              refine ⟨_, rfl, bareOf l, rfl, hd, hne, dl, ?_⟩
              refine ⟨_, rfl, _, rfl, rfl, _, rfl, ?_⟩
              have ed : decide (V.str (S (bareOf l)) = V.str (S l)) = decide (bareOf l = l) := by
                rw [Bool.eq_iff_iff, decide_eq_true_iff, decide_eq_true_iff]
                exact ⟨fun h => S_eq.mp (V.str.inj h), fun h => by rw [h]⟩
              rw [ed]
              by_cases hb : bareOf l = l
              · exact iteT2 (decide_eq_true hb) ⟨_, rfl, q' (some _) _ (by rw [w1, if_pos hb]) sm⟩
              · exact iteF2 (decide_eq_false hb) ⟨_, rfl, _, rfl, q' (some _) _ (by rw [w1, if_neg hb]) sm⟩
end
end R8

set_option Elab.async false
set_option linter.all false
set_option maxRecDepth 100000
set_option maxHeartbeats 2000000
/-! An own error over ValueError whose __init__ says super().__init__(text), then self.f = x. -/
namespace SupInit
open PySem PySem.Spec PyProof.Rows L2 Cau
def supScope (x : Str) : Scope := { kind := .function, names := [("self", .local), (x, .local), ("__class__", .free), ("super", .globalImplicit)], isGenerator := false, isCoroutine := false, more := [] }
/-- the error at a gets its field -/
def spSup (C : Addr) (fld : Str) : Sp := fun vs H Q _ => ∃ (a : Addr) (v : V), vs = [.ref a, v] ∧ H a = some (exo a C none) ∧ ∀ dx, H dx = none → dx ≠ a → Q .non (upd (upd H dx (exd dx [(fld, v)])) a (exo a C (some dx)))
/-- what the top has written of the class at C -/
structure SupC (P : Program) (K : PySem.W.Frag) (mg : Str → Option Value) (C : Addr) (fld : Str) : Prop where
  oex : OexC K C
  cd : ∃ cd, PySem.W.clsIn K C = some cd
  sub : PySem.W.mroIn K C (.ref C) = some true
  sup : mg "super" = none
  opa : PySem.W.nsIn K PySem.cStatics "thirdparty.any" = some none
  way : PySem.W.ks_superIn K C C "__init__" = some (some (.builtin "ValueError.__init__"))
  isV : PySem.W.subIn K (.ref C) (.type "ValueError") = some true
  top : (P.main.scope.names.lookup ("super" : Str)).isSome = false
  fre : PySem.W.findIn K (.ref C) fld = some none
section
variable {P : Program} {w : World} {K : PySem.W.Frag} {mg : Str → Option Value} {base : Heap}
/-- its body's context -/
def supX (P : Program) (w : World) (K : PySem.W.Frag) (mg : Str → Option Value) (base : Heap) (x qual : Str) (f cc cda : Addr) (A : Around) (outer : List Env) (s : Shared) (H : Hp) : Cx where
  prog := P
  w := w
  K := K
  mg := mg
  base := base
  A := A.deeper (PySem.W.ksEnv qual (supScope x) s.heap.objs.size f (.ref cda) cc)
  N := ["self", x]
  s_0 := s
  H_0 := H
  env := PySem.W.ksEnv qual (supScope x) s.heap.objs.size f (.ref cda) cc
  outer := outer
  stack := PySem.W.ksEnv qual (supScope x) s.heap.objs.size f (.ref cda) cc :: outer
  ex := []
  fn := fun _ => false
  calm := true
  pn := []
  xe := fun _ _ => False
theorem sup_start {x qual : Str} {f cc cda C : Addr} {A : Around} {outer : List Env} {s : Shared} {H : Hp} {u1 u2 : Value} {v1 v2 : V} {h0 : Heap} {tk : Nat} {cl : Value} {cld : Option Addr} {csl : Array (Option Value)} (hx : x ≠ "self" ∧ x ≠ "__class__" ∧ x ≠ "super") (hcell : K.lookup cc = some ⟨cl, cld, .cell (some (.ref C)), csl⟩) (hd : A.handled = none)
    (e0 : Env0 P w K mg base A outer s H) (r1 : RelV v1 u1) (r2 : RelV v2 u2) (ns : h0.Ns s.heap.objs.size fun y => ([("self", u1), (x, u2)] : List (Str × Value)).reverse.lookup y) (k : ∀ b o, s.heap.get? b = some o → h0.get? b = some o) :
    Inv (supX P w K mg base x qual f cc cda A outer s H) [] [some v1, some v2] H { s with heap := h0, toks := tk } := by
  have cellB : base.get? cc = some ⟨cl, cld, .cell (some (.ref C)), csl⟩ := e0.mod.kin _ _ hcell
  have cells : ∀ y c, (supX P w K mg base x qual f cc cda A outer s H).env.cells.lookup y = some c → y = "__class__" ∧ c = cc := fun y c h => by
    have h' : ([("__class__", cc)] : List (Str × Addr)).lookup y = some c := h
    rw [List.lookup_cons] at h'
    by_cases e : y = "__class__"
    · subst e
      simp at h'
      exact ⟨rfl, h'.symm⟩
    · have e' : (y == ("__class__" : Str)) = false := beq_eq_false_iff_ne.mpr e
      rw [e'] at h'
      simp at h'
  have lS : (supScope x).names.lookup ("self" : Str) = some NameKind.local := rfl
  have none' : ∀ b : Addr, b ∉ ([] : List Addr) := fun b z => by cases z
  exact
    { ok :=
        { mod := e0.mod, kind := rfl, glob := rfl, blt := rfl, above := Nat.le_refl _
          inj := fun y z c h1 h2 => (cells y c h1).1.trans (cells z c h2).1.symm
          has := fun y hy => by
            have hy' : (supScope x).names.lookup y = some .cell ∨ (supScope x).names.lookup y = some .free := hy
            unfold supScope at hy'
            simp only [List.lookup_cons, List.lookup_nil] at hy'
            by_cases e : y = "__class__"
            · subst e
              exact ⟨cc, rfl⟩
            · have e' : (y == ("__class__" : Str)) = false := beq_eq_false_iff_ne.mpr e
              rw [e'] at hy'
              cases e1 : (y == ("self" : Str)) <;> cases e2 : (y == x) <;> cases e3 : (y == ("super" : Str)) <;> rw [e1, e2, e3] at hy' <;> simp at hy'
          cab := fun _ _ z => by cases z
          hd := fun _ => hd
          frames := Around.frames_deeper e0.frames
          stk := .inr ⟨rfl, rfl⟩
          exf := fun b z => absurd z (none' b)
          bs := e0.bs, bsz := e0.bsz
          noex := fun b _ _ => none' b
          exfs := fun b z => absurd z (none' b)
          funs := e0.funs, frf := e0.frf }
      os := rfl, bare := e0.bare, base := Un.kept k
      loc := by
        refine ⟨_, ns, ?_⟩
        rintro i y v h1 h2 h3
        match i, h1, h2 with
        | 0, h1, h2 =>
          cases h1
          cases h2
          refine ⟨u1, r1, .inl ⟨rfl, ?_⟩⟩
          show ([(x, u2), ("self", u1)] : List (Str × Value)).lookup ("self" : Str) = some u1
          rw [List.lookup_cons, beq_eq_false_iff_ne.mpr (Ne.symm hx.1)]
          rfl
        | 1, h1, h2 =>
          cases h1
          cases h2
          refine ⟨u2, r2, .inl ⟨?_, ?_⟩⟩
          · show (supScope x).names.lookup x = some .local
            unfold supScope
            simp only [List.lookup_cons, beq_eq_false_iff_ne.mpr hx.1, beq_self_eq_true]
          · show ([(x, u2), ("self", u1)] : List (Str × Value)).lookup x = some u2
            rw [List.lookup_cons, beq_self_eq_true]
        | i + 2, h1, _ => cases h1
      cell := fun y c h => by
        obtain ⟨_, rfl⟩ := cells y c h
        exact ⟨_, _, k _ _ (e0.bs _ _ cellB).1, rfl⟩
      free := e0.hok.fresh (Nat.le_refl _)
      freeC := fun y c h => by
        obtain ⟨_, rfl⟩ := cells y c h
        exact (e0.bs _ _ cellB).2
      pin := fun p hp => absurd (show p ∈ ([] : List (Addr × Obj)) from hp) List.not_mem_nil
      hok := e0.hok.kept k
      len := rfl }
/-- super().__init__(text) -/
theorem sup_first {x qual t : Str} {f cc cda C a : Addr} {A : Around} {outer : List Env} {s s1 : Shared} {H : Hp} {y : Option V} {cl oc ccl : Value} {cld od cdd : Option Addr} {csl osl ccs : Array (Option Value)} {fd : FuncData} {ar : Arg} {vs : Array Value} {file : Str} {tf : Tok} {fld : Str} {j : Nat} {p0 p1 p2 p3 p4 p5 : Pos} {body : List Stmt}
    (T : SupC P K mg C fld) (hx : x ≠ "self" ∧ x ≠ "__class__" ∧ x ≠ "super") (hcell : K.lookup cc = some ⟨cl, cld, .cell (some (.ref C)), csl⟩) (lk : K.lookup f = some ⟨oc, od, .func fd, osl⟩) (har : (fd.params.posonlyargs ++ fd.params.args).head? = some ar) (hself : ar.arg = "self")
    (hcode : K.lookup cda = some ⟨ccl, cdd, .fields vs, ccs⟩) (hvs : vs[2]? = some (.str file tf)) (hfile : ((P.main.file : Str) == file) = true) {pl : Sem Bool}
    (he : ∀ env : Env, eval (.Call (.Attribute (.Call (.Name "super" p0) [] [] p1) "__init__" p2) [.Constant (.str t) j p3] [] p4) env = (do
      let ov ← attributeBase (.Call (.Name "super" p0) [] [] p1) "__init__" env (eval (.Call (.Name "super" p0) [] [] p1) env)
      standAt p2.atName
      let (f, first) ← holding [ov] (getMethod ov "__init__" pl)
      callWith p4 f first (backTo p4 (starEach [.Constant (.str t) j p3] env)) []))
    (I : Inv (supX P w K mg base x qual f cc cda A outer s H) [] [some (.ref a), y] H s1) (ha : H a = some (exo a C none)) {Q : Flow → Shared → Prop} {E : Value → Shared → Prop} (hQ : ∀ s2, Inv (supX P w K mg base x qual f cc cda A outer s H) [] [some (.ref a), y] H s2 → Q .next s2) :
    PySem.wpAt (model P w) (supX P w K mg base x qual f cc cda A outer s H).A (.func body (supX P w K mg base x qual f cc cda A outer s H).env) (exec (.Expr (.Call (.Attribute (.Call (.Name "super" p0) [] [] p1) "__init__" p2) [.Constant (.str t) j p3] [] p4) p5) (supX P w K mg base x qual f cc cda A outer s H).env) Q E s1 := by
  obtain ⟨cd, hcd⟩ := T.cd
  obtain ⟨nm, q, N, bs, bm, sn, sub, ab, col, dd, k0, k1, k2, k3, k5, hC, hbm⟩ := T.oex.cls
  have KI := I.kIn
  obtain ⟨t1, ho⟩ := exo_at I.hok ha
  obtain ⟨m, hns, hloc⟩ := I.loc
  obtain ⟨u1, ru, lo⟩ := hloc 0 "self" (.ref a) rfl rfl (.inl rfl)
  obtain rfl : u1 = Value.ref a := ru
  have ms : m "self" = some (.ref a) := by
    rcases lo with ⟨_, e⟩ | ⟨e | e, _⟩
    · exact e
    · have e' : some NameKind.local = some NameKind.cell := e
      cases e'
    · have e' : some NameKind.local = some NameKind.free := e
      cases e'
  obtain ⟨hh, g, d, tk, os⟩ := s1
  have hK := fun (b : Addr) (o : Obj) (e : K.lookup b = some o) => KI b o e
  have Dat := hK _ _ hC
  obtain ⟨mb, hb1, hb2⟩ := I.mod.blt
  have kX : (supX P w K mg base x qual f cc cda A outer s H).env.scope.kind = .function := rfl
  have kS : (supX P w K mg base x qual f cc cda A outer s H).env.kindOf "super" = some .globalImplicit := by
    show (supScope x).names.lookup ("super" : Str) = _
    unfold supScope
    simp only [List.lookup_cons, beq_eq_false_iff_ne.mpr (Ne.symm hx.2.2)]
    rfl
  have kC : (supX P w K mg base x qual f cc cda A outer s H).env.kindOf "__class__" = some .free := by
    show (supScope x).names.lookup ("__class__" : Str) = _
    unfold supScope
    simp only [List.lookup_cons, beq_eq_false_iff_ne.mpr (Ne.symm hx.2.1)]
    rfl
  have ne : a ≠ C := fun z => by
    rw [z, Dat] at ho
    cases ho
  refine ks_wpAt_Expr_any ?_ (by rfl) (by rfl)
  refine ks_wpAt_MethodCall ?_ (he _)
  refine ks_wpAt_super_base kS kC (by decide +kernel) rfl (hK _ _ lk) rfl har rfl (hK _ _ hcode) rfl hvs hfile T.top ?_
  refine PySem.W.ks_loadName_global kX kS (Calls.loadGlobal_builtin (show hh.Ns mainGlobals mg from I.mod.glob.keeps I.bk) T.sup (show hh.Ns builtinsNs mb from hb1.keeps I.bk) ((hb2 _ (by decide +kernel)).trans (show bootBuiltins "super" = some (.type "super") by rfl)) ⟨rfl, ?_⟩)
  refine wpAny_loadName_free kX kC (show _ = some cc from rfl) ⟨_, hK _ _ hcell, rfl⟩ ?_
  rw [hself]
  refine wpAny_loadName_local kX rfl hns ms ?_
  refine ks_wpAny_isType_cls Dat rfl ⟨rfl, ?_⟩
  refine ks_wpAny_call_super Dat rfl ho rfl (fun c z => by cases z) (PySem.W.looks_mroIn KI T.sub) fun h2 e2 k2 => ?_
  have I2 : Inv (supX P w K mg base x qual f cc cda A outer s H) [] [some (.ref a), y] H ⟨h2, g, d, tk, os⟩ := I.kept (t' := tk) k2
  have KI2 := I2.kIn
  have isV : PySem.W.Looks (model P w) h2 (isInstance (.ref a) (.type "ValueError")) true := by
    have at_ : PySem.W.InstAt h2 a _ C none := ⟨k2 _ _ ho, rfl, rfl, trivial⟩
    exact at_.type.andThen (PySem.W.looks_subIn KI2 T.isV)
  have way := T.way
  unfold PySem.W.ks_superIn at way
  rw [hcd] at way
  refine PySem.W.kxs_getMethod PySem.W.kxs_ValueError e2 (PySem.W.looks_opaque KI2 T.opa) (l₀ := cd.mro) ?_ rfl KI2 way isV ne (by decide +kernel) ?_
  · exact fun A Q E s k q => wpAny_bind ((PySem.W.looks_clsIn KI2 hcd) A _ E s k (wpAny_pure q))
  have I3 : Inv (supX P w K mg base x qual f cc cda A outer s H) [] [some (.ref a), y] H ⟨h2.push (PySem.W.kxs_mw "ValueError.__init__" a), g, d, tk + 1, os⟩ := I2.kept (t' := tk + 1) fun _ _ e => Heap.get?_push_of_some _ e
  have atU : (h2.push (PySem.W.kxs_mw "ValueError.__init__" a)).get? h2.objs.size = some (PySem.W.kxs_mw "ValueError.__init__" a) := Heap.get?_push_size _ rfl
  have offU : H h2.objs.size = none := I2.hok.fresh (Nat.le_refl _)
  refine PySem.W.kxs_callWith (i := "ValueError.__init__") (x := a) rfl (Calls.evalArgs_plain ?_)
  refine Calls.spliced_cons (Calls.Constant_str (k := j) (pos := p3) (Calls.spliced_nil ?_))
  refine ⟨atU, ?_⟩
  refine wpAny_call (codeAny_of_tree ?_)
  change wpAny _ _ (callAny (.ref h2.objs.size) _) _ _ _
  simp only [callAny]
  refine wpAny_bind (wpAny_load atU ?_)
  simp only [PySem.W.kxs_mw, show (Value.type "method-wrapper" == Value.type "method" || Value.type "method-wrapper" == Value.type "builtin_function_or_method" || Value.type "method-wrapper" == Value.type "method-wrapper") = true by decide, if_true]
  refine PySem.W.KFB.if_so (by decide) ?_
  have at3 : (h2.push (PySem.W.kxs_mw "ValueError.__init__" a)).get? a = some _ := Heap.get?_push_of_some _ (k2 _ _ ho)
  have atC : (h2.push (PySem.W.kxs_mw "ValueError.__init__" a)).get? C = some _ := I3.kIn _ _ hC
  refine wpAny_bind (PySem.W.check_bound_init F.excBase_ValueError.toExcCallFacts atC at3 rfl ?_)
  refine wpAny_bind (wpAny_pure (wpAny_pure ?_))
  refine ⟨plainId_quiet F.excBase_ValueError.init.plain _, codeAny_builtin F.excBase_ValueError.initEntry ?_⟩
  refine PySem.W.exc_init_tree at3 (show 1 ≤ sizeLine by decide) ?_
  intro h4 k4 e4 _
  have I3' : Inv (supX P w K mg base x qual f cc cda A outer s H) [] [some (.ref a), y] H ⟨h2.push (PySem.W.kxs_mw "ValueError.__init__" a), g, d, tk + 1 + 1, os⟩ := I3.tok _
  have J := I3'.write (t' := tk + 1 + 1) (x := a) (e := a) (o := exo a C none) (by rw [ha]; exact True.intro) (.inl rfl) k4 ⟨_, e4⟩ (exo_ok e4)
  have eu : upd H a (exo a C none) = H := by
    funext b
    by_cases hb : b = a
    · rw [hb, upd_same, ha]
    · rw [upd_ne hb]
  rw [eu] at J
  exact hQ _ J
theorem ok_sup {st : Stmt} {qual x t fld : Str} {f cc cda C : Addr} {cl oc ccl kV doc pm ct : Value} {cld od cdd an : Option Addr} {csl osl ccs : Array (Option Value)} {ar : Arg} {vs : Array Value} {file : Str} {tf : Tok} {j : Nat} {p0 p1 p2 p3 p4 p5 p6 p7 p8 p9 : Pos}
    (lk : K.lookup f = some ⟨oc, od, .func (PySem.W.ksFn "__init__" qual (defArgs st) (defBody st) (defScope st) .none kV doc pm an (.ref cda) ct cc), osl⟩) (hcd : PySem.W.codeIn K (.ref cda) qual = true)
    (hb : defBody st = [.Expr (.Call (.Attribute (.Call (.Name "super" p0) [] [] p1) "__init__" p2) [.Constant (.str t) j p3] [] p4) p5, .Assign [.Attribute (.Name "self" p6) fld p7] (.Name x p8) p9]) (hs : defScope st = supScope x)
    (T : SupC P K mg C fld) (hx : x ≠ "self" ∧ x ≠ "__class__" ∧ x ≠ "super") (hxd : (x == ("__debug__" : Str)) = false) (hxc : (x == ("__classdict__" : Str)) = false) (hcell : K.lookup cc = some ⟨cl, cld, .cell (some (.ref C)), csl⟩) (har : ((defArgs st).posonlyargs ++ (defArgs st).args).head? = some ar) (hself : ar.arg = "self")
    (hcode : K.lookup cda = some ⟨ccl, cdd, .fields vs, ccs⟩) (hvs : vs[2]? = some (.str file tf)) (hfile : ((P.main.file : Str) == file) = true) {pl : Sem Bool}
    (he : ∀ env : Env, eval (.Call (.Attribute (.Call (.Name "super" p0) [] [] p1) "__init__" p2) [.Constant (.str t) j p3] [] p4) env = (do
      let ov ← attributeBase (.Call (.Name "super" p0) [] [] p1) "__init__" env (eval (.Call (.Name "super" p0) [] [] p1) env)
      standAt p2.atName
      let (f, first) ← holding [ov] (getMethod ov "__init__" pl)
      callWith p4 f first (backTo p4 (starEach [.Constant (.str t) j p3] env)) []))
    (hsw : ∀ env : Env, swapsWith (.Name x p8) (some (.Attribute (.Name "self" p6) fld p7)) p9.line env = pure false) :
    FnOk P w K mg base C8.CX0 1 f (PySem.W.ksFn "__init__" qual (defArgs st) (defBody st) (defScope st) .none kV doc pm an (.ref cda) ct cc) ["self", x] (spSup C fld) := by
  refine ⟨fun vs H Q E h => ?_, fun A outer s H args us vs' Q E hr e0 hbd r h => ?_⟩
  · obtain ⟨a, v, rfl, _⟩ := h
    rfl
  · obtain ⟨a, v, rfl, ha, q⟩ := h
    obtain ⟨u1, u2, rfl, r1, r2⟩ := vals2 r
    have KS : K.In s.heap := e0.mod.kin.keeps fun b o e => (e0.bs b o e).1
    have lim : s.heap.NoLimit := e0.mod.nolimit.keeps fun b o e => (e0.bs b o e).1
    have nocell : ∀ y ∈ (supScope x).names, y.2 ≠ .cell := by
      intro y hy
      unfold supScope at hy
      simp only [List.mem_cons, List.not_mem_nil, or_false] at hy
      rcases hy with rfl | rfl | rfl | rfl <;> (intro z; cases z)
    have lx : (supScope x).names.lookup x = some NameKind.local := by
      unfold supScope
      simp only [List.lookup_cons, beq_eq_false_iff_ne.mpr hx.1, beq_self_eq_true]
    have locs : ∀ y ∈ ([("self", u1), (x, u2)] : List (Str × Value)), (supScope x).names.lookup y.1 = some NameKind.local := by
      intro y hy
      rcases List.mem_cons.mp hy with rfl | hy
      · rfl
      · cases List.mem_singleton.mp hy
        exact lx
    refine PySem.ks_codeAny_call_defAt (fd := PySem.W.ksFn "__init__" qual (defArgs st) (defBody st) (defScope st) .none kV doc pm an (.ref cda) ct cc) (binds := [("self", u1), (x, u2)]) hr.depth (KS _ _ lk) rfl lim (PySem.W.codeRec_of KS hcd) rfl hbd (by show ∀ y ∈ (defScope st).names, _; rw [hs]; exact nocell) (by intro y hy; show (defScope st).names.lookup y.1 = _; rw [hs]; exact locs y hy) ?_ (by show (defScope st).isCoroutine = false; rw [hs]; rfl) (by show (defScope st).isGenerator = false; rw [hs]; rfl) (by show (defScope st).kind = .function; rw [hs]; rfl)
    intro h0 ns k
    have env_is : callEnv (PySem.W.ksFn "__init__" qual (defArgs st) (defBody st) (defScope st) .none kV doc pm an (.ref cda) ct cc) s.heap.objs.size f = (supX P w K mg base x qual f cc cda A outer s H).env := by
      show PySem.W.ksEnv qual (defScope st) s.heap.objs.size f (.ref cda) cc = _
      rw [hs]
      rfl
    rw [env_is]
    have I := sup_start (tk := s.toks + 2) (cda := cda) (f := f) (qual := qual) hx hcell hr.hd e0 r1 r2 ns k
    obtain rfl : u1 = Value.ref a := r1
    have body_is : (PySem.W.ksFn "__init__" qual (defArgs st) (defBody st) (defScope st) .none kV doc pm an (.ref cda) ct cc).body = .stmts (defBody st) := rfl
    rw [hb]
    refine PySem.ks_wpAt_execs_cons ?_
    refine sup_first (A := A) (outer := outer) (s := s) T hx hcell lk har hself hcode hvs hfile he I ha ?_
    intro s2 I2
    refine wpAt_of_wpAny ?_
    have run := (pss_one (ps_ost (X := supX P w K mg base x qual f cc cda A outer s H) (pos := p9) (p' := p7) (f := fld) (pe_var (pos := p6) (i := 0) rfl (.inl rfl)) (pe_var (pos := p8) (i := 1) rfl (.inl lx) hxd hxc) (hsw _))).run [] s2 [some (.ref a), some v] H { nx := fun _ H' => Q .non H', rt := fun _ _ => False, bk := fun _ _ => False, ct := fun _ _ => False } I2
      ⟨v, rfl, .ref a, rfl, a, C, rfl, T.oex, T.fre, .inl ⟨ha, fun dx n ne => q dx n ne⟩⟩
    refine wpAny_mono run (fun fl s3 sp => ?_) (fun _ _ z => z.elim)
    cases fl with
    | next =>
      obtain ⟨σ', H', J, z⟩ := sp
      exact ⟨.non, H', J.os, J.bare, J.base, J.hok, rfl, z⟩
    | brk =>
      obtain ⟨_, _, _, z⟩ := sp
      exact z.elim
    | cont =>
      obtain ⟨_, _, _, z⟩ := sp
      exact z.elim
    | ret u =>
      obtain ⟨_, _, _, _, _, z⟩ := sp
      exact z.elim
end
end SupInit

set_option Elab.async false
set_option linter.all false
set_option maxRecDepth 100000
set_option maxHeartbeats 2000000
/-! An own error with a dict, told of at its address: isinstance, and its field. -/
namespace ErrD
open PySem PySem.Spec PyProof.Rows L2 Cau PySem.W
section
variable {prog : Program} {w : World} {K : Frag} {x D : Addr} {ox : Obj} {od : Option Obj}
theorem cls_found {C : Addr} {name : Str} {a g : Value} (hc : (clsIn K C).isSome = true) (ha : findIn K (.ref C) name = some (some a)) (hg : specialIn K a "__get__" = some (some g)) (ht : takesIn K a = some true) : findObj K C od name = some (.bind g a) := by
  obtain ⟨cd, e⟩ := Option.isSome_iff_exists.mp hc
  unfold findObj
  rw [e, Option.bind_some, ha, Option.bind_some]
  simp [hg, ht]
theorem cls_read (C : ExcC K D) {A : Around} {E : Value → Shared → Prop} {s : Shared} {Q : Option Value → Shared → Prop} (X : K.In s.heap) (I : InstAt s.heap x ox D od) (h : Q (some (.ref D)) { s with toks := s.toks + 1 }) :
    wpAny (model prog w) A (getAttr? (.ref x) "__class__") Q E s := by
  have some' : (clsIn K D).isSome = true := by
    obtain ⟨cd, e, _⟩ := any_some C.hd
    rw [e]
    rfl
  have found : findObj K D od "__class__" = some (.bind (.builtin "getset_descriptor.__get__") (.builtin "object.__class__")) := cls_found some' C.ha C.hn C.ht
  obtain ⟨hp, g, d, t, os⟩ := s
  have t0 := I.type (M := model prog w)
  have t1 := looks_findIn (M := model prog w) X C.hg
  have t2 := looks_findIn (M := model prog w) X C.hk
  have t3 := looks_find (M := model prog w) X I found
  have isB : Looks (model prog w) hp (isInstance (.ref x) (.type "BaseException")) true := t0.andThen (looks_subIn X C.hs)
  have n1 : (onTheHeap (Value.ref D) && Value.builtin "BaseException.__getattribute__" == Value.builtin "object.__getattribute__") = false := by
    rw [show (Value.builtin "BaseException.__getattribute__" == Value.builtin "object.__getattribute__") = false by decide +kernel]
    rfl
  have n2 : (false && onTheHeap (Value.builtin "BaseException.__getattribute__")) = false := rfl
  unfold getAttr? getAttrBy? getAttrBy
  refine wpAny_bind (wpAny_mkText (wpAny_bind (wpAny_attempt (wpAny_holding (wpAny_bind (t0.at (wpAny_bind (t1.at ?_))))))))
  change wpAny _ _ (if (onTheHeap (Value.ref D) && Value.builtin "BaseException.__getattribute__" == Value.builtin "object.__getattribute__") = true then _ else _) _ _ _
  rw [n1, if_neg Bool.false_ne_true]
  unfold getAttrByItsOwn hookBefore
  refine wpAny_bind ?_
  rw [if_pos (show onTheHeap (Value.ref D) = true from rfl)]
  refine t2.at (wpAny_bind (wpAny_attempt (wpAny_holding ?_)))
  unfold callGetattribute
  rw [n2, if_neg Bool.false_ne_true]
  unfold boundAndCalled
  rw [PySem.F.excAttr_ValueError.ga.bind (.ref x)]
  refine wpAny_bind (wpAny_pure ?_)
  change wpAny _ _ (call (.builtin "BaseException.__getattribute__") [.ref x, .str "__class__" t]) _ _ _
  refine wpAny_call (codeAny_call_builtin PySem.F.excAttr_ValueError.ga.plain PySem.F.entry_bexc_ga ?_)
  refine PySem.W.check_slot (M := model prog w) (s := ⟨hp, g, d, t + 1, os⟩) (i := "BaseException.__getattribute__") (owner := "BaseException") (n := "__getattribute__") (self := .ref x) (rest := [.str "__class__" t]) (kw := [])
    (by decide +kernel) (by decide +kernel) isB (PySem.F.args_bexc_ga (.ref x) (.str "__class__" t)) ?_
  unfold Builtin.«object.__getattribute__»
  refine wpAny_bind (wpAny_of_eq (a := ((Value.ref x : Value), [Value.str "__class__" t])) (by first | rfl | (simp only [slotArgs]; rfl)) ?_)
  refine wpAny_bind (wpAny_pure (wpAny_bind (t0.at (wpAny_bind (t3.at ?_)))))
  change wpAny _ _ (holding [Value.builtin "object.__class__"] (call (.builtin "getset_descriptor.__get__") [.builtin "object.__class__", .ref x, .ref D]) >>= ret) _ _ _
  refine wpAny_bind (wpAny_holding (wpAny_call (class_get (s := ⟨hp, g, d, t + 1, os⟩) (ox := ox) (od := od) X I C.hm ?_)))
  refine wpAny_pure ?_
  change wpAny _ _ (handedOut (.ref D)) _ _ _
  rw [handedOut_of (v := .ref D) rfl]
  first
    | exact wpAny_pure (wpAny_pure h)
    | exact wpAny_pure h
    | exact wpAny_pure (wpAny_bind (wpAny_pure (wpAny_pure h)))
theorem kit_err (C : ExcC K D) : KitX K (.ref x) (.ref D) (fun h => InstAt h x ox D od) where
  ty := fun _ _ _ I => I.type
  it := fun _ _ X _ => by
    obtain ⟨cd, e, _⟩ := any_some C.hd
    unfold clsIn at e
    split at e
    · rename_i ho
      intro A Q E s k q
      unfold isType loadHead
      exact wpAny_bind (wpAny_loadPart (k _ _ (X _ _ ho)) (wpAny_pure q))
    · cases e
  ne := fun h tp dd its n sl X htp => by
    obtain ⟨cd, e, _⟩ := any_some C.hd
    refine Bool.eq_false_iff.mpr fun q => ?_
    obtain rfl : D = tp := Value.ref.inj (beq_iff_eq.mp q)
    unfold clsIn at e
    split at e
    · rename_i ho
      cases (X _ _ ho).symm.trans htp
    · cases e
  ca := fun X I k => cls_read C X I k
end
def rIsErrD (K : PySem.W.Frag) (D : Addr) : List V → Hp → VK → Prop := fun xs H Q =>
  ∃ (e d : Addr) (fs : List (Str × V)) (c : V) (cv : Value) (b : Bool), xs = [.ref e, c] ∧ H e = some (ErrO (.ref D) (some d) e) ∧ H d = some (.xd fs) ∧ (∀ u, RelV c u → u = cv) ∧ PySem.W.kitOne K (.ref D) cv = some b ∧ Q (.bl b) H
theorem err_inst {X : Cx} {pins : List (Addr × Obj)} {σ : L2.St} {H : Hp} {s : Shared} {e d D : Addr} {fs : List (Str × V)} (I : Inv X pins σ H s) (he : H e = some (ErrO (.ref D) (some d) e)) (hd : H d = some (.xd fs)) :
    ∃ (ob od : Obj) (mA : Str → Option Value), PySem.W.InstAt s.heap e ob D (some od) ∧ s.heap.get? d = some od ∧ (∀ f, RelO (fs.lookup f) (mA f)) ∧ s.heap.Ns1 d mA := by
  obtain ⟨⟨⟨oc, odd, oda, osl⟩, vs, g, z, hf⟩, _⟩ := I.hok e _ he
  obtain ⟨z1, z2⟩ := z
  simp only at z1 z2 hf
  subst z1 z2 hf
  have hx : ObjOk X.prog X.w H s.heap d (.xd fs) := I.hok d _ hd
  obtain ⟨mA, hns, hr⟩ := hx
  obtain ⟨od, ho, hl⟩ := lookIn_ns hns
  exact ⟨_, od, mA, ⟨g, rfl, rfl, ho⟩, ho, hr, hns⟩
theorem call_isErrD {X : Cx} {D : Addr} (C : ExcC X.K D) : CallR X (.builtin "isinstance") (rIsErrD X.K D) := by
  intro pins s σ H xs us Q I r ⟨e, d, fs, c, cv, b, hx, he, hd, hcv, hb, q⟩
  subst hx
  obtain ⟨u1, u2, hu, r1, r2⟩ := vals2 r
  subst hu
  cases (show u1 = Value.ref e from r1)
  cases hcv _ r2
  obtain ⟨ob, od, mA, at_, _⟩ := err_inst I he hd
  exact PySem.W.kia_one (kit_err C) I.kIn at_ hb (fun z => nomatch z) fun tk => ⟨.bl b, H, I.tok tk, rfl, q⟩
/-- e.f -/
def tErrF (D : Addr) (f : Str) (te : TE) : TE := fun σ H Q => te σ H fun x H1 => ∃ (e d : Addr) (fs : List (Str × V)) (v : V), x = .ref e ∧ H1 e = some (ErrO (.ref D) (some d) e) ∧ H1 d = some (.xd fs) ∧ fs.lookup f = some v ∧ Q v H1
theorem pe_errF {X : Cx} {D : Addr} {e : Expr} {te : TE} {pos : Pos} {f : Str} (C : ExcC X.K D) (hno : PySem.W.findIn X.K (.ref D) f = some none) (he : PE X e te) (hb : attributeBase e f X.env (eval e X.env) = eval e X.env := by rfl) : PE X (.Attribute e f pos) (tErrF D f te) := by
  constructor
  intro pins s σ H Q I h
  refine attr_of hb (thn (he.run pins s σ H _ I h) ?_)
  rintro u s1 ⟨x, H1, I1, rx, a, d, fs, v, ex, hE, hd, l, q⟩
  subst ex
  obtain rfl : u = Value.ref a := rx
  obtain ⟨⟨⟨oc, odd, oda, osl⟩, vs, g, z, hf⟩, _⟩ := I1.hok a _ hE
  obtain ⟨z1, z2⟩ := z
  simp only at z1 z2 hf
  subst z1 z2 hf
  have hx : ObjOk X.prog X.w H1 s1.heap d (.xd fs) := I1.hok d _ hd
  obtain ⟨mA, hns, hr⟩ := hx
  obtain ⟨od, ho, hl⟩ := lookIn_ns hns
  obtain ⟨u, hu, ru⟩ := RelO.some_of (v := v) (o := mA f) (by rw [← l]; exact hr f)
  have at_ : PySem.W.InstAt s1.heap a _ D (some od) := ⟨g, rfl, rfl, ho⟩
  refine HandSPX.exc_get I1.kIn at_ C.hg C.hk C.hs (PySem.W.findObj_own C.hd hno rfl ?_) (handed_of ru) ⟨v, H1, I1.tok _, ru, q⟩
  rw [hl, hu]
end ErrD

set_option Elab.async false
set_option linter.all false
set_option maxRecDepth 100000
set_option maxHeartbeats 2000000
/-! The program reads a line, and a text. -/
namespace R9
open PySem PySem.Spec PyProof.Rows L2 Cau Dr65 R0 R3 R4 R5 R6 R7 R8
abbrev sLine : Stmt := topS 18
abbrev sRecOf : Stmt := topS 28
theorem split_S (l : CL) {c : Nat} (hc : c < 256) : Txt.split (S l) (S [c]) = (TL.spl [c] 0 [] l).map S := by
  have h := TL.split_spl (S l) (S [c]) (by simp [TL.tl, S]) (TL.kind_ok (by simp [S, hc]))
  have e : ∀ (xs : List Str) (ys : List CL), xs.map TL.tl = ys → xs = ys.map S := by
    intro xs ys h
    subst h
    rw [List.map_map]
    exact (List.map_id'' (fun x => TL.ext_tl rfl) xs).symm
  exact e _ _ h
/-- the words of a line are short -/
def fine (l : CL) : Prop := l.length ≤ 900 ∧ ∀ w ∈ TL.spl [32] 0 [] l, w.length ≤ 30
def spLine (K : PySem.W.Frag) : Sp := fun vs H Q _ => ∃ l : CL, vs = [.str (S l)] ∧ fine l ∧ ∀ H' a, Same H H' → H a = none → SqT K H' a (itemsV (lineOf l)) → Q (.ref a) H'
theorem cut_to1 (v : V) (r : List V) : cutV (v :: r) none (some 1) = [v] := by
  rw [show (some (1 : Int)) = some ((1 : Nat) : Int) from rfl, cut_take _ 1 (by simp)]
  rfl
section
variable {P : Program} {w : World} {K : PySem.W.Frag} {mg : Str → Option Value} {base : Heap}
theorem scLn : FnScope ["line", "words", "word"] ["line"] (defScope sLine) := ⟨rfl, rfl, rfl, by decide +kernel, rfl, by decide +kernel, by decide +kernel⟩
theorem ok_line {f fW : Addr} {fd fdW : FuncData} (F : Fun K "row_of_line" "row_of_line" sLine f fd) (FW : Fun K "whole_of_text" "whole_of_text" sWOText fW fdW) (GW : FnOk P w K mg base CX0 2 fW fdW ["text"] spWOText) (bW : Binds K fdW ["text"] []) (gW : mg "whole_of_text" = some (.ref fW))
    (mt : mg "tuple" = none) : FnOk P w K mg base CX0 3 f fd ["line"] (spLine K) := by
  refine F.ok scLn (fun vs H Q E h => ?_) (fun cdv A outer s H vs Q E hr h => ?_)
  · obtain ⟨x, rfl, _⟩ := h
    rfl
  · obtain ⟨l, rfl, ⟨hl, hw⟩, q⟩ := h
    refine ⟨_, pss_cons (ps_set (i := 1) scLn.nd rfl (.inl rfl) (pe_split (pv 0) pe_str))
      (pss_one (ps_ret (pe_op op_catT (pe_callTy call_tuple_of (by rfl) mt (by decide +kernel) (pa_cons (pe_slice sl_list (pv 1) po_none (po_some pe_int)) pa_nil))
        (pe_callTy call_tuple_of (by rfl) mt (by decide +kernel) (pa_cons
          (pe_lc (own := [("word", 2)]) (g := gName 2) (tt := tYes) rfl scLn.nd (pi_list (pe_slice sl_list (pv 1) (po_some pe_int) po_none))
            (blkOk_by (own := [("word", 2)]) (N := ["line", "words", "word"]) (sc := defScope sLine) (by decide +kernel))
            (fun _ _ _ _ _ => pg_name (i := 2) scLn.nd rfl (.inl rfl)) (fun _ _ _ _ _ => pts_nil)
            (fun _ _ _ _ _ => pe_call GW hr (by rfl) gW FW.kp bW .nil pass0 (pa_cons (pv 2) pa_nil))) pa_nil))))), ?_⟩
    refine ⟨_, rfl, ⟨_, rfl⟩, _, _, rfl, rfl, by decide, ?_, ?_⟩
    · rw [len_S, sizeLine_eq]; omega
    rw [show (" " : Str) = S [32] from by decide +kernel, split_S l (by decide)]
    intro p np
    obtain ⟨w0, ws, ews⟩ : ∃ w0 ws, TL.spl [32] 0 [] l = w0 :: ws := by
      cases e : TL.spl [32] 0 [] l with
      | nil => exact absurd e (spl_ne _ _ _ _)
      | cons a b => exact ⟨a, b, rfl⟩
    have hlen := spl_len [32] l 0 []
    rw [ews] at hw hlen ⊢
    rw [List.length_cons] at hlen
    have eit : itemsV (lineOf l) = V.str (S w0) :: (ws.map fun x => cellV (wholeOf x)) := by
      unfold itemsV lineOf
      rw [ews]
      show V.str (S w0) :: (ws.map wholeOf).map cellV = _
      rw [List.map_map]
      rfl
    generalize hH1 : upd H p (.lst (((w0 :: ws).map S).map V.str)) = H1
    have hp : H1 p = some (.lst (V.str (S w0) :: (ws.map S).map V.str)) := by rw [← hH1]; exact upd_same
    have S1 : Same H H1 := by rw [← hH1]; exact same_upd np
    refine ⟨_, rfl, _, rfl, p, _, rfl, .inl (.inl hp), fun p1 np1 => ?_⟩
    rw [cut_to1]
    refine ⟨p1, _, rfl, .inl ⟨.inl (.inl upd_same), fun t1 nt1 => ?_⟩⟩
    generalize hH2 : upd (upd H1 p1 (.lst [V.str (S w0)])) t1 (.tup [V.str (S w0)]) = H2
    have S2 : Same H1 H2 := by rw [← hH2]; exact same_put (same_upd np1) (same_none (same_upd np1) nt1)
    have ht1 : H2 t1 = some (.tup [V.str (S w0)]) := by rw [← hH2]; exact upd_same
    refine ⟨_, rfl, _, rfl, p, _, rfl, .inl (.inl (S2 _ _ hp)), fun p2 np2 => ?_⟩
    rw [cut1]
    generalize hH3 : upd H2 p2 (.lst ((ws.map S).map V.str)) = H3
    have S3 : Same H2 H3 := by rw [← hH3]; exact same_upd np2
    have hp2 : H3 p2 = some (.lst ((ws.map S).map V.str)) := by rw [← hH3]; exact upd_same
    refine ⟨p2, rfl, ⟨_, .inl (.inl hp2)⟩, fun D nD => ?_⟩
    refine lc_list (K := K) (a := p2) (xs := (ws.map S).map V.str) (fun i H' => ∃ vs : List V, H' D = some (.lst vs) ∧ vs = (ws.take i).map (fun x => cellV (wholeOf x)) ∧ Same H3 H') ⟨[], upd_same, rfl, same_upd nD⟩ (fun i H' _ ⟨_, _, _, sm⟩ => sm.seq (.inl (.inl hp2))) ?_ ?_
    · rintro i x H4 hx ⟨vs, hD, hvs, sm⟩
      obtain ⟨u, rfl, hu⟩ : ∃ u, x = V.str (S u) ∧ ws[i]? = some u := by
        rw [List.map_map, List.getElem?_map] at hx
        cases e : ws[i]? with
        | none => rw [e] at hx; cases hx
        | some u => rw [e] at hx; exact ⟨u, (Option.some.inj hx).symm, rfl⟩
      have hi := (List.getElem?_eq_some_iff.mp hu).1
      refine ⟨rfl, _, rfl, u, rfl, hw u (List.mem_cons_of_mem _ (List.mem_of_getElem? hu)), fun H5 sm5 => ⟨_, sm5 _ _ hD, ?_, vs ++ [cellV (wholeOf u)], upd_same, ?_, same_put (sm.trans sm5) nD⟩⟩
      · rw [hvs, List.length_map, List.length_take]
        exact small1000 (by omega)
      · rw [List.take_succ, hu, hvs, List.map_append]
        rfl
    · rintro H4 ⟨vs, hD, hvs, sm⟩
      rw [List.length_map, List.length_map, List.take_length] at hvs
      refine ⟨D, vs, rfl, .inl ⟨.inl (.inl hD), fun t2 nt2 => ?_⟩⟩
      have S5 : Same H4 (upd H4 t2 (.tup vs)) := same_upd nt2
      have ht1' : H4 t1 = some (.tup [V.str (S w0)]) := sm _ _ (S3 _ _ ht1)
      have S6 : Same H H4 := S1.trans (S2.trans (S3.trans sm))
      have eV : V.str (S w0) :: vs = itemsV (lineOf l) := by rw [eit, hvs]
      have n1 : H t1 = none := same_none (S1.trans (same_upd np1)) nt1
      refine ⟨t1, t2, _, _, rfl, rfl, .inl (.inl (S5 _ _ ht1')), .inl (.inl upd_same), List.cons_ne_nil _ _, ?_, ?_, ?_⟩
      · rw [hvs, List.length_map]
        exact Nat.le_of_lt (small1000 (by show 1 + ws.length ≤ 1000; omega))
      · intro e
        refine q _ t1 (S6.trans S5) n1 (.inl (.inl ((S5 _ _ ht1').trans ?_)))
        rw [← eV, e]
      · intro _ p4 np4
        refine q _ p4 (S6.trans (S5.trans (same_upd np4))) (same_none (S6.trans S5) np4) (.inl (.inl ?_))
        rw [upd_same, ← eV]
        rfl
end
/-- a text whose lines have short words -/
def fineText (l : CL) : Prop := l.length ≤ 900 ∧ ∀ x ∈ TL.spl [10] 0 [] l, ∀ u ∈ TL.spl [32] 0 [] x, u.length ≤ 30
theorem fine_line {l : CL} (h : fineText l) : ∀ x ∈ TL.spl [10] 0 [] l, fine x := fun x hx => ⟨by
  have := spl_item 10 l [] x hx
  rw [List.length_nil, Nat.zero_add] at this
  exact Nat.le_trans this h.1, h.2 x hx⟩
theorem rowV_tk {K : PySem.W.Frag} {H H' : Hp} {v : V} {r : Rw} (h : RowV K H v r) (k : TK K H H') : RowV K H' v r := by
  obtain ⟨a, e, ha⟩ := h
  exact ⟨a, e, k _ _ ha⟩
def RowsL (K : PySem.W.Frag) (H : Hp) (p : Addr) (rs : List Rw) : Prop := ∃ xs, H p = some (.lst xs) ∧ rs.length = xs.length ∧ ∀ (i : Nat) (v : V) (r : Rw), xs[i]? = some v → rs[i]? = some r → RowV K H v r
def NoTxt (K : PySem.W.Frag) (H : Hp) (x : V) : Prop := ∃ t, TyX K H x (.type t) ∧ kitB t "str" = some false
def spRecOf (K : PySem.W.Frag) (CB : Addr) : Sp := fun vs H Q E =>
  (∃ l : CL, vs = [.str (S l)] ∧ fineText l ∧ ((readText l).2 = none → ∀ H' p, Same H H' → H p = none → RowsL K H' p (readText l).1 → Q (.ref p) H') ∧
    (∀ n : Nat, (readText l).2 = some n → ∀ H' d, Same H H' → H d = none → H' d = some (.xd [("at", .int (n : Nat))]) → E (.ref CB) (some d) H')) ∨
  (∃ x : V, vs = [x] ∧ NoTxt K H x ∧ ∀ H' d, Same H H' → H d = none → H' d = some (.xd [("at", .non)]) → E (.ref CB) (some d) H')
/-- the lines ahead of a place are good -/
def aheadGood (ls : List CL) (i : Nat) : Prop := goodFrom ((ls.take i).map lineOf) 0 = true
theorem read_all : ∀ (ls : List CL) (n : Nat), goodFrom (ls.map lineOf) n = true → readFrom ls n = (ls.map lineOf, none)
  | [], _, _ => rfl
  | l :: ls, n, h => by
    rw [List.map_cons] at h
    have h' : (goodRow (lineOf l) n && goodFrom (ls.map lineOf) (n + 1)) = true := h
    rw [Bool.and_eq_true] at h'
    show (if goodRow (lineOf l) n = true then _ else _) = _
    rw [if_pos h'.1, read_all ls (n + 1) h'.2]
    rfl
theorem read_bad : ∀ (ls : List CL) (n i : Nat) (l : CL), ls[i]? = some l → goodFrom ((ls.take i).map lineOf) n = true → goodRow (lineOf l) (n + i) = false → readFrom ls n = ((ls.take i).map lineOf, some (n + i))
  | a :: ls, n, 0, l, h, _, hb => by
    cases (show a = l from Option.some.inj h)
    show (if goodRow (lineOf a) n = true then _ else _) = _
    rw [if_neg (by rw [show goodRow (lineOf a) n = false from hb]; decide)]
    rfl
  | a :: ls, n, i + 1, l, h, hg, hb => by
    rw [List.take_succ_cons, List.map_cons] at hg
    have h' : (goodRow (lineOf a) n && goodFrom ((ls.take i).map lineOf) (n + 1)) = true := hg
    rw [Bool.and_eq_true] at h'
    show (if goodRow (lineOf a) n = true then _ else _) = _
    have z := read_bad ls (n + 1) i l (by exact h) h'.2 (by rw [show n + 1 + i = n + (i + 1) from by omega]; exact hb)
    rw [if_pos h'.1, z, show n + 1 + i = n + (i + 1) from by omega]
    rfl
theorem ahead_next {ls : List CL} {i : Nat} {l : CL} (h : aheadGood ls i) (hl : ls[i]? = some l) (hg : goodRow (lineOf l) i = true) : aheadGood ls (i + 1) := by
  unfold aheadGood at *
  have hi := (List.getElem?_eq_some_iff.mp hl).1
  rw [List.take_succ, hl, List.map_append, goodFrom_app, h, List.length_map, List.length_take, Nat.min_eq_left (by omega), Nat.zero_add]
  show (true && (goodRow (lineOf l) i && true)) = true
  rw [hg]
  rfl
section
variable {P : Program} {w : World} {K : PySem.W.Frag} {mg : Str → Option Value} {base : Heap}
def recN : List Str := ["text", "rows", "at", "line", "row"]
theorem scRO : FnScope recN ["text"] (defScope sRecOf) := ⟨rfl, rfl, rfl, by decide +kernel, rfl, by decide +kernel, by decide +kernel⟩
theorem ok_recOf {f fL fR fI CB : Addr} {fd fdL fdR fdI : FuncData} (F : Fun K "reckoning_of" "reckoning_of" sRecOf f fd)
    (FL : Fun K "row_of_line" "row_of_line" sLine fL fdL) (GL : FnOk P w K mg base CX0 3 fL fdL ["line"] (spLine K)) (bL : Binds K fdL ["line"] []) (gL : mg "row_of_line" = some (.ref fL))
    (FR : Fun K "is_row" "is_row" sRow fR fdR) (GR : FnOk P w K mg base CX0 3 fR fdR ["value", "many"] (spRow K)) (bR : Binds K fdR ["value", "many"] []) (gR : mg "is_row" = some (.ref fR))
    (O : OexC K CB) (iM : PySem.W.findIn K (.ref CB) "__init__" = some (some (.ref fI))) (tI : PySem.W.typeIn K (.ref fI) = some (.type "function")) (GI : FnOk P w K mg base CX0 1 fI fdI ["self", "at"] (SupInit.spSup CB "at")) (bI : Binds K fdI ["self", "at"] []) (gM : mg "BadLine" = some (.ref CB))
    (mi : mg "isinstance" = none) (ms : mg "str" = none) (me : mg "enumerate" = none) : FnOk P w K mg base (L2.CX P w) 4 f fd ["text"] (spRecOf K CB) := by
  refine F.okX scRO (fun vs H Q E h => ?_) (fun cdv A outer s H vs Q E hr h => ?_)
  · rcases h with ⟨l, rfl, _⟩ | ⟨x, rfl, _⟩ <;> rfl
  · have hr2 : Room 2 _ := hr.mono (by decide)
    refine ⟨_, pss_cons (ps_if (pt_not (pt_val (pe_callB call_isi (by rfl) mi (by decide +kernel) (pa_cons (pv 0) (pa_cons (pe_bltn (v := .ty "str") (by rfl) ms (by decide +kernel) rfl) pa_nil)))))
        (pss_one (ps_raise rfl (takes_of rfl rfl rfl rfl) (pmk_oex O iM tI GI hr2 bI .nil pass0 (by rfl) gM (pa_cons pe_non pa_nil)))) pss_nil)
      (pss_cons (ps_set (i := 1) scRO.nd rfl (.inl rfl) (pe_lst pa_nil))
      (pss_cons (ps_for (passes_of rfl) rfl (pi_enum (by rfl) me (pa_cons (pe_split (pv 0) pe_str) pa_nil))
          (pg_tup (by rfl) (pgs_cons (pg_name (i := 2) scRO.nd rfl (.inl rfl)) (pgs_cons (pg_name (i := 3) scRO.nd rfl (.inl rfl)) pgs_nil)))
        (pss_cons (ps_set (i := 4) scRO.nd rfl (.inl rfl) (pe_call GL hr (by rfl) gL FL.kp bL .nil pass0 (pa_cons (pv 3) pa_nil)))
        (pss_cons (ps_if (pt_not (pt_val (pe_call GR hr (by rfl) gR FR.kp bR .nil pass0 (pa_cons (pv 4) (pa_cons (pv 2) pa_nil)))))
          (pss_one (ps_raise rfl (takes_of rfl rfl rfl rfl) (pmk_oex O iM tI GI hr2 bI .nil pass0 (by rfl) gM (pa_cons (pv 2) pa_nil)))) pss_nil)
        (pss_one (ps_expr (pe_bm PySem.F.plainAttrs_list PySem.F.slot_list_append PySem.F.type_list_append mt_append (pv 1) (pa_cons (pv 4) pa_nil)))))))
      (pss_one (ps_ret (pv 1))))), ?_⟩
    rcases h with ⟨l, rfl, hf, hgood, hbad⟩ | ⟨x, rfl, ⟨t, ht, hb⟩, q⟩
    · refine ⟨_, rfl, .str (S l), .ty "str", .type "str", .type "str", true, rfl, .ty _, .base (.str _), kit_ty (by decide +kernel), _, rfl, iteF ?_⟩
      refine ⟨Nat.zero_le _, fun p np => ?_⟩
      refine ⟨_, rfl, ⟨_, rfl⟩, _, _, rfl, rfl, by decide, by rw [len_S, sizeLine_eq]; have := hf.1; omega, fun pl npl => ?_⟩
      rw [show ("\n" : Str) = S [10] from by decide +kernel, split_S l (by decide)] at *
      have hfl := fine_line hf
      have hll := spl_len [10] l 0 []
      have hl9 := hf.1
      generalize els : TL.spl [10] 0 [] l = ls at hfl hll
      have er : readText l = readFrom ls 0 := by unfold readText; rw [els]
      rw [er] at hgood hbad
      have npl0 : H pl = none := same_none (same_upd np) npl
      have ne : p ≠ pl := fun z => by rw [← z, upd_same] at npl; cases npl
      generalize hH1 : upd (upd H p (.lst [])) pl (.lst ((ls.map S).map V.str)) = H1
      have S1 : Same H H1 := by rw [← hH1]; exact same_put (same_upd np) npl0
      have hp1 : H1 p = some (.lst []) := by rw [← hH1, upd_ne ne]; exact upd_same
      have hl1 : H1 pl = some (.lst ((ls.map S).map V.str)) := by rw [← hH1]; exact upd_same
      refine ⟨pl, (ls.map S).map V.str, rfl, .inl (.inl hl1), ?_⟩
      refine for_it (walk_enum (K := K) (a := pl) (xs := (ls.map S).map V.str)) (fun i σ H' => ∃ (a b c : Option V) (xs : List V), σ = [some (.str (S l)), some (.ref p), a, b, c] ∧ Same H H' ∧ H' p = some (.lst xs) ∧ H' pl = some (.lst ((ls.map S).map V.str)) ∧ aheadGood ls i ∧ xs.length = i ∧ ∀ (j : Nat) v r, xs[j]? = some v → (ls.map lineOf)[j]? = some r → RowV K H' v r)
        ⟨none, none, none, [], rfl, S1, hp1, hl1, rfl, rfl, fun j v r e => by cases e⟩ (fun i σ H' _ ⟨_, _, _, _, _, _, _, hl, _⟩ => .inl (.inl hl)) ?_ ?_
      · rintro i x σ H2 H3 hi ⟨a, b, c, xs, rfl, sm, hp, hl, hg, hxl, hrow⟩ ⟨T, n, v, rfl, nT, rfl, en, ev⟩
        cases en
        have ev : ((ls.map S).map V.str)[i]? = some v := ev
        obtain ⟨u, rfl, hu⟩ : ∃ u, v = V.str (S u) ∧ ls[i]? = some u := by
          rw [List.map_map, List.getElem?_map] at ev
          cases e : ls[i]? with
          | none => rw [e] at ev; cases ev
          | some u => rw [e] at ev; exact ⟨u, (Option.some.inj ev).symm, rfl⟩
        have hil := (List.getElem?_eq_some_iff.mp hu).1
        refine ⟨T, _, rfl, .inl (.inl upd_same), rfl, _, _, rfl, _, _, rfl, rfl, ?_⟩
        have ST : Same H2 (upd H2 T (.tup [.int (i : Nat), .str (S u)])) := same_upd nT
        refine ⟨_, rfl, u, rfl, hfl u (List.mem_of_getElem? hu), fun H4 y sm4 ny hy => ?_⟩
        have S4 : Same H2 H4 := ST.trans sm4
        refine ⟨_, rfl, _, rfl, .ref y, some (lineOf u), i, rfl, .inl ⟨lineOf u, rfl, y, rfl, hy⟩, _, rfl, ?_⟩
        cases hgr : goodO (some (lineOf u)) i with
        | false =>
          refine iteT ?_
          refine ⟨_, rfl, by show 1 ≤ 1000; decide, fun a na => ?_⟩
          refine ⟨a, .int (i : Nat), rfl, upd_same, fun dx nx ne => ⟨rfl, dx, _, upd_same, (upd_ne ne).trans upd_same, ?_, ?_⟩⟩
          · rwa [upd_ne ne] at nx
          · rw [upd_ne ne] at nx
            have S5 := sm.trans S4
            have rb := read_bad ls 0 i u hu hg (by rw [Nat.zero_add]; exact hgr)
            refine hbad i (by rw [rb, Nat.zero_add]) _ dx (fun b o hb => ?_) (same_none S5 nx) upd_same
            have hb4 := S5 _ _ hb
            have b1 : b ≠ a := ne_of_none hb4 na
            have b2 : b ≠ dx := ne_of_none hb4 nx
            rw [upd_ne b2, del_ne b1, upd_ne b1, upd_ne b2, upd_ne b1]
            exact hb4
        | true =>
          refine iteF ?_
          have hp4 := S4 _ _ hp
          refine ⟨_, rfl, .inl ⟨rfl, _, .inl (.inl hp4)⟩, _, rfl, p, xs, _, rfl, rfl, hp4, small1000 (by omega), ?_⟩
          have nyp : y ≠ p := fun z => by rw [z] at ny; rw [ST _ _ hp] at ny; cases ny
          refine ⟨_, _, _, xs ++ [.ref y], rfl, fun b o hb => ?_, upd_same, ?_, ahead_next hg hu hgr, by rw [List.length_append, hxl]; rfl, ?_⟩
          · rw [upd_ne (ne_of_none hb np)]
            exact S4 _ _ (sm _ _ hb)
          · rw [upd_ne ne.symm]
            exact S4 _ _ hl
          · intro j v2 r e1 e2
            have tk : TK K H2 (upd H4 p (.lst (xs ++ [.ref y]))) := (TK.of S4).trans (TK.put hp4)
            by_cases hj : j < i
            · rw [List.getElem?_append_left (by omega)] at e1
              exact rowV_tk (hrow j v2 r e1 e2) tk
            · rw [List.getElem?_append_right (by omega)] at e1
              have hj0 : j - xs.length = 0 := by
                have := (List.getElem?_eq_some_iff.mp e1).1
                rw [List.length_singleton] at this
                omega
              rw [hj0] at e1
              cases (show V.ref y = v2 from Option.some.inj e1)
              have hji : j = i := by omega
              rw [hji, List.getElem?_map, hu] at e2
              cases e2
              exact ⟨y, rfl, TK.put hp4 _ _ hy⟩
      · rintro σ H2 ⟨a, b, c, xs, rfl, sm, hp, hl, hg, hxl, hrow⟩
        rw [List.length_map, List.length_map] at hxl hg
        have ra := read_all ls 0 (by unfold aheadGood at hg; rwa [List.take_length] at hg)
        refine ⟨_, rfl, hgood (by rw [ra]) _ p sm np ⟨xs, hp, ?_, ?_⟩⟩
        · rw [ra, List.length_map]; exact hxl.symm
        · rw [ra]; exact hrow
    · refine ⟨_, rfl, x, .ty "str", .type t, .type "str", false, rfl, .ty _, ht, kit_ty hb, _, rfl, iteT ?_⟩
      refine ⟨by show 1 ≤ 1000; decide, fun a na => ?_⟩
      refine ⟨a, .non, rfl, upd_same, fun dx nx ne => ⟨rfl, dx, _, upd_same, (upd_ne ne).trans upd_same, ?_, ?_⟩⟩
      · rwa [upd_ne ne] at nx
      · rw [upd_ne ne] at nx
        refine q _ dx (fun b o hb => ?_) nx upd_same
        have b1 : b ≠ a := ne_of_none hb na
        have b2 : b ≠ dx := ne_of_none hb nx
        rw [upd_ne b2, del_ne b1, upd_ne b1, upd_ne b2, upd_ne b1]
        exact hb
end
end R9

set_option Elab.async false
set_option linter.all false
set_option maxRecDepth 100000
set_option maxHeartbeats 2000000
/-! Rows as plain data; the law's look at a row. -/
namespace R10
open PySem PySem.Spec PyProof.Rows L2 Cau Dr65 R0 R3 R4 R5 R6 R7 R8 R9
/-! ### data -/
def dCell : Option Int → PyData
  | none => .none
  | some i => .int i
def dRow (r : Rw) : PyData := .tuple (.str (S r.1) :: r.2.map dCell)
def dRows (rs : List Rw) : PyData := .list (rs.map dRow)
def asc (l : CL) : Prop := ∀ c ∈ l, c < 256
theorem asc_ok {l : CL} (h : asc l) : PyData.strOk (S l) = true := by
  unfold PyData.strOk
  show (l.toArray.all fun x => decide (x < 1114112)) = true
  rw [List.all_toArray, List.all_eq_true]
  intro c hc
  exact decide_eq_true (Nat.lt_trans (h c hc) (by decide))
theorem cells_lay : ∀ os : List (Option Int), PyData.canLayAll0 (os.map dCell) = true ∧ PyData.depthAll (os.map dCell) = 0
  | [] => by simp [PyData.canLayAll0, PyData.depthAll]
  | none :: r => by simp [PyData.canLayAll0, PyData.depthAll, dCell, PyData.canLay0, PyData.depth, cells_lay r]
  | some i :: r => by simp [PyData.canLayAll0, PyData.depthAll, dCell, PyData.canLay0, PyData.depth, cells_lay r]
theorem row_lay {r : Rw} (h : asc r.1) : (dRow r).canLay0 = true ∧ (dRow r).depth = 1 := by
  unfold dRow
  simp [PyData.canLayAll0, PyData.depthAll, PyData.canLay0, PyData.depth, cells_lay r.2, asc_ok h]
theorem rows_lay : ∀ {rs : List Rw}, (∀ r ∈ rs, asc r.1) → PyData.canLayAll0 (rs.map dRow) = true ∧ PyData.depthAll (rs.map dRow) ≤ 1
  | [], _ => by simp [PyData.canLayAll0, PyData.depthAll]
  | r :: rs, h => by
    have h1 := row_lay (h r List.mem_cons_self)
    have h2 := rows_lay fun q hq => h q (List.mem_cons_of_mem _ hq)
    refine ⟨by simp [PyData.canLayAll0, h1.1, h2.1], ?_⟩
    simp only [List.map_cons, PyData.depthAll, h1.2]
    have := h2.2
    omega
theorem shaped_row {r : Rw} (h : asc r.1) : SeqAt.shaped (dRow r) = true := by
  unfold SeqAt.shaped
  rw [(row_lay h).1, (row_lay h).2]
  decide
theorem shaped_rows {rs : List Rw} (h : ∀ r ∈ rs, asc r.1) : SeqAt.shaped (dRows rs) = true := by
  have z := rows_lay h
  unfold SeqAt.shaped dRows
  simp only [PyData.canLay0, PyData.depth, z.1, Bool.true_and, decide_eq_true_iff]
  have := z.2
  exact decide_eq_true (by omega)
theorem shaped_cells (os : List (Option Int)) : SeqAt.shaped (.list (os.map dCell)) = true := by
  unfold SeqAt.shaped
  simp [PyData.canLay0, PyData.depth, cells_lay os]
theorem rows_self {rs : List Rw} (h : ∀ r ∈ rs, asc r.1) : (dRows rs).eqv (dRows rs) = true := by
  refine SeqAt.eqv_refl _ ?_
  unfold dRows
  simp only [PyData.canLay0]
  exact (rows_lay h).1
theorem row_some (r : Rw) : (dRow r).eqv (.tuple []) = false := by
  unfold dRow
  simp [PyData.eqv, PyData.eqvAll]
theorem shaped_tup0 : SeqAt.shaped (.tuple []) = true := by decide
section
variable {K : PySem.W.Frag} {H : Hp}
theorem dp_cell : ∀ o : Option Int, Dp K H (cellV o) (dCell o)
  | none => .non
  | some i => .int i
theorem dp_cells : ∀ os : List (Option Int), DpAll K H (os.map cellV) (os.map dCell)
  | [] => .nil
  | o :: r => .cons (dp_cell o) (dp_cells r)
theorem dp_row {a : Addr} {r : Rw} (h : SqT K H a (itemsV r)) : Dp K H (.ref a) (dRow r) := .tup h (.cons (.str _) (dp_cells r.2))
theorem dp_all : ∀ {xs : List V} {rs : List Rw}, rs.length = xs.length → (∀ (i : Nat) v r, xs[i]? = some v → rs[i]? = some r → RowV K H v r) → DpAll K H xs (rs.map dRow)
  | [], [], _, _ => .nil
  | v :: xs, r :: rs, hl, h => by
    obtain ⟨a, rfl, ha⟩ := h 0 v r rfl rfl
    exact .cons (dp_row ha) (dp_all (Nat.succ.inj hl) fun i v r e1 e2 => h (i + 1) v r e1 e2)
theorem dp_rows {p : Addr} {rs : List Rw} (h : RowsL K H p rs) : Dp K H (.ref p) (dRows rs) := by
  obtain ⟨xs, hp, hl, hr⟩ := h
  exact .lst (.inl (.inl hp)) (dp_all hl hr)
end
/-! ### the law's look -/
def allSome (r : Rw) : Bool := r.2.all Option.isSome
def ixAll (r : Rw) (n : Nat) : Bool := r.2.all fun o => ixB (o.getD 0) n
theorem size_two {w : CL} (h : w ∈ twos) : w ≠ W "fraction" ∧ w ≠ W "root" := by
  have all : ∀ x ∈ twos, x ≠ W "fraction" ∧ x ≠ W "root" := by decide +kernel
  exact all w h
theorem good_parts (r : Rw) (n : Nat) : goodRow r n = (decide (R3.sizeOf r.1 = some (r.2.length + 1)) && (allSome r && (if r.1 = W "fraction" then decide (1 ≤ (r.2.getD 1 none).getD 0) else ixAll r n))) := by
  obtain ⟨w, os⟩ := r
  have ne : W "root" ≠ W "fraction" := by decide +kernel
  unfold goodRow R3.sizeOf allSome ixAll
  by_cases h1 : w = W "fraction"
  · simp only [h1, if_true]
    rcases os with _ | ⟨_ | a, _ | ⟨_ | b, _ | ⟨c, t⟩⟩⟩ <;> simp
  · by_cases h2 : w = W "root"
    · simp only [h1, h2, ne, if_true, if_false]
      rcases os with _ | ⟨_ | a, _ | ⟨b, t⟩⟩ <;> simp
    · by_cases h3 : w ∈ twos
      · simp only [h1, h2, h3, if_true, if_false]
        rcases os with _ | ⟨_ | a, _ | ⟨_ | b, _ | ⟨c, t⟩⟩⟩ <;> simp
      · simp [h1, h2, h3]
/-- the table of sizes -/
def sizesD : List (Key × V) := [(.inr "fraction", .int 3), (.inr "plus", .int 3), (.inr "minus", .int 3), (.inr "times", .int 3), (.inr "over", .int 3), (.inr "hyp", .int 3), (.inr "root", .int 2)]
theorem find_none {α : Type} (f : α → Bool) {l : List α} (h : ∀ x ∈ l, f x = false) : l.find? f = none := by
  rw [List.find?_eq_none]
  exact fun x hx => by rw [h x hx]; decide
theorem sizes_get (w : CL) : valV sizesD (.inr (S w)) = (R3.sizeOf w).map fun k => V.int (k : Nat) := by
  by_cases hw : w ∈ sevenW
  · have all : ∀ x ∈ sevenW, valV sizesD (.inr (S x)) = (R3.sizeOf x).map fun k => V.int (k : Nat) := by decide +kernel
    exact all w hw
  · have e1 : R3.sizeOf w = none := by
      unfold R3.sizeOf
      have h1 : w ≠ W "fraction" := fun z => hw (by rw [z]; decide +kernel)
      have h2 : w ≠ W "root" := fun z => hw (by rw [z]; decide +kernel)
      have h3 : w ∉ twos := fun z => hw (by
        have all : ∀ x ∈ twos, x ∈ sevenW := by decide +kernel
        exact all w z)
      rw [if_neg h1, if_neg h2, if_neg h3]
    rw [e1]
    unfold valV
    rw [find_none]
    · rfl
    · intro x hx
      refine decide_eq_false fun z => hw ?_
      have all : ∀ x ∈ sizesD, ∀ s : Str, x.1 = .inr s → s.cps.toList ∈ sevenW := by
        intro x hx s hs
        have h2 : ∀ x ∈ sizesD, (match x.1 with | .inr s => decide (s.cps.toList ∈ sevenW) | .inl _ => true) = true := by decide +kernel
        have h3 := h2 x hx
        rw [hs] at h3
        exact of_decide_eq_true h3
      have := all x hx _ z
      simpa [S] using this
end R10

set_option Elab.async false
set_option linter.all false
set_option maxRecDepth 100000
set_option maxHeartbeats 2000000
/-! The law's look at rows. -/
namespace R11
open PySem PySem.Spec PyProof.Rows L2 Cau Dr65 R0 R3 R4 R5 R6 R7 R8 R9 R10
abbrev sLWhole : Stmt := topS 35
abbrev sLRows : Stmt := topS 36
theorem sizes_new : mergeK [] sizesD = sizesD := by decide +kernel
theorem bad_at {rs : List Rw} {i : Nat} {r : Rw} (hr : rs[i]? = some r) (hb : goodRow r i = false) : goodRows rs = false := by
  have hi := (List.getElem?_eq_some_iff.mp hr).1
  have e : rs = rs.take i ++ r :: rs.drop (i + 1) := by
    have h1 := (List.take_append_drop i rs).symm
    rwa [List.drop_eq_getElem_cons hi, (List.getElem?_eq_some_iff.mp hr).2] at h1
  unfold goodRows
  rw [Bool.and_eq_false_iff]
  right
  rw [e, goodFrom_app, List.length_take, Nat.min_eq_left (by omega), Nat.zero_add]
  show (goodFrom (rs.take i) 0 && (goodRow r i && goodFrom _ _)) = false
  rw [hb]
  simp
theorem good_on {rs : List Rw} {i : Nat} {r : Rw} (hr : rs[i]? = some r) (h : goodFrom (rs.take i) 0 = true) (hg : goodRow r i = true) : goodFrom (rs.take (i + 1)) 0 = true := by
  have hi := (List.getElem?_eq_some_iff.mp hr).1
  rw [List.take_succ, hr, goodFrom_app, h, List.length_take, Nat.min_eq_left (by omega), Nat.zero_add]
  show (true && (goodRow r i && true)) = true
  rw [hg]
  rfl
theorem rowsL_same {K : PySem.W.Frag} {H H' : Hp} {p : Addr} {rs : List Rw} (h : RowsL K H p rs) (s : Same H H') : RowsL K H' p rs := by
  obtain ⟨xs, hp, hl, hr⟩ := h
  exact ⟨xs, s _ _ hp, hl, fun i v r e1 e2 => rowV_tk (hr i v r e1 e2) (TK.of s)⟩
def fewCells (r : Rw) : Prop := asc r.1 ∧ r.2.length ≤ 900
def spLRows (K : PySem.W.Frag) : Sp := fun vs H Q _ => ∃ (p : Addr) (rs : List Rw), vs = [.ref p] ∧ RowsL K H p rs ∧ rs.length ≤ 950 ∧ (∀ r ∈ rs, fewCells r) ∧ ∀ H', Same H H' → Q (.bl (goodRows rs)) H'
section
variable {P : Program} {w : World} {K : PySem.W.Frag} {mg : Str → Option Value} {base : Heap}
theorem scLW : FnScope ["value"] ["value"] (defScope sLWhole) := ⟨rfl, rfl, rfl, by decide +kernel, rfl, by decide +kernel, by decide +kernel⟩
theorem ok_lwhole {f : Addr} {fd : FuncData} (F : Fun K "_law_is_whole" "_law_is_whole" sLWhole f fd) (mi : mg "isinstance" = none) (mint : mg "int" = none) (mb : mg "bool" = none) : FnOk P w K mg base CX0 1 f fd ["value"] spWhole := by
  refine F.ok scLW (fun vs H Q E h => ?_) (fun cdv A outer s H vs Q E hr h => ?_)
  · obtain ⟨x, rfl, _⟩ := h
    rfl
  · obtain ⟨o, rfl, q⟩ := h
    refine ⟨_, pss_one (ps_ret (pe_and (pe_callB call_isi (by rfl) mi (by decide +kernel) (pa_cons (pv 0) (pa_cons (pe_bltn (v := .ty "int") (by rfl) mint (by decide +kernel) rfl) pa_nil)))
      (pe_one (pe_not (pe_callB call_isi (by rfl) mi (by decide +kernel) (pa_cons (pv 0) (pa_cons (pe_bltn (v := .ty "bool") (by rfl) mb (by decide +kernel) rfl) pa_nil))))))), ?_⟩
    cases o with
    | none => exact ⟨_, rfl, .non, .ty "int", .type "NoneType", .type "int", false, rfl, .ty _, .base .non, kit_ty (by decide +kernel), false, rfl, iteF q⟩
    | some i =>
      refine ⟨_, rfl, .int i, .ty "int", .type "int", .type "int", true, rfl, .ty _, .base (.int i), kit_ty (by decide +kernel), true, rfl, iteT ?_⟩
      exact ⟨_, rfl, .int i, .ty "bool", .type "int", .type "bool", false, rfl, .ty _, .base (.int i), kit_ty (by decide +kernel), false, rfl, q⟩
def lrN : List Str := ["value", "sizes", "at", "row", "place"]
theorem scLR : FnScope lrN ["value"] (defScope sLRows) := ⟨rfl, rfl, rfl, by decide +kernel, rfl, by decide +kernel, by decide +kernel⟩
theorem ok_lrows {f fW : Addr} {fd fdW : FuncData} (F : Fun K "_law_is_rows" "_law_is_rows" sLRows f fd) (FW : Fun K "_law_is_whole" "_law_is_whole" sLWhole fW fdW) (GW : FnOk P w K mg base CX0 1 fW fdW ["value"] spWhole) (bW : Binds K fdW ["value"] []) (gW : mg "_law_is_whole" = some (.ref fW))
    (mi : mg "isinstance" = none) (ml : mg "list" = none) (mt : mg "tuple" = none) (mlen : mg "len" = none) (me : mg "enumerate" = none) : FnOk P w K mg base CX0 2 f fd ["value"] (spLRows K) := by
  refine F.ok scLR (fun vs H Q E h => ?_) (fun cdv A outer s H vs Q E hr h => ?_)
  · obtain ⟨p, rs, rfl, _⟩ := h
    rfl
  · obtain ⟨p, rs, rfl, hR, hlen, hfew, q⟩ := h
    have hu := hu_of (hr.mono (Nat.zero_le _) : Room 0 _)
    refine ⟨_, pss_cons (ps_if (PW.pt (pw_or (pt_not (pt_val (pe_callB call_isi (by rfl) mi (by decide +kernel) (pa_cons (pv 0) (pa_cons (pe_bltn (v := .ty "list") (by rfl) ml (by decide +kernel) rfl) pa_nil)))))
        (pw_or1 (pt_cmpR (op_eqD hr.units) (pv 0) (pe_lst pa_nil) (nomark _))))) (pss_one (ps_ret pe_bl)) pss_nil)
      (pss_cons (ps_set (i := 1) scLR.nd rfl (.inl rfl) (pe_disp (pps_cons pe_str pe_int (pps_cons pe_str pe_int (pps_cons pe_str pe_int (pps_cons pe_str pe_int (pps_cons pe_str pe_int (pps_cons pe_str pe_int (pps_cons pe_str pe_int pps_nil))))))) (by rfl) (by rfl) (fun z => by cases z) (by decide)))
      (pss_cons (ps_for PassesOwn.never rfl (pi_enum (by rfl) me (pa_cons (pv 0) pa_nil))
          (pg_tup (by rfl) (pgs_cons (pg_name (i := 2) scLR.nd rfl (.inr rfl)) (pgs_cons (pg_name (i := 3) scLR.nd rfl (.inl rfl)) pgs_nil)))
        (pss_cons (ps_if (PW.pt (pw_or (pt_not (pt_val (pe_callB call_isi (by rfl) mi (by decide +kernel) (pa_cons (pv 3) (pa_cons (pe_bltn (v := .ty "tuple") (by rfl) mt (by decide +kernel) rfl) pa_nil)))))
            (pw_or (pt_cmpR (op_eqD hr.units) (pv 3) (pe_tup pa_nil) (nomark _))
            (pw_or (pt_cmp (pc_dnotin hu (pe_ix (show IxR _ (rIxT K) from ix_tup) (pv 3) pe_int (fun _ _ => rfl)) (pv 1)))
            (pw_or1 (pt_cmpR op_ne (pe_callB call_len_seq (by rfl) mlen PySem.boot_len (pa_cons (pv 3) pa_nil)) (pe_dget hu (pv 1) (pe_ix (show IxR _ (rIxT K) from ix_tup) (pv 3) pe_int (fun _ _ => rfl)) (fun _ _ => rfl)) (nomark _))))))) (pss_one (ps_ret pe_bl)) pss_nil)
        (pss_cons (ps_if (pt_cmpR (op_neD hr.units)
            (pe_lc (own := [("place", 4)]) (g := gName 4) rfl scLR.nd (pi_tup (pe_slice sl_tup (pv 3) (po_some pe_int) po_none))
              (blkOk_by (own := [("place", 4)]) (N := lrN) (sc := defScope sLRows) (by decide +kernel))
              (fun _ _ _ _ _ => pg_name (i := 4) scLR.nd rfl (.inl rfl)) (fun _ _ _ _ _ => pts_one (pt_not (pt_val (pe_call GW hr (by rfl) gW FW.kp bW .nil pass0 (pa_cons (pv 4) pa_nil))))) (fun _ _ _ _ _ => pv 4))
            (pe_lst pa_nil) (nomark _)) (pss_one (ps_ret pe_bl)) pss_nil)
        (pss_cons (ps_if (PW.pt (pw_and (pt_cmpR op_eq (pe_ix ix_tup (pv 3) pe_int (fun _ _ => rfl)) pe_str (nomark _)) (pw_and1 (pt_cmpR op_lt (pe_ix ix_tup (pv 3) pe_int (fun _ _ => rfl)) pe_int (nomark _))))) (pss_one (ps_ret pe_bl)) pss_nil)
        (pss_one (ps_if (PW.pt (pw_and (pt_cmpR op_ne (pe_ix ix_tup (pv 3) pe_int (fun _ _ => rfl)) pe_str (nomark _)) (pw_and1 (pt_cmpR (op_neD hr.units)
            (pe_lc (own := [("place", 4)]) (g := gName 4) rfl scLR.nd (pi_tup (pe_slice sl_tup (pv 3) (po_some pe_int) po_none))
              (blkOk_by (own := [("place", 4)]) (N := lrN) (sc := defScope sLRows) (by decide +kernel))
              (fun _ _ _ _ _ => pg_name (i := 4) scLR.nd rfl (.inl rfl)) (fun _ _ _ _ _ => pts_one (PW.pt (pw_or (pt_cmpR op_lt (pv 4) pe_int (nomark _)) (pw_or1 (pt_cmpR op_ge (pv 4) (pv 2) (nomark _)))))) (fun _ _ _ _ _ => pv 4))
            (pe_lst pa_nil) (nomark _))))) (pss_one (ps_ret pe_bl)) pss_nil))))) )
      (pss_one (ps_ret pe_bl)))), ?_⟩
    have q' : ∀ b H', goodRows rs = b → Same H H' → Q (.bl b) H' := fun b H' e sm => by
      subst e
      exact q H' sm
    have hR0 := hR
    obtain ⟨xs, hp, hl, hrow⟩ := hR
    have hasc : ∀ r ∈ rs, asc r.1 := fun r hr => (hfew r hr).1
    refine ⟨_, rfl, .ref p, .ty "list", .type "list", .type "list", true, rfl, .ty _, sqL_ty (.inl (.inl hp)), kit_ty (by decide +kernel), true, rfl, iteF ?_⟩
    refine ⟨_, rfl, Nat.zero_le _, fun l0 nl0 => ?_⟩
    have S0 : Same H (upd H l0 (.lst [])) := same_upd nl0
    refine ⟨dRows rs, .list [], dp_rows (rowsL_same hR0 S0), dp_nil upd_same, shaped_rows hasc, shaped_nil, _, rfl, ?_⟩
    rw [show (dRows rs).eqv (.list []) = rs.isEmpty from eqv_nil dRow rs]
    cases hrs : rs.isEmpty with
    | true =>
      refine iteT2 rfl (q' false _ ?_ S0)
      unfold goodRows
      rw [hrs]
      rfl
    | false =>
      refine iteF2 rfl ?_
      intro pS npS
      refine ⟨upd_same, sizesD, rfl, by show 7 ≤ 15; decide, ?_⟩
      rw [upd_upd, sizes_new]
      generalize hHs : upd (upd H l0 (.lst [])) pS (.dK sizesD) = Hs
      have S1 : Same H Hs := by rw [← hHs]; exact same_put S0 (same_none S0 npS)
      have hS : Hs pS = some (.dK sizesD) := by rw [← hHs]; exact upd_same
      refine ⟨_, rfl, p, xs, rfl, .inl (.inl (S1 _ _ hp)), ?_⟩
      refine for_it (walk_enum (K := K) (a := p) (xs := xs)) (fun i σ H' => ∃ (a b : Option V), σ = [some (.ref p), some (.ref pS), a, b, none] ∧ Same Hs H' ∧ goodFrom (rs.take i) 0 = true) ⟨none, none, rfl, same_rfl, rfl⟩ (fun i σ H' _ ⟨_, _, _, sm, _⟩ => .inl (.inl (sm _ _ (S1 _ _ hp)))) ?_ ?_
      · rintro i x σ H2 H3 hi ⟨a, b, rfl, sm, hg⟩ ⟨T, n, v, rfl, nT, rfl, en, ev⟩
        cases en
        have hi' : i < rs.length := by omega
        have hri : rs[i]? = some rs[i] := List.getElem?_eq_getElem hi'
        obtain ⟨hasc', h900⟩ := hfew rs[i] (List.getElem_mem _)
        obtain ⟨aR, rfl, ha⟩ := hrow i v _ ev hri
        generalize rs[i] = r at hri hasc' h900 ha
        refine ⟨T, _, rfl, .inl (.inl upd_same), rfl, _, _, rfl, _, _, rfl, rfl, ?_⟩
        have ST : Same Hs (upd H2 T (.tup [.int (i : Nat), .ref aR])) := sm.trans (same_upd nT)
        generalize upd H2 T (.tup [.int (i : Nat), .ref aR]) = Ht at ST
        have hRt : SqT K Ht aR (itemsV r) := sqT_same ha (S1.trans ST)
        have bad : ∀ H', goodRow r i = false → Same Ht H' → Q (.bl false) H' := fun H' e sm => q' false H' (bad_at hri e) (S1.trans (ST.trans sm))
        refine ⟨_, rfl, .ref aR, .ty "tuple", .type "tuple", .type "tuple", true, rfl, .ty _, sqT_ty hRt, kit_ty (by decide +kernel), true, rfl, iteF ?_⟩
        refine ⟨_, rfl, Nat.zero_le _, fun t0 nt0 => ?_⟩
        have St0 : Same Ht (upd Ht t0 (.tup [])) := same_upd nt0
        refine ⟨dRow r, .tuple [], dp_row (sqT_same hRt St0), .tup (.inl (.inl upd_same)) .nil, shaped_row hasc', shaped_tup0, _, rfl, ?_⟩
        rw [row_some]
        refine iteF2 rfl ?_
        generalize upd Ht t0 (.tup []) = Hu at St0
        have hRu := sqT_same hRt St0
        have hSu : Hu pS = some (.dK sizesD) := St0 _ _ (ST _ _ hS)
        have g4 : DGet Hu pS (.str (S r.1)) (valV sizesD (.inr (S r.1))) := DGet.k (k := (.inr (S r.1) : Key)) hSu
        rw [sizes_get] at g4
        refine ⟨_, rfl, aR, _, 0, _, rfl, rfl, hRu, atI_nat (j := 0) rfl, _, rfl, pS, _, rfl, g4, _, rfl, ?_⟩
        have gp := good_parts r i
        cases hsz : R3.sizeOf r.1 with
        | none =>
          refine iteT2 rfl (bad _ ?_ St0)
          rw [gp, hsz]
          rfl
        | some k =>
          rw [hsz] at gp g4
          refine iteF2 rfl ?_
          refine ⟨_, rfl, aR, itemsV r, rfl, .inr hRu, _, rfl, _, rfl, aR, _, 0, _, rfl, rfl, hRu, atI_nat (j := 0) rfl, pS, _, rfl, g4, rfl, _, rfl, ?_⟩
          have hlenR : (itemsV r).length = r.2.length + 1 := by unfold itemsV; rw [List.length_cons, List.length_map]
          rw [hlenR]
          by_cases hk : k = r.2.length + 1
          · refine iteF2 ?_ ?_
            · rw [hk]; simp
            have gp2 : goodRow r i = (allSome r && (if r.1 = W "fraction" then decide (1 ≤ (r.2.getD 1 none).getD 0) else ixAll r i)) := by
              rw [gp, hk, decide_eq_true rfl, Bool.true_and]
            have hRv : SqT K Hu aR (V.str (S r.1) :: r.2.map cellV) := hRu
            refine ⟨_, rfl, _, rfl, aR, _, rfl, hRv, not_whole _ _ _, fun p1 np1 => ?_⟩
            rw [cut1]
            refine ⟨p1, rfl, ⟨_, .inl (.inl upd_same)⟩, fun D nD => ?_⟩
            generalize hH5 : upd Hu p1 (.tup (r.2.map cellV)) = H5 at nD
            have S5 : Same Hu H5 := by rw [← hH5]; exact same_upd np1
            have hp5 : SqT K H5 p1 (r.2.map cellV) := by rw [← hH5]; exact .inl (.inl upd_same)
            refine lc_it (walk_tup (K := K) (a := p1) (xs := r.2.map cellV)) (fun j H' => ∃ os : List (Option Int), H' D = some (.lst (os.map cellV)) ∧ os = (r.2.take j).filter (fun o => !o.isSome) ∧ Same H5 H') ⟨[], upd_same, rfl, same_upd nD⟩ (fun j H' _ ⟨_, _, _, sm⟩ => sqT_same hp5 sm) ?_ ?_
            · rintro j x H6 H7 hj ⟨os, hD, hos, sm6⟩ ⟨rfl, hx⟩
              obtain ⟨o, rfl, ho⟩ : ∃ o, x = cellV o ∧ r.2[j]? = some o := by
                rw [List.getElem?_map] at hx
                cases e : r.2[j]? with
                | none => rw [e] at hx; cases hx
                | some o => rw [e] at hx; exact ⟨o, (Option.some.inj hx).symm, rfl⟩
              have hjl := (List.getElem?_eq_some_iff.mp ho).1
              refine ⟨rfl, _, rfl, o, rfl, _, rfl, ?_⟩
              cases o with
              | some n =>
                refine iteF2 rfl ⟨os, hD, ?_, sm6⟩
                rw [List.take_succ, ho, List.filter_append, ← hos]
                exact (List.append_nil _).symm
              | none =>
                refine iteT2 rfl ⟨_, rfl, _, hD, ?_, os ++ [none], by rw [upd_same, List.map_append]; rfl, ?_, same_put sm6 nD⟩
                · rw [List.length_map, hos]
                  exact small1000 (Nat.le_trans (List.length_filter_le _ _) (by rw [List.length_take]; omega))
                · rw [List.take_succ, ho, List.filter_append, ← hos]
                  rfl
            · rintro H6 ⟨os, hD, hos, sm6⟩
              rw [List.length_map, List.take_length] at hos
              refine ⟨Nat.zero_le _, fun l1 nl1 => ?_⟩
              have Sl1 : Same H6 (upd H6 l1 (.lst [])) := same_upd nl1
              refine ⟨.list (os.map dCell), .list [], .lst (.inl (.inl (Sl1 _ _ hD))) (dp_cells os), dp_nil upd_same, shaped_cells os, shaped_nil, _, rfl, ?_⟩
              rw [eqv_nil dCell os]
              have S6 : Same Ht (upd H6 l1 (.lst [])) := St0.trans (S5.trans (sm6.trans Sl1))
              generalize upd H6 l1 (.lst []) = H8 at S6
              cases hall : allSome r with
              | false =>
                refine iteT2 ?_ (bad _ (by rw [gp2, hall]; rfl) S6)
                unfold allSome at hall
                cases os with
                | nil =>
                  have : r.2.all Option.isSome = true := by
                    rw [List.all_eq_true]
                    intro o ho
                    have := (List.filter_eq_nil_iff.mp hos.symm) o ho
                    cases o with
                    | none => exact absurd rfl this
                    | some n => rfl
                  rw [this] at hall
                  cases hall
                | cons => rfl
              | true =>
                rw [hall, Bool.true_and] at gp2
                have hos0 : os = [] := by
                  rw [hos, List.filter_eq_nil_iff]
                  unfold allSome at hall
                  rw [List.all_eq_true] at hall
                  intro o ho
                  rw [hall o ho]
                  decide
                rw [hos0]
                refine iteF2 rfl ?_
                have hR8 : SqT K H8 aR (V.str (S r.1) :: r.2.map cellV) := sqT_same hRt S6
                refine ⟨_, rfl, aR, _, 0, _, rfl, rfl, hR8, atI_nat (j := 0) rfl, rfl, _, rfl, ?_⟩
                rw [show decide (V.str (S r.1) = V.str (Str.ofString "fraction")) = decide (r.1 = W "fraction") from eqW _ "fraction"]
                by_cases hF : r.1 = W "fraction"
                · rw [if_pos hF] at gp2
                  have hk3 : k = 3 := by
                    unfold R3.sizeOf at hsz
                    rw [if_pos hF] at hsz
                    exact (Option.some.inj hsz).symm
                  obtain ⟨o1, o2, e2⟩ : ∃ o1 o2, r.2 = [o1, o2] := by
                    rcases e : r.2 with _ | ⟨o1, _ | ⟨o2, _ | ⟨o3, t⟩⟩⟩
                    · rw [e] at hk; simp at hk; omega
                    · rw [e] at hk; simp at hk; omega
                    · exact ⟨o1, o2, rfl⟩
                    · rw [e] at hk; simp at hk; omega
                  obtain ⟨d, rfl⟩ : ∃ d, o2 = some d := by
                    unfold allSome at hall
                    rw [e2] at hall
                    cases o2 with
                    | none => simp at hall
                    | some d => exact ⟨d, rfl⟩
                  rw [e2] at hR8 gp2
                  refine iteT2 (decide_eq_true hF) ?_
                  refine ⟨_, rfl, aR, _, 2, .int d, rfl, rfl, hR8, atI_nat (j := 2) rfl, _, _, rfl, rfl, _, rfl, ?_⟩
                  by_cases hd : d < 1
                  · refine iteT2 (decide_eq_true hd) (bad _ (by rw [gp2]; exact decide_eq_false (by show ¬ (1 : Int) ≤ d; omega)) S6)
                  · refine iteF2 (decide_eq_false hd) ?_
                    refine ⟨_, rfl, aR, _, 0, _, rfl, rfl, hR8, atI_nat (j := 0) rfl, rfl, _, rfl, ?_⟩
                    rw [show decide (V.str (S r.1) = V.str (Str.ofString "fraction")) = decide (r.1 = W "fraction") from eqW _ "fraction"]
                    refine iteF2 (by rw [decide_eq_true hF]; rfl) ?_
                    exact ⟨_, _, rfl, ST.trans S6, good_on hri hg (by rw [gp2]; exact decide_eq_true (by show (1 : Int) ≤ d; omega))⟩
                · rw [if_neg hF] at gp2
                  refine iteF2 (decide_eq_false hF) ?_
                  refine ⟨_, rfl, aR, _, 0, _, rfl, rfl, hR8, atI_nat (j := 0) rfl, rfl, _, rfl, ?_⟩
                  rw [show decide (V.str (S r.1) = V.str (Str.ofString "fraction")) = decide (r.1 = W "fraction") from eqW _ "fraction"]
                  refine iteT2 (by rw [decide_eq_false hF]; rfl) ?_
                  refine ⟨_, rfl, _, rfl, aR, _, rfl, hR8, not_whole _ _ _, fun p2 np2 => ?_⟩
                  rw [cut1]
                  refine ⟨p2, rfl, ⟨_, .inl (.inl upd_same)⟩, fun D2 nD2 => ?_⟩
                  generalize hH9 : upd H8 p2 (.tup (r.2.map cellV)) = H9 at nD2
                  have S9 : Same H8 H9 := by rw [← hH9]; exact same_upd np2
                  have hp9 : SqT K H9 p2 (r.2.map cellV) := by rw [← hH9]; exact .inl (.inl upd_same)
                  refine lc_it (walk_tup (K := K) (a := p2) (xs := r.2.map cellV)) (fun j H' => ∃ os : List (Option Int), H' D2 = some (.lst (os.map cellV)) ∧ os = (r.2.take j).filter (fun o => !ixB (o.getD 0) i) ∧ Same H9 H') ⟨[], upd_same, rfl, same_upd nD2⟩ (fun j H' _ ⟨_, _, _, sm⟩ => sqT_same hp9 sm) ?_ ?_
                  · rintro j x H6 H7 hj ⟨os, hD, hos, sm6⟩ ⟨rfl, hx⟩
                    obtain ⟨o, rfl, ho⟩ : ∃ o, x = cellV o ∧ r.2[j]? = some o := by
                      rw [List.getElem?_map] at hx
                      cases e : r.2[j]? with
                      | none => rw [e] at hx; cases hx
                      | some o => rw [e] at hx; exact ⟨o, (Option.some.inj hx).symm, rfl⟩
                    have hjl := (List.getElem?_eq_some_iff.mp ho).1
                    obtain ⟨m, rfl⟩ : ∃ m, o = some m := by
                      unfold allSome at hall
                      rw [List.all_eq_true] at hall
                      have := hall o (List.mem_of_getElem? ho)
                      cases o with
                      | none => cases this
                      | some m => exact ⟨m, rfl⟩
                    have drop : ixB m i = true → (r.2.take (j + 1)).filter (fun o => !ixB (o.getD 0) i) = os := fun e => by
                      rw [List.take_succ, ho, List.filter_append, ← hos]
                      show os ++ List.filter _ [some m] = os
                      rw [List.filter_cons_of_neg (by show ¬ (!ixB m i) = true; rw [e]; decide)]
                      exact List.append_nil _
                    have keep : ixB m i = false → (r.2.take (j + 1)).filter (fun o => !ixB (o.getD 0) i) = os ++ [some m] := fun e => by
                      rw [List.take_succ, ho, List.filter_append, ← hos]
                      show os ++ List.filter _ [some m] = _
                      rw [List.filter_cons_of_pos (by show (!ixB m i) = true; rw [e]; rfl)]
                      rfl
                    refine ⟨rfl, _, rfl, _, _, rfl, rfl, _, rfl, ?_⟩
                    by_cases h0 : m < 0
                    · refine iteT2 (decide_eq_true h0) (iteT2 rfl ⟨_, rfl, _, hD, ?_, os ++ [some m], by rw [upd_same, List.map_append]; rfl, ?_, same_put sm6 nD2⟩)
                      · rw [List.length_map, hos]
                        exact small1000 (Nat.le_trans (List.length_filter_le _ _) (by rw [List.length_take]; omega))
                      · rw [keep (by unfold ixB; rw [decide_eq_false (by omega : ¬ (0 : Int) ≤ m)]; rfl)]
                    · refine iteF2 (decide_eq_false h0) ?_
                      refine ⟨_, rfl, _, rfl, _, _, rfl, rfl, _, rfl, ?_⟩
                      by_cases h1 : (i : Int) ≤ m
                      · refine iteT2 (decide_eq_true h1) ⟨_, rfl, _, hD, ?_, os ++ [some m], by rw [upd_same, List.map_append]; rfl, ?_, same_put sm6 nD2⟩
                        · rw [List.length_map, hos]
                          exact small1000 (Nat.le_trans (List.length_filter_le _ _) (by rw [List.length_take]; omega))
                        · rw [keep (by unfold ixB; rw [decide_eq_false (by omega : ¬ m < (i : Int))]; simp)]
                      · refine iteF2 (decide_eq_false h1) ⟨os, hD, ?_, sm6⟩
                        rw [drop (by unfold ixB; rw [decide_eq_true (by omega : (0 : Int) ≤ m), decide_eq_true (by omega : m < (i : Int))]; rfl)]
                  · rintro H6 ⟨os, hD, hos, sm6⟩
                    rw [List.length_map, List.take_length] at hos
                    refine ⟨Nat.zero_le _, fun l2 nl2 => ?_⟩
                    have Sl2 : Same H6 (upd H6 l2 (.lst [])) := same_upd nl2
                    refine ⟨.list (os.map dCell), .list [], .lst (.inl (.inl (Sl2 _ _ hD))) (dp_cells os), dp_nil upd_same, shaped_cells os, shaped_nil, _, rfl, ?_⟩
                    rw [eqv_nil dCell os]
                    have S7 : Same Ht (upd H6 l2 (.lst [])) := S6.trans (S9.trans (sm6.trans Sl2))
                    have eix : ixAll r i = os.isEmpty := by
                      unfold ixAll
                      rw [hos, Bool.eq_iff_iff, List.all_eq_true, List.isEmpty_iff, List.filter_eq_nil_iff]
                      constructor
                      · intro z o ho
                        rw [z o ho]
                        decide
                      · intro z o ho
                        have := z o ho
                        cases e : ixB (o.getD 0) i with
                        | true => rfl
                        | false => rw [e] at this; exact absurd rfl this
                    rw [eix] at gp2
                    cases hos0 : os.isEmpty with
                    | false => exact iteT2 rfl (bad _ (by rw [gp2, hos0]) S7)
                    | true => exact iteF2 rfl ⟨_, _, rfl, ST.trans S7, good_on hri hg (by rw [gp2, hos0])⟩
          · refine iteT2 ?_ (bad _ ?_ St0)
            · simp
              omega
            · rw [gp, decide_eq_false (fun z => hk (Option.some.inj z))]
              rfl
      · rintro σ H2 ⟨a, b, rfl, sm, hg⟩
        refine q' true _ ?_ (S1.trans sm)
        rw [← hl, List.take_length] at hg
        unfold goodRows
        rw [hrs, hg]
        rfl
end
end R11

set_option Elab.async false
set_option linter.all false
set_option maxRecDepth 100000
set_option maxHeartbeats 2000000
/-! The law reads a word and a text. -/
namespace R12
open PySem PySem.Spec PyProof.Rows L2 Cau Dr65 R0 R3 R4 R5 R6 R7 R8 R9 R10 R11
abbrev sLWholeOf : Stmt := topS 39
theorem val_lt : ∀ (n : Nat) (d : CL), d.length = n → digs d = true → NumText.digitsVal d < 10 ^ n
  | 0, d, e, _ => by
    rw [List.length_eq_zero_iff.mp e]
    decide
  | n + 1, d, e, h => by
    have hne : d ≠ [] := fun z => by rw [z] at e; cases e
    have ed := (List.dropLast_concat_getLast hne).symm
    have hl : d.dropLast.length = n := by rw [List.length_dropLast, e]; rfl
    have hall : digs d.dropLast = true ∧ digs [d.getLast hne] = true := by
      rw [ed] at h
      unfold digs at h ⊢
      rw [List.all_append, Bool.and_eq_true] at h
      exact h
    have ih := val_lt n _ hl hall.1
    have hc : 48 ≤ d.getLast hne ∧ d.getLast hne ≤ 57 := by
      have := hall.2
      unfold digs at this
      simpa using this
    rw [ed, val_snoc, Nat.pow_succ]
    omega
theorem dval_small {d : CL} (hd : digs d = true) (hl : d.length ≤ 30) : (dval d).natAbs < 10 ^ 40 := by
  have h := val_lt _ d rfl hd
  show ((NumText.digitsVal d : Nat) : Int).natAbs < 10 ^ 40
  rw [Int.natAbs_natCast]
  exact Nat.lt_of_lt_of_le h (Nat.pow_le_pow_right (by decide) (by omega))
theorem int_word {l : CL} (hl : l.length ≤ 30) (hne : bareOf l ≠ []) (hd : digs (bareOf l) = true) : PySem.intText? (S l) = some (if bareOf l = l then dval (bareOf l) else -(dval (bareOf l))) := by
  by_cases h : l.take 1 = [45]
  · have eb : bareOf l = l.drop 1 := by unfold bareOf; rw [if_pos h]
    have el : l = 45 :: l.drop 1 := by
      have := (List.take_append_drop 1 l).symm
      rwa [h] at this
    have hn : bareOf l ≠ l := fun z => by
      rw [eb] at z
      have := congrArg List.length z
      rw [List.length_drop] at this
      have h1 : l.length ≠ 0 := fun z => by rw [List.length_eq_zero_iff.mp z] at h; cases h
      omega
    rw [if_neg hn]
    refine intText_neg (cs := bareOf l) ?_ (digs_iff.mp hd) hne (by rw [len_S]; omega)
    show l.toArray.toList = _
    rw [List.toList_toArray, eb]
    exact el
  · have eb : bareOf l = l := by unfold bareOf; rw [if_neg h]
    rw [eb, if_pos rfl]
    rw [eb] at hd hne
    exact int_S hd hne hl
/-- the signs that are no digits -/
def offs (l : CL) : CL := l.filter fun c => !(decide (48 ≤ c) && decide (c ≤ 57))
theorem offs_digs (l : CL) : (offs l).isEmpty = digs l := by
  unfold offs digs
  rw [Bool.eq_iff_iff, List.all_eq_true, List.isEmpty_iff, List.filter_eq_nil_iff]
  constructor
  · intro z c hc
    have := z c hc
    cases e : (decide (48 ≤ c) && decide (c ≤ 57)) with
    | true => rfl
    | false => rw [e] at this; exact absurd rfl this
  · intro z c hc
    rw [z c hc]
    decide
def sign1 (c : Nat) : Str := ⟨#[c]⟩
theorem signs_ok {cs : CL} (h : asc cs) : ∀ x ∈ cs.map sign1, PyData.strOk x = true := by
  intro x hx
  obtain ⟨c, hc, rfl⟩ := List.mem_map.mp hx
  have := h c hc
  unfold PyData.strOk sign1
  simp
  omega
def spLWO : Sp := fun vs H Q _ => ∃ l : CL, vs = [.str (S l)] ∧ l.length ≤ 30 ∧ asc l ∧ ∀ H', Same H H' → Q (cellV (wholeOf l)) H'
section
variable {P : Program} {w : World} {K : PySem.W.Frag} {mg : Str → Option Value} {base : Heap}
def woN : List Str := ["word", "digits", "sign"]
theorem scLO : FnScope woN ["word"] (defScope sLWholeOf) := ⟨rfl, rfl, rfl, by decide +kernel, rfl, by decide +kernel, by decide +kernel⟩
theorem ok_lwholeOf {f : Addr} {fd : FuncData} (F : Fun K "_law_whole_of" "_law_whole_of" sLWholeOf f fd) (ms : mg "str" = none) (mi : mg "int" = none) : FnOk P w K mg base CX0 1 f fd ["word"] spLWO := by
  refine F.ok scLO (fun vs H Q E h => ?_) (fun cdv A outer s H vs Q E hr h => ?_)
  · obtain ⟨x, rfl, _⟩ := h
    rfl
  · obtain ⟨l, rfl, hl, hasc, q⟩ := h
    have hS := line_ok hl
    refine ⟨_, pss_cons (ps_set (i := 1) scLO.nd rfl (.inl rfl) (pe_weak (t' := fun σ H Q => ∃ l : CL, σ[0]? = some (some (.str (S l))) ∧ l.length ≤ 30 ∧ Q (.str (S (bareOf l))) H)
        (pe_ifExp (pt_cmpR op_eq (pe_slice C8.sl_txt (pv 0) po_none (po_some pe_int)) pe_str (nomark _)) (pe_slice C8.sl_txt (pv 0) (po_some pe_int) po_none) (pv 0)) ?bare))
      (pss_cons (ps_if (PW.pt (pw_or (pt_cmpR op_eq (pv 1) pe_str (nomark _)) (pw_or1 (pt_cmpR (op_neD hr.units)
          (pe_lc (own := [("sign", 2)]) (g := gName 2) rfl scLO.nd (pi_str (pv 1))
            (blkOk_by (own := [("sign", 2)]) (N := woN) (sc := defScope sLWholeOf) (by decide +kernel))
            (fun _ _ _ _ _ => pg_name (i := 2) scLO.nd rfl (.inl rfl)) (fun _ _ _ _ _ => pts_one (pt_cmpR op_notIn_sign (pv 2) pe_str (by rfl)))
            (fun _ _ _ _ _ => pv 2)) (pe_lst pa_nil) (nomark _))))) (pss_one (ps_ret pe_non)) pss_nil)
      (pss_one (ps_ret (pe_ifExp (pt_cmpR op_eq (pe_callTy call_str_int (by rfl) ms (by decide +kernel) (pa_cons (pe_callTy call_int_str (by rfl) mi (by decide +kernel) (pa_cons (pv 0) pa_nil)) pa_nil)) (pv 0) (nomark _))
        (pe_callTy call_int_str (by rfl) mi (by decide +kernel) (pa_cons (pv 0) pa_nil)) pe_non)))), ?main⟩
    case bare =>
      rintro σ H Q ⟨l, hσ, hl, q⟩
      have hS := line_ok hl
      have esl : Txt.slice (S l) none (some 1) = S (l.take 1) := SX.slice_to (a := l) (i := 1) (by decide)
      have esd : Txt.slice (S l) (some 1) none = S (l.drop 1) := SX.slice_from (a := l) (i := 1) (by decide)
      refine ⟨_, hσ, _, rfl, _, rfl, hS, ?_⟩
      rw [esl]
      refine ⟨rfl, _, rfl, ?_⟩
      rw [show decide (V.str (S (l.take 1)) = V.str ("-" : Str)) = decide (l.take 1 = W "-") from eqW _ "-"]
      have e45 : W "-" = [45] := by decide +kernel
      rw [e45]
      unfold bareOf at q
      by_cases h : l.take 1 = [45]
      · rw [if_pos h] at q
        refine iteT2 (decide_eq_true h) ⟨_, hσ, _, rfl, _, rfl, hS, ?_⟩
        rw [esd]
        exact q
      · rw [if_neg h] at q
        exact iteF2 (decide_eq_false h) ⟨_, hσ, q⟩
    case main =>
      have dl : (bareOf l).length ≤ 30 := by
        unfold bareOf
        split
        · rw [List.length_drop]; omega
        · exact hl
      have wo : wholeOf l = if bareOf l = [] ∨ digs (bareOf l) = false then none else if (bareOf l).head? = some 48 then (if l = [48] then some 0 else none) else if bareOf l = l then some (dval (bareOf l)) else some (-(dval (bareOf l))) := rfl
      have q' : ∀ o H', wholeOf l = o → Same H H' → Q (cellV o) H' := fun o H' e sm => by
        subst e
        exact q H' sm
      refine ⟨l, rfl, hl, ?_⟩
      refine ⟨_, rfl, rfl, _, rfl, ?_⟩
      rw [show decide (V.str (S (bareOf l)) = V.str ("" : Str)) = decide (bareOf l = W "") from eqW _ "", show W "" = [] from rfl]
      by_cases hne : bareOf l = []
      · exact iteT2 (decide_eq_true hne) (q' none _ (by rw [wo, if_pos (.inl hne)]) same_rfl)
      · refine iteF2 (decide_eq_false hne) ?_
        refine ⟨_, rfl, S (bareOf l), rfl, fun D nD => ?_⟩
        have len0 : (S (bareOf l)).cps.size = (bareOf l).length := len_S _
        refine lc_it walk_str (fun i H1 => ∃ cs : CL, H1 = upd H D (.lst ((cs.map sign1).map V.str)) ∧ cs = offs ((bareOf l).take i)) ⟨[], rfl, rfl⟩ (fun _ _ _ _ => trivial) ?_ ?_
        · rintro i x H1 H2 hi ⟨cs, rfl, hcs⟩ ⟨rfl, c1, hc1, rfl⟩
          have hc : (bareOf l)[i]? = some c1 := by simpa using hc1
          have mem : decide (c1 ∈ (Str.ofString "0123456789").cps.toList) = (decide (48 ≤ c1) && decide (c1 ≤ 57)) := digit_mem c1
          refine ⟨rfl, _, rfl, c1, _, rfl, rfl, _, rfl, ?_⟩
          rw [mem]
          have step : offs ((bareOf l).take (i + 1)) = cs ++ offs [c1] := by
            rw [List.take_succ, hc, hcs]
            unfold offs
            rw [List.filter_append]
            rfl
          cases hd1 : (decide (48 ≤ c1) && decide (c1 ≤ 57)) with
          | true =>
            refine iteF2 rfl ⟨cs, rfl, ?_⟩
            rw [step]
            unfold offs
            rw [List.filter_cons_of_neg (by rw [hd1]; decide)]
            exact (List.append_nil _).symm
          | false =>
            refine iteT2 rfl ⟨_, rfl, _, upd_same, ?_, cs ++ [c1], ?_, ?_⟩
            · rw [List.length_map, List.length_map, hcs]
              unfold offs
              exact small1000 (Nat.le_trans (List.length_filter_le _ _) (by rw [List.length_take]; omega))
            · rw [upd_upd, List.map_append, List.map_append]
              rfl
            · rw [step]
              unfold offs
              rw [List.filter_cons_of_pos (by rw [hd1]; rfl)]
              rfl
        · rintro H1 ⟨cs, rfl, hcs⟩
          rw [len0, List.take_length] at hcs
          have sm : Same H (upd H D (.lst ((cs.map sign1).map V.str))) := same_upd nD
          have hasc2 : asc cs := fun c hc => by
            rw [hcs] at hc
            unfold offs at hc
            have h1 := (List.mem_filter.mp hc).1
            unfold bareOf at h1
            split at h1
            · exact hasc c (List.mem_of_mem_drop h1)
            · exact hasc c h1
          refine ⟨Nat.zero_le _, fun l1 nl1 => ?_⟩
          have sm2 := same_put sm (same_none sm nl1) (o := .lst [])
          have nlD : D ≠ l1 := fun z => by rw [← z, upd_same] at nl1; cases nl1
          refine ⟨_, _, dp_strs (xs := cs.map sign1) (.inl (.inl ((upd_ne nlD).trans upd_same))), dp_nil upd_same, shaped_strs (signs_ok hasc2), shaped_nil, _, rfl, ?_⟩
          rw [eqv_nil, show (cs.map sign1).isEmpty = digs (bareOf l) from by rw [← offs_digs, ← hcs]; cases cs <;> rfl]
          cases hd : digs (bareOf l) with
          | false => exact iteT2 rfl (q' none _ (by rw [wo, if_pos (.inr hd)]) sm2)
          | true =>
            refine iteF2 rfl ?_
            have hi := int_word hl hne hd
            have hsm : (if bareOf l = l then dval (bareOf l) else -(dval (bareOf l))).natAbs < 10 ^ 40 := by
              have := dval_small hd dl
              split
              · exact this
              · rw [Int.natAbs_neg]; exact this
            refine ⟨_, rfl, _, _, rfl, hi, by rw [len_S]; omega, _, rfl, log_small hsm, ?_⟩
            refine ⟨_, rfl, rfl, _, rfl, ?_⟩
            have eb := str_back hne hd
            have ed : decide (V.str (Str.ofString (toString (if bareOf l = l then dval (bareOf l) else -(dval (bareOf l))))) = V.str (S l)) = decide (intL (if bareOf l = l then dval (bareOf l) else -(dval (bareOf l))) = l) := by
              rw [str_S, Bool.eq_iff_iff, decide_eq_true_iff, decide_eq_true_iff]
              exact ⟨fun h => S_eq.mp (V.str.inj h), fun h => by rw [h]⟩
            rw [ed]
            by_cases hb : intL (if bareOf l = l then dval (bareOf l) else -(dval (bareOf l))) = l
            · exact iteT2 (decide_eq_true hb) ⟨_, rfl, _, _, rfl, hi, by rw [len_S]; omega, q' (some _) _ (eb.mp hb) sm2⟩
            · refine iteF2 (decide_eq_false hb) (q' none _ ?_ sm2)
              rcases whole_cases hne hd with z | z
              · exact z
              · exact absurd (eb.mpr z) hb
end
end R12

set_option Elab.async false
set_option linter.all false
set_option maxRecDepth 100000
set_option maxHeartbeats 2000000
/-! The law reads a text. -/
namespace R13
open PySem PySem.Spec PyProof.Rows L2 Cau Dr65 R0 R3 R4 R5 R6 R7 R8 R9 R10 R11 R12
theorem spl_mem (s : Nat) : ∀ (l acc : CL), ∀ p ∈ TL.spl [s] 0 acc l, ∀ c ∈ p, c ∈ acc ∨ c ∈ l
  | [], acc, p, hp, c, hc => by
    have : p = acc := by
      have h : TL.spl [s] 0 acc [] = [acc] := rfl
      rw [h] at hp
      exact List.mem_singleton.mp hp
    rw [this] at hc
    exact .inl hc
  | a :: r, acc, p, hp, c, hc => by
    have h : TL.spl [s] 0 acc (a :: r) = if a = s then acc :: TL.spl [s] 0 [] r else TL.spl [s] 0 (acc ++ [a]) r := by
      by_cases e : a = s
      · rw [if_pos e]
        show (if TL.pre [s] (a :: r) = true then _ else _) = _
        rw [pre_one, if_pos (decide_eq_true e)]
        rfl
      · rw [if_neg e]
        show (if TL.pre [s] (a :: r) = true then _ else _) = _
        rw [pre_one, if_neg (by rw [decide_eq_false e]; decide)]
    rw [h] at hp
    split at hp
    · rcases List.mem_cons.mp hp with e | e
      · rw [e] at hc
        exact .inl hc
      · rcases spl_mem s r [] p e c hc with z | z
        · cases z
        · exact .inr (List.mem_cons_of_mem _ z)
    · rcases spl_mem s r (acc ++ [a]) p hp c hc with z | z
      · rcases List.mem_append.mp z with z | z
        · exact .inl z
        · exact .inr (by rw [List.mem_singleton.mp z]; exact List.mem_cons_self)
      · exact .inr (List.mem_cons_of_mem _ z)
theorem asc_part {s : Nat} {l p : CL} (h : asc l) (hp : p ∈ TL.spl [s] 0 [] l) : asc p := fun c hc => by
  rcases spl_mem s l [] p hp c hc with z | z
  · cases z
  · exact h c z
theorem few_line {l : CL} (h : asc l) (hf : fine l) : fewCells (lineOf l) := by
  have hl := spl_len [32] l 0 []
  have h9 := hf.1
  refine ⟨?_, ?_⟩
  · unfold lineOf
    cases e : TL.spl [32] 0 [] l with
    | nil => intro c hc; cases hc
    | cons a b => exact asc_part h (by rw [e]; exact List.mem_cons_self)
  · unfold lineOf
    show ((TL.spl [32] 0 [] l).tail.map wholeOf).length ≤ 900
    rw [List.length_map, List.length_tail]
    omega
theorem good_snoc {rs : List Rw} {r : Rw} (h : goodFrom rs 0 = true) : goodRows (rs ++ [r]) = goodRow r rs.length := by
  unfold goodRows
  rw [goodFrom_app, h, Nat.zero_add]
  have e : (rs ++ [r]).isEmpty = false := by cases rs <;> rfl
  rw [e]
  show (true && (true && (goodRow r rs.length && true))) = _
  simp
abbrev sFirst : Stmt := topS 40
def atV : Option Nat → V
  | none => .non
  | some n => .int (n : Nat)
def spFirst (K : PySem.W.Frag) : Sp := fun vs H Q _ => ∃ l : CL, vs = [.str (S l)] ∧ fineText l ∧ asc l ∧ ∀ H' t p, Same H H' → H t = none → H p = none → H' t = some (.tup [.ref p, atV (readText l).2]) → RowsL K H' p (readText l).1 → Q (.ref t) H'
def tRow (K : PySem.W.Frag) : TE := fun σ H Q => ∃ (x1 x2 x3 x4 x5 : Option V) (pw : Addr) (u : CL), σ = [x1, x2, x3, x4, some (.ref pw), x5, none] ∧ H pw = some (.lst (((TL.spl [32] 0 [] u).map S).map V.str)) ∧ fine u ∧ asc u ∧ ∀ H' y, Same H H' → H y = none → SqT K H' y (itemsV (lineOf u)) → Q (.ref y) H'
section
variable {P : Program} {w : World} {K : PySem.W.Frag} {mg : Str → Option Value} {base : Heap}
def fbN : List Str := ["text", "found", "at", "line", "words", "row", "word"]
theorem scFB : FnScope fbN ["text"] (defScope sFirst) := ⟨rfl, rfl, rfl, by decide +kernel, rfl, by decide +kernel, by decide +kernel⟩
theorem ok_first {f fR fW : Addr} {fd fdR fdW : FuncData} (F : Fun K "_law_first_bad_line" "_law_first_bad_line" sFirst f fd)
    (FR : Fun K "_law_is_rows" "_law_is_rows" sLRows fR fdR) (GR : FnOk P w K mg base CX0 2 fR fdR ["value"] (spLRows K)) (bR : Binds K fdR ["value"] []) (gR : mg "_law_is_rows" = some (.ref fR))
    (FW : Fun K "_law_whole_of" "_law_whole_of" sLWholeOf fW fdW) (GW : FnOk P w K mg base CX0 1 fW fdW ["word"] spLWO) (bW : Binds K fdW ["word"] []) (gW : mg "_law_whole_of" = some (.ref fW))
    (mt : mg "tuple" = none) (me : mg "enumerate" = none) : FnOk P w K mg base CX0 3 f fd ["text"] (spFirst K) := by
  refine F.ok scFB (fun vs H Q E h => ?_) (fun cdv A outer s H vs Q E hr h => ?_)
  · obtain ⟨l, rfl, _⟩ := h
    rfl
  · have hr1 : Room 1 _ := hr.mono (by decide)
    refine ⟨_, pss_cons (ps_set (i := 1) scFB.nd rfl (.inl rfl) (pe_lst pa_nil))
      (pss_cons (ps_for PassesOwn.never rfl (pi_enum (by rfl) me (pa_cons (pe_split (pv 0) pe_str) pa_nil))
          (pg_tup (by rfl) (pgs_cons (pg_name (i := 2) scFB.nd rfl (.inl rfl)) (pgs_cons (pg_name (i := 3) scFB.nd rfl (.inl rfl)) pgs_nil)))
        (pss_cons (ps_set (i := 4) scFB.nd rfl (.inl rfl) (pe_split (pv 3) pe_str))
        (pss_cons (ps_set (i := 5) scFB.nd rfl (.inl rfl) (pe_weak (t' := tRow K) (pe_op op_catT (pe_tup (pa_cons (pe_ix ix_list (pv 4) pe_int (fun _ _ => rfl)) pa_nil))
          (pe_callTy call_tuple_of (by rfl) mt (by decide +kernel) (pa_cons
            (pe_lc (own := [("word", 6)]) (g := gName 6) (tt := tYes) rfl scFB.nd (pi_list (pe_slice sl_list (pv 4) (po_some pe_int) po_none))
              (blkOk_by (own := [("word", 6)]) (N := fbN) (sc := defScope sFirst) (by decide +kernel))
              (fun _ _ _ _ _ => pg_name (i := 6) scFB.nd rfl (.inl rfl)) (fun _ _ _ _ _ => pts_nil)
              (fun _ _ _ _ _ => pe_call GW hr1 (by rfl) gW FW.kp bW .nil pass0 (pa_cons (pv 6) pa_nil))) pa_nil))) ?row))
        (pss_cons (ps_if (pt_not (pt_val (pe_call GR hr (by rfl) gR FR.kp bR .nil pass0 (pa_cons (pe_op op_cat (pv 1) (pe_lst (pa_cons (pv 5) pa_nil))) pa_nil))))
          (pss_one (ps_ret (pe_tup (pa_cons (pv 1) (pa_cons (pv 2) pa_nil))))) pss_nil)
        (pss_one (ps_expr (pe_bm PySem.F.plainAttrs_list PySem.F.slot_list_append PySem.F.type_list_append mt_append (pv 1) (pa_cons (pv 5) pa_nil))))))))
      (pss_one (ps_ret (pe_tup (pa_cons (pv 1) (pa_cons pe_non pa_nil)))))), ?main⟩
    case row =>
      rintro σ H2 Q ⟨x1, x2, x3, x4, x5, pw, u, rfl, hpw, hfu, hau, q⟩
      obtain ⟨hu9, huw⟩ := hfu
      obtain ⟨w0, ws, ews⟩ : ∃ w0 ws, TL.spl [32] 0 [] u = w0 :: ws := by
        cases e : TL.spl [32] 0 [] u with
        | nil => exact absurd e (spl_ne _ _ _ _)
        | cons a b => exact ⟨a, b, rfl⟩
      have hlen := spl_len [32] u 0 []
      have hwa : ∀ z ∈ w0 :: ws, asc z := fun z hz => asc_part hau (by rw [ews]; exact hz)
      rw [ews] at huw hlen hpw
      rw [List.length_cons] at hlen
      have hpw : H2 pw = some (.lst (V.str (S w0) :: (ws.map S).map V.str)) := hpw
      have eit : itemsV (lineOf u) = V.str (S w0) :: (ws.map fun x => cellV (wholeOf x)) := by
        unfold itemsV lineOf
        rw [ews]
        show V.str (S w0) :: (ws.map wholeOf).map cellV = _
        rw [List.map_map]
        rfl
      refine ⟨_, rfl, pw, _, 0, _, rfl, rfl, .inl (.inl hpw), atI_nat (j := 0) rfl, by show 1 ≤ sizeLine; decide, fun t1 nt1 => ?_⟩
      generalize hH5 : upd H2 t1 (.tup [V.str (S w0)]) = H5
      have S5 : Same H2 H5 := by rw [← hH5]; exact same_upd nt1
      have ht1 : H5 t1 = some (.tup [V.str (S w0)]) := by rw [← hH5]; exact upd_same
      refine ⟨_, rfl, _, rfl, pw, _, rfl, .inl (.inl (S5 _ _ hpw)), fun p2 np2 => ?_⟩
      rw [cut1]
      generalize hH6 : upd H5 p2 (.lst ((ws.map S).map V.str)) = H6
      have S6 : Same H5 H6 := by rw [← hH6]; exact same_upd np2
      have hp2 : H6 p2 = some (.lst ((ws.map S).map V.str)) := by rw [← hH6]; exact upd_same
      refine ⟨p2, rfl, ⟨_, .inl (.inl hp2)⟩, fun D nD => ?_⟩
      refine lc_list (K := K) (a := p2) (xs := (ws.map S).map V.str) (fun i H' => ∃ vs : List V, H' D = some (.lst vs) ∧ vs = (ws.take i).map (fun x => cellV (wholeOf x)) ∧ Same H6 H') ⟨[], upd_same, rfl, same_upd nD⟩ (fun i H' _ ⟨_, _, _, sm⟩ => sm.seq (.inl (.inl hp2))) ?_ ?_
      · rintro j x H7 hx ⟨vs, hD, hvs, sm7⟩
        obtain ⟨z, rfl, hz⟩ : ∃ z, x = V.str (S z) ∧ ws[j]? = some z := by
          rw [List.map_map, List.getElem?_map] at hx
          cases e : ws[j]? with
          | none => rw [e] at hx; cases hx
          | some z => rw [e] at hx; exact ⟨z, (Option.some.inj hx).symm, rfl⟩
        have hj := (List.getElem?_eq_some_iff.mp hz).1
        have hzm := List.mem_cons_of_mem w0 (List.mem_of_getElem? hz)
        refine ⟨rfl, _, rfl, z, rfl, huw z hzm, hwa z hzm, fun H8 sm8 => ⟨_, sm8 _ _ hD, ?_, vs ++ [cellV (wholeOf z)], upd_same, ?_, same_put (sm7.trans sm8) nD⟩⟩
        · rw [hvs, List.length_map, List.length_take]
          exact small1000 (by omega)
        · rw [List.take_succ, hz, hvs, List.map_append]
          rfl
      · rintro H7 ⟨vs, hD, hvs, sm7⟩
        rw [List.length_map, List.length_map, List.take_length] at hvs
        refine ⟨D, vs, rfl, .inl ⟨.inl (.inl hD), fun t2 nt2 => ?_⟩⟩
        have S8 : Same H7 (upd H7 t2 (.tup vs)) := same_upd nt2
        have ht1' : H7 t1 = some (.tup [V.str (S w0)]) := sm7 _ _ (S6 _ _ ht1)
        have S9 : Same H2 H7 := S5.trans (S6.trans sm7)
        have eV : V.str (S w0) :: vs = itemsV (lineOf u) := by rw [eit, hvs]
        refine ⟨t1, t2, _, _, rfl, rfl, .inl (.inl (S8 _ _ ht1')), .inl (.inl upd_same), List.cons_ne_nil _ _, ?_, ?_, ?_⟩
        · rw [hvs, List.length_map]
          exact Nat.le_of_lt (small1000 (by show 1 + ws.length ≤ 1000; omega))
        · intro e
          refine q _ t1 (S9.trans S8) nt1 (.inl (.inl ((S8 _ _ ht1').trans ?_)))
          rw [← eV, e]
        · intro _ p4 np4
          refine q _ p4 (S9.trans (S8.trans (same_upd np4))) (same_none (S9.trans S8) np4) (.inl (.inl ?_))
          rw [upd_same, ← eV]
          rfl
    case main =>
    obtain ⟨l, rfl, hf, hasc, q⟩ := h
    refine ⟨Nat.zero_le _, fun p np => ?_⟩
    refine ⟨_, rfl, ⟨_, rfl⟩, _, _, rfl, rfl, by decide, by rw [len_S, sizeLine_eq]; have := hf.1; omega, fun pl npl => ?_⟩
    rw [show ("\n" : Str) = S [10] from by decide +kernel, split_S l (by decide)] at *
    have hfl := fine_line hf
    have hal : ∀ x ∈ TL.spl [10] 0 [] l, asc x := fun x hx => asc_part hasc hx
    have hll := spl_len [10] l 0 []
    have hl9 := hf.1
    generalize els : TL.spl [10] 0 [] l = ls at hfl hll hal
    have er : readText l = readFrom ls 0 := by unfold readText; rw [els]
    rw [er] at q
    have npl0 : H pl = none := same_none (same_upd np) npl
    have ne : p ≠ pl := fun z => by rw [← z, upd_same] at npl; cases npl
    generalize hH1 : upd (upd H p (.lst [])) pl (.lst ((ls.map S).map V.str)) = H1
    have S1 : Same H H1 := by rw [← hH1]; exact same_put (same_upd np) npl0
    have hp1 : H1 p = some (.lst []) := by rw [← hH1, upd_ne ne]; exact upd_same
    have hl1 : H1 pl = some (.lst ((ls.map S).map V.str)) := by rw [← hH1]; exact upd_same
    refine ⟨pl, (ls.map S).map V.str, rfl, .inl (.inl hl1), ?_⟩
    refine for_it (walk_enum (K := K) (a := pl) (xs := (ls.map S).map V.str)) (fun i σ H' => ∃ (a b c d : Option V) (xs : List V), σ = [some (.str (S l)), some (.ref p), a, b, c, d, none] ∧ Same H H' ∧ H' p = some (.lst xs) ∧ H' pl = some (.lst ((ls.map S).map V.str)) ∧ aheadGood ls i ∧ xs.length = i ∧ ∀ (j : Nat) v r, xs[j]? = some v → (ls.map lineOf)[j]? = some r → RowV K H' v r)
      ⟨none, none, none, none, [], rfl, S1, hp1, hl1, rfl, rfl, fun j v r e => by cases e⟩ (fun i σ H' _ ⟨_, _, _, _, _, _, _, _, hl, _⟩ => .inl (.inl hl)) ?_ ?_
    · rintro i x σ H2 H3 hi ⟨a, b, c, d, xs, rfl, sm, hp, hl, hg, hxl, hrow⟩ ⟨T, n, v, rfl, nT, rfl, en, ev⟩
      cases en
      have ev : ((ls.map S).map V.str)[i]? = some v := ev
      obtain ⟨u, rfl, hu⟩ : ∃ u, v = V.str (S u) ∧ ls[i]? = some u := by
        rw [List.map_map, List.getElem?_map] at ev
        cases e : ls[i]? with
        | none => rw [e] at ev; cases ev
        | some u => rw [e] at ev; exact ⟨u, (Option.some.inj ev).symm, rfl⟩
      have hil := (List.getElem?_eq_some_iff.mp hu).1
      have hum := List.mem_of_getElem? hu
      refine ⟨T, _, rfl, .inl (.inl upd_same), rfl, _, _, rfl, _, _, rfl, rfl, ?_⟩
      have ST : Same H2 (upd H2 T (.tup [.int (i : Nat), .str (S u)])) := same_upd nT
      generalize upd H2 T (.tup [.int (i : Nat), .str (S u)]) = Ht at ST
      obtain ⟨hu9, huw⟩ := hfl u hum
      refine ⟨_, rfl, ⟨_, rfl⟩, _, _, rfl, rfl, by decide, by rw [len_S, sizeLine_eq]; omega, ?_⟩
      rw [show (" " : Str) = S [32] from by decide +kernel, split_S u (by decide)]
      intro pw npw
      generalize hH4 : upd Ht pw (.lst (((TL.spl [32] 0 [] u).map S).map V.str)) = H4
      have hpw : H4 pw = some (.lst (((TL.spl [32] 0 [] u).map S).map V.str)) := by rw [← hH4]; exact upd_same
      have S4 : Same H2 H4 := by rw [← hH4]; exact same_put ST (same_none ST npw)
      refine ⟨_, _, _, _, _, pw, u, rfl, hpw, hfl u hum, hal u hum, fun H5 y S5 ny hy => ?_⟩
      have S6 : Same H2 H5 := S4.trans S5
      have hp5 := S6 _ _ hp
      refine ⟨_, rfl, _, rfl, by show 1 ≤ sizeLine; decide, fun l1 nl1 => ?_⟩
      have ne1 : p ≠ l1 := fun z => by rw [← z, hp5] at nl1; cases nl1
      refine ⟨p, l1, xs, [.ref y], rfl, rfl, (upd_ne ne1).trans hp5, upd_same, Nat.le_of_lt (small1000 (by show xs.length + 1 ≤ 1000; omega)), fun l2 nl2 => ?_⟩
      have S7 : Same H5 (upd (upd H5 l1 (.lst [.ref y])) l2 (.lst (xs ++ [.ref y]))) := same_put (same_upd nl1) (same_none (same_upd nl1) nl2)
      have hl2 : (upd (upd H5 l1 (.lst [.ref y])) l2 (.lst (xs ++ [.ref y]))) l2 = some (.lst (xs ++ [.ref y])) := upd_same
      generalize upd (upd H5 l1 (.lst [.ref y])) l2 (.lst (xs ++ [.ref y])) = H6 at S7 hl2
      have S8 : Same H2 H6 := S6.trans S7
      have hrs : RowsL K H6 l2 ((ls.take (i + 1)).map lineOf) := by
        refine ⟨_, hl2, by rw [List.length_map, List.length_take, List.length_append, hxl]; show min (i + 1) ls.length = i + 1; omega, fun j v r e1 e2 => ?_⟩
        by_cases hj : j < i
        · rw [List.getElem?_append_left (by omega)] at e1
          rw [List.getElem?_map, List.getElem?_take_of_lt (by omega), ← List.getElem?_map] at e2
          exact rowV_tk (hrow j v r e1 e2) (TK.of S8)
        · rw [List.getElem?_append_right (by omega)] at e1
          have hj0 : j - xs.length = 0 := by
            have := (List.getElem?_eq_some_iff.mp e1).1
            rw [List.length_singleton] at this
            omega
          rw [hj0] at e1
          cases (show V.ref y = v from Option.some.inj e1)
          have hji : j = i := by omega
          rw [hji, List.getElem?_map, List.getElem?_take_of_lt (by omega), hu] at e2
          cases e2
          exact ⟨y, rfl, sqT_same hy S7⟩
      have hgs : goodRows ((ls.take (i + 1)).map lineOf) = goodRow (lineOf u) i := by
        have e : (ls.take (i + 1)).map lineOf = (ls.take i).map lineOf ++ [lineOf u] := by
          rw [List.take_succ, hu, List.map_append]
          rfl
        rw [e, good_snoc hg, List.length_map, List.length_take, Nat.min_eq_left (by omega)]
      refine ⟨l2, _, rfl, hrs, ?_, fun r hr2 => ?_, fun H7 S9 => ⟨_, rfl, ?_⟩⟩
      · rw [List.length_map, List.length_take]
        omega
      · obtain ⟨x, hx, rfl⟩ := List.mem_map.mp hr2
        have hxm := List.mem_of_mem_take hx
        exact few_line (hal x hxm) (hfl x hxm)
      rw [hgs]
      have S10 : Same H2 H7 := S8.trans S9
      have hp7 := S10 _ _ hp
      cases hgr : goodRow (lineOf u) i with
      | false =>
        refine iteT ?_
        refine ⟨_, rfl, _, rfl, by show 2 ≤ sizeLine; decide, fun t nt => ?_⟩
        have rb := read_bad ls 0 i u hu hg (by rw [Nat.zero_add]; exact hgr)
        rw [rb] at q
        refine q _ t p ((sm.trans S10).trans (same_upd nt)) (same_none (sm.trans S10) nt) np ?_ ⟨xs, (same_upd nt) _ _ hp7, ?_, fun j v r e1 e2 => ?_⟩
        · rw [upd_same, Nat.zero_add]
          rfl
        · rw [List.length_map, List.length_take, hxl]; omega
        · have hj := (List.getElem?_eq_some_iff.mp e1).1
          rw [List.getElem?_map, List.getElem?_take_of_lt (by omega), ← List.getElem?_map] at e2
          exact rowV_tk (hrow j v r e1 e2) (TK.of (S10.trans (same_upd nt)))
      | true =>
        refine iteF ?_
        refine ⟨_, rfl, .inl ⟨rfl, _, .inl (.inl hp7)⟩, _, rfl, p, xs, _, rfl, rfl, hp7, small1000 (by omega), ?_⟩
        refine ⟨_, _, _, _, xs ++ [.ref y], rfl, fun b o hb => ?_, upd_same, ?_, ahead_next hg hu hgr, by rw [List.length_append, hxl]; rfl, ?_⟩
        · rw [upd_ne (ne_of_none hb np)]
          exact S10 _ _ (sm _ _ hb)
        · rw [upd_ne ne.symm]
          exact S10 _ _ hl
        · intro j v2 r e1 e2
          have tk : TK K H2 (upd H7 p (.lst (xs ++ [.ref y]))) := (TK.of S10).trans (TK.put hp7)
          by_cases hj : j < i
          · rw [List.getElem?_append_left (by omega)] at e1
            exact rowV_tk (hrow j v2 r e1 e2) tk
          · rw [List.getElem?_append_right (by omega)] at e1
            have hj0 : j - xs.length = 0 := by
              have := (List.getElem?_eq_some_iff.mp e1).1
              rw [List.length_singleton] at this
              omega
            rw [hj0] at e1
            cases (show V.ref y = v2 from Option.some.inj e1)
            have hji : j = i := by omega
            rw [hji, List.getElem?_map, hu] at e2
            cases e2
            exact ⟨y, rfl, TK.put hp7 _ _ (sqT_same hy (S7.trans S9))⟩
    · rintro σ H2 ⟨a, b, c, d, xs, rfl, sm, hp, hl, hg, hxl, hrow⟩
      rw [List.length_map, List.length_map] at hxl hg
      have ra := read_all ls 0 (by unfold aheadGood at hg; rwa [List.take_length] at hg)
      rw [ra] at q
      refine ⟨_, rfl, by show 2 ≤ sizeLine; decide, fun t nt => ?_⟩
      exact q _ t p (sm.trans (same_upd nt)) (same_none sm nt) np upd_same ⟨xs, (same_upd nt) _ _ hp, by rw [List.length_map]; exact hxl.symm, fun j v r e1 e2 => rowV_tk (hrow j v r e1 e2) (TK.of (same_upd nt))⟩
end
end R13

set_option Elab.async false
set_option linter.all false
set_option maxRecDepth 100000
set_option maxHeartbeats 2000000
/-! What the law draws: a choice, rows. -/
namespace R14
open PySem PySem.Spec PyProof.Rows L2 Cau Dr65 R0 R3 R4 R5 R6 R7 R8 R9 R10 R11 R12 R13
abbrev sDrawnRows : Stmt := topS 37
def spPick (K : PySem.W.Frag) : Sp := fun vs H Q _ => ∃ (a w c p : Addr) (T : Nat) (xs : List V), vs = [.ref a, .ref p] ∧ St H a w c T ∧ T ≤ 1000000 ∧ SqL K H p xs ∧ p ≠ a ∧ p ≠ w ∧ 0 < xs.length ∧ xs.length ≤ 1000 ∧
  ∀ (H' : Hp) (x : V), x ∈ xs → Kept a w H H' → St H' a w c (T + 1) → Q x H'
section
variable {P : Program} {w : World} {K : PySem.W.Frag} {mg : Str → Option Value} {base : Heap}
theorem scP : FnScope ["state", "some"] ["state", "some"] (defScope sPick) := ⟨rfl, rfl, rfl, by decide +kernel, rfl, by decide +kernel, by decide +kernel⟩
theorem ok_pick {f fD : Addr} {fd fdD : FuncData} (F : Fun K "_law_pick" "_law_pick" sPick f fd) (FD : Fun K "_law_draw" "_law_draw" sDraw fD fdD) (GD : FnOk P w K mg base CX0 2 fD fdD ["state", "size"] spDraw) (bD : Binds K fdD ["state", "size"] []) (gD : mg "_law_draw" = some (.ref fD)) (mlen : mg "len" = none) :
    FnOk P w K mg base CX0 3 f fd ["state", "some"] (spPick K) := by
  refine F.ok scP (fun vs H Q E h => ?_) (fun cdv A outer s H vs Q E hr h => ?_)
  · obtain ⟨a, w, c, p, T, xs, rfl, _⟩ := h
    rfl
  · obtain ⟨a, w, c, p, T, xs, rfl, hSt, hT, hS, npa, npw, hl0, hl1, q⟩ := h
    refine ⟨_, pss_one (ps_ret (pe_ix ix_list (pv 1) (pe_call GD hr (by rfl) gD FD.kp bD .nil pass0 (pa_cons (pv 0) (pa_cons (pe_callB call_len_seq (by rfl) mlen PySem.boot_len (pa_cons (pv 1) pa_nil)) pa_nil))) (fun _ _ => rfl))), ?_⟩
    refine ⟨_, rfl, _, rfl, _, rfl, p, xs, rfl, .inl hS, a, w, c, T, _, rfl, hSt, hT, by omega, pow1000 hl1, fun H' d h0 h1 k s' => ?_⟩
    obtain ⟨j, rfl⟩ : ∃ j : Nat, d = (j : Int) := ⟨d.toNat, by omega⟩
    have hd : j < xs.length := by omega
    exact ⟨p, xs, j, xs[j], rfl, rfl, seqL_kept hS k npa npw, atI_nat (List.getElem?_eq_getElem hd), q H' _ (List.getElem_mem _) k s'⟩
end
/-- rows of short texts -/
def slimRow (r : Rw) : Prop := fitRow r ∧ (rowText r).length ≤ 70 ∧ asc (rowText r) ∧ ∀ u ∈ TL.spl [32] 0 [] (rowText r), u.length ≤ 30
theorem intL_27 {i : Int} (h : i.natAbs ≤ 10 ^ 26) : (intL i).length ≤ 28 := by
  have z := TL.numL_len (n := i.natAbs) (k := 27) (by decide) (Nat.lt_of_le_of_lt h (by decide +kernel))
  unfold intL
  split
  · rw [List.length_cons]; omega
  · omega
theorem seven_8 : ∀ u ∈ sevenW, u.length ≤ 8 := by decide +kernel
theorem intL_asc (i : Int) : asc (intL i) := fun c hc => by
  by_cases h : c < 45 ∨ 57 < c
  · exact absurd hc (intL_free h)
  · omega
theorem seven_asc : ∀ u ∈ sevenW, (u.all fun c => decide (c < 256)) = true := by decide +kernel
theorem slim_of {u : CL} {is : List Int} (hu : u ∈ sevenW) (h2 : is.length ≤ 2) (hb : ∀ i ∈ is, i.natAbs ≤ 10 ^ 26) : slimRow (u, is.map some) := by
  have h8 := seven_8 u hu
  have ft := fit_text (r := (u, is.map some)) (is := is) rfl
  refine ⟨⟨Nat.le_trans h8 (by decide), is, rfl, by omega, fun i hi => Nat.lt_of_le_of_lt (hb i hi) (by decide +kernel)⟩, ?_, ?_, ?_⟩
  · rw [ft]
    have hj := (joinL_len (u :: is.map intL) 32).resolve_right (List.cons_ne_nil _ _)
    rcases is with _ | ⟨a, _ | ⟨b, _ | ⟨c, r⟩⟩⟩
    · simp only [List.map_cons, List.map_nil, List.sum_cons, List.sum_nil] at hj ⊢
      omega
    · have ha := intL_27 (hb a (by simp))
      simp only [List.map_cons, List.map_nil, List.sum_cons, List.sum_nil] at hj ⊢
      omega
    · have ha := intL_27 (hb a (by simp))
      have hb' := intL_27 (hb b (by simp))
      simp only [List.map_cons, List.map_nil, List.sum_cons, List.sum_nil] at hj ⊢
      omega
    · simp at h2
  · rw [ft]
    intro c hc
    rcases joinL_mem hc with z | ⟨p, hp, z⟩
    · rw [List.mem_singleton.mp z]; decide
    · rcases List.mem_cons.mp hp with e | e
      · rw [e] at z
        exact of_decide_eq_true (List.all_eq_true.mp (seven_asc u hu) c z)
      · obtain ⟨i, _, rfl⟩ := List.mem_map.mp e
        exact intL_asc i c z
  · rw [ft, TL.spl_join (List.cons_ne_nil _ _) fun p hp => ?_]
    · intro p hp
      rcases List.mem_cons.mp hp with e | e
      · rw [e]; exact Nat.le_trans h8 (by decide)
      · obtain ⟨i, hi, rfl⟩ := List.mem_map.mp e
        exact Nat.le_trans (intL_27 (hb i hi)) (by decide)
    · rcases List.mem_cons.mp hp with e | e
      · rw [e]; exact (seven_free u hu).2
      · obtain ⟨i, _, rfl⟩ := List.mem_map.mp e
        exact intL_free (by omega)
def strS (l : CL) : V := .str (S l)
def spDrawn (K : PySem.W.Frag) : Sp := fun vs H Q _ => ∃ (a w c p : Addr) (T n : Nat) (m : Int) (ws : List CL), vs = [.ref a, .ref p, .int (n : Nat), .int m] ∧ St H a w c T ∧ T ≤ 900000 ∧ SqL K H p (ws.map strS) ∧ p ≠ a ∧ p ≠ w ∧ 0 < ws.length ∧ ws.length ≤ 10 ∧ (∀ x ∈ ws, x ∈ sevenW) ∧ n ≤ 10 ∧
  ∀ (H' : Hp) L rs T', Kept a w H H' → St H' a w c T' → T' ≤ T + 40 → H L = none → L ≠ a ∧ L ≠ w ∧ L ≠ c → RowsL K H' L rs → goodFrom rs 0 = true → (∀ r ∈ rs, slimRow r) → rs.length = n → Q (.ref L) H'
/-- the word is drawn anew where there are too many of its kind -/
def tRe (a w c L : Addr) : TS := fun D σ H => ∃ (x1 x2 x3 : V) (d s : Int) (n T : Nat) (m : Int) (u : CL) (xs : List V), σ = [some (.ref a), some x1, some x2, some (.int m), some (.ref L), some (.int d), some (.int s), some (.int (n : Nat)), some (strS u)] ∧ St H a w c T ∧ T ≤ 990000 ∧ (u ∈ sevenW) ∧ (n ≤ 1 → u = W "fraction") ∧ H L = some (.lst xs) ∧ L ≠ a ∧ L ≠ w ∧
  ∀ (H' : Hp) (u' : CL) T', Kept a w H H' → St H' a w c T' → T' ≤ T + 1 → u' ∈ sevenW → (n ≤ 1 → u' = W "fraction") → D.nx [some (.ref a), some x1, some x2, some (.int m), some (.ref L), some (.int d), some (.int s), some (.int (n : Nat)), some (strS u')] H'
def tPk (a w c L : Addr) : TS := fun D σ H => ∃ (x1 x2 x3 : V) (d s : Int) (n T : Nat) (m : Int) (u : CL), σ = [some (.ref a), some x1, some x2, some (.int m), some (.ref L), some (.int d), some (.int s), some (.int (n : Nat)), some (strS u)] ∧ St H a w c T ∧ T ≤ 990000 ∧
  ∀ (H' : Hp) (u' : CL), Kept a w H H' → St H' a w c (T + 1) → u' ∈ sevenW → D.nx [some (.ref a), some x1, some x2, some (.int m), some (.ref L), some (.int d), some (.int s), some (.int (n : Nat)), some (strS u')] H'
def tWord (K : PySem.W.Frag) (a w c p : Addr) (ws : List CL) : TE := fun σ H Q => ∃ (x2 x3 x4 x5 x6 x8 : Option V) (i T2 : Nat), σ = [some (.ref a), some (.ref p), x2, x3, x4, x5, x6, some (.int (i : Nat)), x8] ∧ St H a w c T2 ∧ T2 ≤ 990000 ∧ SqL K H p (ws.map strS) ∧
  ∀ H' u T3, Kept a w H H' → St H' a w c T3 → T3 ≤ T2 + 1 → u ∈ sevenW → (i ≤ 1 → u = W "fraction") → Q (strS u) H'
def invDR (K : PySem.W.Frag) (a w c p L : Addr) (H : Hp) (n : Nat) (m : Int) (T : Nat) : Nat → L2.St → Hp → Prop := fun i σ H' => ∃ (d s : Int) (x y : Option V) (xs : List V) (rs : List Rw) (T' : Nat), σ = [some (.ref a), some (.ref p), some (.int (n : Nat)), some (.int m), some (.ref L), some (.int d), some (.int s), x, y] ∧ Kept a w H H' ∧ St H' a w c T' ∧ T' ≤ T + 4 * i ∧ H' L = some (.lst xs) ∧ rs.length = xs.length ∧ (∀ (j : Nat) v r, xs[j]? = some v → rs[j]? = some r → RowV K H' v r) ∧ xs.length = i ∧ goodFrom rs 0 = true ∧ ∀ r ∈ rs, slimRow r
theorem inv_on {K : PySem.W.Frag} {a w c p L t : Addr} {H H2 H8 : Hp} {n i : Nat} {m d s : Int} {T T' T8 : Nat} {x y : Option V} {xs : List V} {rs : List Rw} {r : Rw} (oL : L ≠ a ∧ L ≠ w ∧ L ≠ c) (nL : H L = none) (k : Kept a w H H2) (hS2 : St H2 a w c T') (hT2 : T' ≤ T + 4 * i) (hL : H2 L = some (.lst xs)) (hrl : rs.length = xs.length)
    (hrow : ∀ (j : Nat) v r, xs[j]? = some v → rs[j]? = some r → RowV K H2 v r) (hxl : xs.length = i) (hg : goodFrom rs 0 = true) (hfit : ∀ r ∈ rs, slimRow r)
    (k8 : Kept a w H2 H8) (hS8 : St H8 a w c T8) (hT8 : T8 ≤ T' + 4) (nt : H8 t = none) (hgr : goodRow r i = true) (hf : slimRow r) : invDR K a w c p L H n m T (i + 1) [some (.ref a), some (.ref p), some (.int (n : Nat)), some (.int m), some (.ref L), some (.int d), some (.int s), x, y] (upd (upd H8 t (.tup (itemsV r))) L (.lst (xs ++ [.ref t]))) := by
  have ot := St.off hS8 nt
  have hL8 := k8 _ _ hL oL.1 oL.2.1
  have tL : L ≠ t := ne_of_none hL8 nt
  have hL9 : (upd H8 t (.tup (itemsV r))) L = some (.lst xs) := (upd_ne tL).trans hL8
  have tk : TK K H2 (upd (upd H8 t (.tup (itemsV r))) L (.lst (xs ++ [.ref t]))) := ((TK.kept hS2 k8).trans (TK.of (same_upd nt))).trans (TK.put hL9)
  have nt0 : H t = none := kept_none (k.trans k8) nt ⟨ot.1, ot.2.1⟩
  refine ⟨d, s, x, y, xs ++ [.ref t], rs ++ [r], T8, rfl, Kept.put (Kept.put (k.trans k8) nt0) nL, St.put (St.put hS8 ot) oL, by omega, upd_same, by rw [List.length_append, List.length_append, hrl]; rfl, fun j v q e1 e2 => ?_, by rw [List.length_append, hxl]; rfl, ?_, fun q hq => ?_⟩
  · by_cases hj : j < i
    · rw [List.getElem?_append_left (by omega)] at e1 e2
      exact rowV_tk (hrow j v q e1 e2) tk
    · rw [List.getElem?_append_right (by omega)] at e1 e2
      have hj0 : j - xs.length = 0 := by
        have := (List.getElem?_eq_some_iff.mp e1).1
        rw [List.length_singleton] at this
        omega
      rw [hrl] at e2
      rw [hj0] at e1 e2
      cases (show V.ref t = v from Option.some.inj e1)
      cases (show r = q from Option.some.inj e2)
      exact ⟨t, rfl, TK.put hL9 _ _ (.inl (.inl upd_same))⟩
  · rw [goodFrom_app, hg, hrl, hxl, Nat.zero_add]
    show (true && (goodRow r i && true)) = true
    rw [hgr]
    rfl
  · rcases List.mem_append.mp hq with z | z
    · exact hfit q z
    · rw [List.mem_singleton.mp z]
      exact hf
theorem Kept.sameL {a w : Addr} {H H1 H' : Hp} (s : Same H H1) (k : Kept a w H1 H') : Kept a w H H' := fun b o e h1 h2 => k b o (s b o e) h1 h2
theorem in_two (u s t : CL) (h : inV (strS u) [strS s, strS t] = true) : u = s ∨ u = t := by
  unfold inV at h
  rw [List.any_eq_true] at h
  obtain ⟨x, hx, h⟩ := h
  rcases List.mem_cons.mp hx with rfl | hx
  · have h : (S s == S u) = true := h
    exact .inl (S_eq.mp (eq_of_beq h)).symm
  · rcases List.mem_cons.mp hx with rfl | hx
    · have h : (S t == S u) = true := h
      exact .inr (S_eq.mp (eq_of_beq h)).symm
    · cases hx
theorem seven_len : ∀ u ∈ sevenW, u.length ≤ 30 := by decide +kernel
theorem seven_two {u : CL} (h : u ∈ sevenW) (h1 : ¬ u = W "fraction") (h2 : ¬ u = W "root") : u ∈ twos := by
  have all : ∀ x ∈ sevenW, x = W "fraction" ∨ x = W "root" ∨ x ∈ twos := by decide +kernel
  rcases all u h with z | z | z
  · exact absurd z h1
  · exact absurd z h2
  · exact z
theorem small_fit {i : Int} (h : i.natAbs ≤ 1000) : i.natAbs ≤ 10 ^ 26 := Nat.le_trans h (by decide)
theorem hyp_not : ¬ (W "fraction" = W "hyp" ∨ W "fraction" = W "root") := by decide +kernel
theorem tim_not : ¬ (W "fraction" = W "times" ∨ W "fraction" = W "over") := by decide +kernel
section
variable {P : Program} {w : World} {K : PySem.W.Frag} {mg : Str → Option Value} {base : Heap}
def drN : List Str := ["state", "words", "size", "most", "found", "deep", "steep", "at", "word"]
theorem scDR : FnScope drN ["state", "words", "size", "most"] (defScope sDrawnRows) := ⟨rfl, rfl, rfl, by decide +kernel, rfl, by decide +kernel, by decide +kernel⟩
theorem ok_drawn {f fP fD : Addr} {fd fdP fdD : FuncData} (F : Fun K "_law_drawn_rows" "_law_drawn_rows" sDrawnRows f fd)
    (FP : Fun K "_law_pick" "_law_pick" sPick fP fdP) (GP : FnOk P w K mg base CX0 3 fP fdP ["state", "some"] (spPick K)) (bP : Binds K fdP ["state", "some"] []) (gP : mg "_law_pick" = some (.ref fP))
    (FD : Fun K "_law_draw" "_law_draw" sDraw fD fdD) (GD : FnOk P w K mg base CX0 2 fD fdD ["state", "size"] spDraw) (bD : Binds K fdD ["state", "size"] []) (gD : mg "_law_draw" = some (.ref fD))
    (mr : mg "range" = none) (mint : mg "int" = none) (mmin : mg "min" = none) : FnOk P w K mg base CX0 4 f fd ["state", "words", "size", "most"] (spDrawn K) := by
  refine F.ok scDR (fun vs H Q E h => ?_) (fun cdv A outer s H vs Q E hr h => ?_)
  · obtain ⟨a, w, c, p, T, n, m, ws, rfl, _⟩ := h
    rfl
  · obtain ⟨a, w, c, p, T, n, m, ws, rfl, hSt, hT, hws, pa, pw_, hw0, hw10, hseven, hn, q⟩ := h
    have hr2 : Room 2 _ := hr.mono (by decide)
    refine ⟨_, pss_cons (ps_par3 (i := 4) (j := 5) (l := 6) rfl scDR.nd rfl rfl rfl (by decide) (by decide) (by decide) rfl rfl rfl (pa_cons (pe_lst pa_nil) (pa_cons pe_int (pa_cons pe_int pa_nil))) (by rfl))
      (pss_cons (ps_for PassesOwn.never rfl (pi_range1 (by rfl) mr (pa_cons (pv 2) pa_nil)) (pg_name (i := 7) scDR.nd rfl (.inl rfl))
        (pss_cons (ps_set (i := 8) scDR.nd rfl (.inl rfl) (pe_weak (t' := tWord K a w c p ws) (pe_ifExp (pt_cmpR op_gt (pv 7) pe_int (nomark _)) (pe_call GP hr (by rfl) gP FP.kp bP .nil pass0 (pa_cons (pv 0) (pa_cons (pv 1) pa_nil))) pe_str) ?word))
        (pss_cons (ps_par (i := 5) (j := 6) rfl scDR.nd rfl rfl (by decide) rfl rfl
            (pa_cons (pe_op op_add (pv 5) (pe_callTy call_int1 (by rfl) mint (by decide +kernel) (pa_cons (pe_cmpR op_in_seq (pv 8) (pe_lst (pa_cons pe_str (pa_cons pe_str pa_nil))) (by rfl)) pa_nil)))
            (pa_cons (pe_op op_add (pv 6) (pe_callTy call_int1 (by rfl) mint (by decide +kernel) (pa_cons (pe_cmpR op_in_seq (pv 8) (pe_lst (pa_cons pe_str (pa_cons pe_str pa_nil))) (by rfl)) pa_nil))) pa_nil)) (by rfl))
        (pss_cons (ps_weak (t' := fun D σ H => ∃ L, tRe a w c L D σ H) (ps_if (PW.pt (pw_or (PW.pt (pw_and (pt_cmpR (show OpR _ (compareOp .In) (rIn K false) from op_in_seq) (pv 8) (pe_lst (pa_cons pe_str (pa_cons pe_str pa_nil))) (by rfl)) (pw_and1 (pt_cmpR op_gt (pv 5) (pv 3) (nomark _)))))
              (pw_or1 (PW.pt (pw_and (pt_cmpR (show OpR _ (compareOp .In) (rIn K false) from op_in_seq) (pv 8) (pe_lst (pa_cons pe_str (pa_cons pe_str pa_nil))) (by rfl)) (pw_and1 (pt_cmpR op_gt (pv 6) pe_int (nomark _))))))))
            (pss_one (ps_weak (t' := fun D σ H => ∃ L, tPk a w c L D σ H) (ps_set (i := 8) scDR.nd rfl (.inl rfl) (pe_call GP hr (by rfl) gP FP.kp bP .nil pass0 (pa_cons (pv 0) (pa_cons (pe_lst (pa_cons pe_str (pa_cons pe_str pa_nil))) pa_nil)))) ?pk)) pss_nil) ?re)
        (pss_one (ps_if (pt_cmpR op_eq (pv 8) pe_str (nomark _))
          (pss_one (ps_expr (pe_bm PySem.F.plainAttrs_list PySem.F.slot_list_append PySem.F.type_list_append mt_append (pv 4) (pa_cons (pe_tup (pa_cons (pv 8) (pa_cons (pe_op op_sub (pe_call GD hr2 (by rfl) gD FD.kp bD .nil pass0 (pa_cons (pv 0) (pa_cons pe_int pa_nil))) pe_int) (pa_cons (pe_op op_add pe_int (pe_call GD hr2 (by rfl) gD FD.kp bD .nil pass0 (pa_cons (pv 0) (pa_cons pe_int pa_nil)))) pa_nil)))) pa_nil))))
          (pss_one (ps_if (pt_cmpR op_eq (pv 8) pe_str (nomark _))
            (pss_one (ps_expr (pe_bm PySem.F.plainAttrs_list PySem.F.slot_list_append PySem.F.type_list_append mt_append (pv 4) (pa_cons (pe_tup (pa_cons (pv 8) (pa_cons (pe_call GD hr2 (by rfl) gD FD.kp bD .nil pass0 (pa_cons (pv 0) (pa_cons (pv 7) pa_nil))) pa_nil))) pa_nil))))
            (pss_one (ps_expr (pe_bm PySem.F.plainAttrs_list PySem.F.slot_list_append PySem.F.type_list_append mt_append (pv 4) (pa_cons (pe_tup (pa_cons (pv 8) (pa_cons (pe_call GD hr2 (by rfl) gD FD.kp bD .nil pass0 (pa_cons (pv 0) (pa_cons (pv 7) pa_nil)))
              (pa_cons (pe_op op_sub (pe_op op_sub (pv 7) pe_int) (pe_call GD hr2 (by rfl) gD FD.kp bD .nil pass0 (pa_cons (pv 0) (pa_cons (pe_callB (call_min2 rfl) (by rfl) mmin (by decide +kernel) (pa_cons (pv 7) (pa_cons pe_int pa_nil))) pa_nil)))) pa_nil)))) pa_nil))))))))))))
      (pss_one (ps_ret (pv 4)))), ?main⟩
    case word =>
      rintro σ H2 Q2 ⟨x2, x3, x4, x5, x6, x8, i, T2, rfl, hS2, hT2, hp2, q2⟩
      refine ⟨_, rfl, _, _, rfl, rfl, _, rfl, ite2 (fun e => ?_) (fun e => ?_)⟩
      · have hi : ¬ i ≤ 1 := fun z => by
          have := of_decide_eq_true e
          omega
        refine ⟨_, rfl, _, rfl, a, w, c, p, T2, _, rfl, hS2, by omega, hp2, pa, pw_, by rw [List.length_map]; exact hw0, by rw [List.length_map]; omega, fun H' x hx k s' => ?_⟩
        obtain ⟨u, hu, rfl⟩ := List.mem_map.mp hx
        exact q2 H' u _ k s' (Nat.le_refl _) (hseven u hu) fun z => absurd z hi
      · exact q2 H2 (W "fraction") T2 (Kept.of same_rfl) hS2 (by omega) (by decide +kernel) fun _ => rfl
    case pk =>
      rintro D σ H2 ⟨L, x1, x2, x3, d, s, n2, T2, m2, u, rfl, hS2, hT2, q2⟩
      refine ⟨_, rfl, by show 2 ≤ sizeLine; decide, fun l3 nl3 => ?_⟩
      have o3 := St.off hS2 nl3
      refine ⟨a, w, c, l3, T2, _, rfl, St.put hS2 o3, by omega, .inl (.inl upd_same), o3.1, o3.2.1, by decide, by decide, fun H' x hx k s' => ?_⟩
      have k' : Kept a w H2 H' := Kept.sameL (same_upd nl3) k
      rcases List.mem_cons.mp hx with rfl | hx
      · exact q2 H' (W "plus") k' s' (by decide +kernel)
      · rcases List.mem_cons.mp hx with rfl | hx
        · exact q2 H' (W "minus") k' s' (by decide +kernel)
        · cases hx
    case re =>
      rintro D σ H2 ⟨L, x1, x2, x3, d, s, n2, T2, m2, u, xs, rfl, hS2, hT2, hu, hu1, hL, La, Lw, q2⟩
      refine ⟨_, rfl, by show 2 ≤ sizeLine; decide, fun l1 nl1 => ⟨l1, [strS (W "hyp"), strS (W "root")], rfl, .inl (.inl (.inl upd_same)), rfl, by decide +kernel, _, rfl, ?_⟩⟩
      have o1 := St.off hS2 nl1
      have S1 : Same H2 (upd H2 l1 (.lst [strS (W "hyp"), strS (W "root")])) := same_upd nl1
      have hS3 := St.put (o := .lst [strS (W "hyp"), strS (W "root")]) hS2 o1
      refine ite2 (fun e => ?_) (fun _ => ?_)
      refine ⟨_, rfl, _, rfl, _, _, rfl, rfl, _, rfl, ite2 (fun _ => ?_) (fun _ => ?_)⟩
      · refine ⟨L, x1, x2, x3, d, s, n2, T2, m2, u, rfl, hS3, hT2, fun H' u' k s' h7 => q2 H' u' _ (Kept.sameL S1 k) s' (Nat.le_refl _) h7 fun z => ?_⟩
        exact absurd (in_two u _ _ e) (by rw [hu1 z]; exact hyp_not)
      all_goals
        refine ⟨_, rfl, by show 2 ≤ sizeLine; decide, fun l2 nl2 => ⟨l2, [strS (W "times"), strS (W "over")], rfl, .inl (.inl (.inl upd_same)), rfl, by decide +kernel, _, rfl, ?_⟩⟩
        have o2 := St.off hS3 nl2
        have S2 := S1.trans (same_upd (o := .lst [strS (W "times"), strS (W "over")]) nl2)
        have hS4 := St.put (o := .lst [strS (W "times"), strS (W "over")]) hS3 o2
        refine ite2 (fun e2 => ?_) (fun _ => q2 _ u T2 (Kept.of S2) hS4 (by omega) hu hu1)
        refine ⟨_, rfl, _, _, rfl, rfl, _, rfl, ite2 (fun _ => ?_) (fun _ => q2 _ u T2 (Kept.of S2) hS4 (by omega) hu hu1)⟩
        refine ⟨L, x1, x2, x3, d, s, n2, T2, m2, u, rfl, hS4, hT2, fun H' u' k s' h7 => q2 H' u' _ (Kept.sameL S2 k) s' (Nat.le_refl _) h7 fun z => ?_⟩
        exact absurd (in_two u _ _ e2) (by rw [hu1 z]; exact tim_not)
    case main =>
      refine ⟨Nat.zero_le _, fun L nL => ?_⟩
      have oL := St.off hSt nL
      refine ⟨_, _, _, rfl, ?_⟩
      refine ⟨_, rfl, n, rfl, by omega, by omega, ?_⟩
      refine for_range (lo := 0) (n := n) (invDR K a w c p L H n m T) ?_ ?_ ?_
      · exact ⟨0, 0, none, none, [], [], T, rfl, Kept.put (Kept.of same_rfl) nL, St.put hSt oL, by omega, upd_same, rfl, fun j v r e => (by cases e), rfl, rfl, fun r hr => (by cases hr)⟩
      · rintro i σ H2 hi ⟨d, s, x, y, xs, rs, T', rfl, k, hS2, hT2, hL, hrl, hrow, hxl, hg, hfit⟩
        rw [Int.zero_add]
        have hp2 : SqL K H2 p (ws.map strS) := seqL_kept hws k pa pw_
        refine ⟨_, _, _, _, _, _, i, T', rfl, hS2, by omega, hp2, fun H3 u T3 k3 hS3 hT3 hu hu1 => ?_⟩
        have hL3 := k3 _ _ hL oL.1 oL.2.1
        refine ⟨_, rfl, _, rfl, by show 2 ≤ sizeLine; decide, fun l1 nl1 => ⟨l1, [strS (W "hyp"), strS (W "root")], rfl, .inl (.inl (.inl upd_same)), rfl, by decide +kernel, .inr ⟨_, rfl, ?_⟩⟩⟩
        have o1 := St.off hS3 nl1
        have S4 : Same H3 (upd H3 l1 (.lst [strS (W "hyp"), strS (W "root")])) := same_upd nl1
        have hS4 := St.put (o := .lst [strS (W "hyp"), strS (W "root")]) hS3 o1
        refine ⟨_, _, rfl, rfl, ?_⟩
        refine ⟨_, rfl, _, rfl, by show 2 ≤ sizeLine; decide, fun l2 nl2 => ⟨l2, [strS (W "times"), strS (W "over")], rfl, .inl (.inl (.inl upd_same)), rfl, by decide +kernel, .inr ⟨_, rfl, ?_⟩⟩⟩
        have o2 := St.off hS4 nl2
        have S5 := S4.trans (same_upd (o := .lst [strS (W "times"), strS (W "over")]) nl2)
        have hS5 := St.put (o := .lst [strS (W "times"), strS (W "over")]) hS4 o2
        refine ⟨_, _, rfl, rfl, _, _, rfl, ?_⟩
        refine ⟨L, .ref p, .int (n : Nat), .ref L, _, _, i, T3, m, u, xs, rfl, hS5, by omega, hu, hu1, S5 _ _ hL3, oL.1, oL.2.1, fun H6 u6 T6 k6 hS6 hT6 hu6 hu61 => ?_⟩
        have k26 : Kept a w H2 H6 := k3.trans (Kept.sameL S5 k6)
        have hL6 := k26 _ _ hL oL.1 oL.2.1
        refine ⟨_, rfl, rfl, _, rfl, ?_⟩
        rw [show decide (strS u6 = V.str (Str.ofString "fraction")) = decide (u6 = W "fraction") from eqW _ "fraction"]
        refine ite2 (fun e => ?_) (fun e => ?_)
        · have e := of_decide_eq_true e
          refine ⟨_, rfl, .inl ⟨rfl, _, .inl (.inl hL6)⟩, _, rfl, _, rfl, a, w, c, T6, _, rfl, hS6, by omega, by decide, pow1000 (n := 12) (by decide), fun H7 d7 h0 h1 k7 hS7 => ?_⟩
          refine ⟨_, _, rfl, rfl, _, rfl, a, w, c, T6 + 1, _, rfl, hS7, by omega, by decide, pow1000 (n := 4) (by decide), fun H8 d8 h2 h3 k8 hS8 => ?_⟩
          refine ⟨_, _, rfl, rfl, by show 3 ≤ sizeLine; decide, fun t nt => ?_⟩
          have k28 := k26.trans (k7.trans k8)
          have hL8 := k28 _ _ hL oL.1 oL.2.1
          have nt2 : L ≠ t := ne_of_none hL8 nt
          refine ⟨L, xs, _, rfl, rfl, (upd_ne nt2).trans hL8, small1000 (by omega), ?_⟩
          refine inv_on (r := (u6, [some (d7 - 4), some (1 + d8)])) oL nL k hS2 hT2 hL hrl hrow hxl hg hfit k28 hS8 (by omega) nt ?_ ?_
          · unfold goodRow
            rw [if_pos e]
            exact decide_eq_true (by omega)
          · refine slim_of (is := [d7 - 4, 1 + d8]) hu6 (by show 2 ≤ 2; decide) fun z hz => small_fit ?_
            rcases List.mem_cons.mp hz with rfl | hz
            · omega
            · rw [List.mem_singleton.mp hz]
              omega
        · have e : ¬ u6 = W "fraction" := of_decide_eq_false (by simpa using e)
          have hi1 : 1 < i := by
            rcases Nat.lt_or_ge 1 i with z | z
            · exact z
            · exact absurd (hu61 z) e
          refine ⟨_, rfl, rfl, _, rfl, ?_⟩
          rw [show decide (strS u6 = V.str (Str.ofString "root")) = decide (u6 = W "root") from eqW _ "root"]
          refine ite2 (fun e2 => ?_) (fun e2 => ?_)
          · have e2 := of_decide_eq_true e2
            refine ⟨_, rfl, .inl ⟨rfl, _, .inl (.inl hL6)⟩, _, rfl, _, rfl, _, rfl, a, w, c, T6, _, rfl, hS6, by omega, by omega, pow1000 (by omega), fun H7 d7 h0 h1 k7 hS7 => ?_⟩
            refine ⟨by show 2 ≤ sizeLine; decide, fun t nt => ?_⟩
            have k27 := k26.trans k7
            have hL7 := k27 _ _ hL oL.1 oL.2.1
            have nt2 : L ≠ t := ne_of_none hL7 nt
            refine ⟨L, xs, _, rfl, rfl, (upd_ne nt2).trans hL7, small1000 (by omega), ?_⟩
            refine inv_on (r := (u6, [some d7])) oL nL k hS2 hT2 hL hrl hrow hxl hg hfit k27 hS7 (by omega) nt ?_ ?_
            · unfold goodRow
              rw [if_neg e, if_pos e2]
              show ixB d7 i = true
              unfold ixB
              rw [decide_eq_true h0, decide_eq_true h1]
              rfl
            · refine slim_of (is := [d7]) hu6 (by show 1 ≤ 2; decide) fun z hz => small_fit ?_
              rw [List.mem_singleton.mp hz]
              omega
          · have e2 : ¬ u6 = W "root" := of_decide_eq_false (by simpa using e2)
            refine ⟨_, rfl, .inl ⟨rfl, _, .inl (.inl hL6)⟩, _, rfl, _, rfl, _, rfl, a, w, c, T6, _, rfl, hS6, by omega, by omega, pow1000 (by omega), fun H7 d7 h0 h1 k7 hS7 => ?_⟩
            refine ⟨_, rfl, _, _, rfl, rfl, _, rfl, _, rfl, _, _, rfl, a, w, c, T6 + 1, _, rfl, hS7, by omega, ?_, ?_, fun H8 d8 h2 h3 k8 hS8 => ?_⟩
            · split <;> omega
            · split
              · exact pow1000 (n := 3) (by decide)
              · exact pow1000 (by omega)
            · refine ⟨_, _, rfl, rfl, by show 3 ≤ sizeLine; decide, fun t nt => ?_⟩
              have k28 := k26.trans (k7.trans k8)
              have hL8 := k28 _ _ hL oL.1 oL.2.1
              have nt2 : L ≠ t := ne_of_none hL8 nt
              refine ⟨L, xs, _, rfl, rfl, (upd_ne nt2).trans hL8, small1000 (by omega), ?_⟩
              have h4 : d8 ≤ (i : Int) - 1 := by
                have h3 : d8 < (if (3 : Int) < (i : Int) then 3 else (i : Int)) := h3
                split at h3 <;> omega
              refine inv_on (r := (u6, [some d7, some ((i : Int) - 1 - d8)])) oL nL k hS2 hT2 hL hrl hrow hxl hg hfit k28 hS8 (by omega) nt ?_ ?_
              · unfold goodRow
                rw [if_neg e, if_neg e2, if_pos (seven_two hu6 e e2)]
                show (ixB d7 i && ixB ((i : Int) - 1 - d8) i) = true
                unfold ixB
                rw [decide_eq_true h0, decide_eq_true h1, decide_eq_true (by omega : (0 : Int) ≤ (i : Int) - 1 - d8), decide_eq_true (by omega : (i : Int) - 1 - d8 < i)]
                rfl
              · refine slim_of (is := [d7, (i : Int) - 1 - d8]) hu6 (by show 2 ≤ 2; decide) fun z hz => small_fit ?_
                rcases List.mem_cons.mp hz with rfl | hz
                · omega
                · rw [List.mem_singleton.mp hz]
                  omega
      · rintro σ H2 ⟨d, s, x, y, xs, rs, T', rfl, k, hS2, hT2, hL, hrl, hrow, hxl, hg, hfit⟩
        refine ⟨_, rfl, q H2 L rs T' k hS2 (by omega) nL oL ⟨xs, hL, hrl, hrow⟩ hg hfit (by omega)⟩
end
end R14

set_option Elab.async false
set_option linter.all false
set_option maxRecDepth 100000
set_option maxHeartbeats 2000000
/-! The law writes rows. -/
namespace R15
open PySem PySem.Spec PyProof.Rows L2 Cau Dr65 R0 R3 R4 R5 R6 R7 R8 R9 R10 R11 R12 R13 R14
abbrev sWritten : Stmt := topS 38
theorem join_snoc (s : Nat) (x : CL) : ∀ (ls : List CL), ls ≠ [] → TL.joinL [s] (ls ++ [x]) = TL.joinL [s] ls ++ s :: x
  | [], h => absurd rfl h
  | [a], _ => by
    show a ++ s :: TL.joinL [s] [x] = _
    rfl
  | a :: b :: r, _ => by
    show a ++ s :: TL.joinL [s] ((b :: r) ++ [x]) = (a ++ s :: TL.joinL [s] (b :: r)) ++ s :: x
    rw [join_snoc s x (b :: r) (List.cons_ne_nil _ _), List.append_assoc]
    rfl
def spWritten (K : PySem.W.Frag) : Sp := fun vs H Q _ => ∃ (p : Addr) (rs : List Rw), vs = [.ref p] ∧ RowsL K H p rs ∧ rs.length ≤ 20 ∧ (∀ r ∈ rs, fitRow r) ∧ ∀ H', Same H H' → Q (.str (S (textOf rs))) H'
section
variable {P : Program} {w : World} {K : PySem.W.Frag} {mg : Str → Option Value} {base : Heap}
def wrN : List Str := ["rows", "lines", "row", "line", "whole"]
theorem scWr : FnScope wrN ["rows"] (defScope sWritten) := ⟨rfl, rfl, rfl, by decide +kernel, rfl, by decide +kernel, by decide +kernel⟩
theorem ok_written {f : Addr} {fd : FuncData} (F : Fun K "_law_written" "_law_written" sWritten f fd) (ms : mg "str" = none) : FnOk P w K mg base CX0 1 f fd ["rows"] (spWritten K) := by
  refine F.ok scWr (fun vs H Q E h => ?_) (fun cdv A outer s H vs Q E hr h => ?_)
  · obtain ⟨p, rs, rfl, _⟩ := h
    rfl
  · obtain ⟨p, rs, rfl, ⟨xs, hp, hl, hrow⟩, h20, hfit, q⟩ := h
    refine ⟨_, pss_cons (ps_set (i := 1) scWr.nd rfl (.inl rfl) (pe_lst pa_nil))
      (pss_cons (ps_for PassesOwn.never rfl (pi_list (pv 0)) (pg_name (i := 2) scWr.nd rfl (.inl rfl))
        (pss_cons (ps_set (i := 3) scWr.nd rfl (.inl rfl) (pe_ix ix_tup (pv 2) pe_int (fun _ _ => rfl)))
        (pss_cons (ps_for PassesOwn.never rfl (pi_tup (pe_slice sl_tup (pv 2) (po_some pe_int) po_none)) (pg_name (i := 4) scWr.nd rfl (.inl rfl))
          (pss_one (ps_set (i := 3) scWr.nd rfl (.inl rfl) (pe_op op_add_str (pe_op op_add_str (pv 3) pe_str) (pe_callTy call_str_int (by rfl) ms (by decide +kernel) (pa_cons (pv 4) pa_nil))))))
        (pss_one (ps_expr (pe_bm PySem.F.plainAttrs_list PySem.F.slot_list_append PySem.F.type_list_append mt_append (pv 1) (pa_cons (pv 3) pa_nil)))))))
      (pss_one (ps_ret (pe_join pe_str (pv 1))))), ?_⟩
    refine ⟨Nat.zero_le _, fun L nL => ?_⟩
    have S0 : Same H (upd H L (.lst [])) := same_upd nL
    refine ⟨_, rfl, p, rfl, ⟨_, .inl (.inl (S0 _ _ hp))⟩, ?_⟩
    refine for_it (walk_list (K := K) (a := p) (xs := xs)) (fun i σ H' => ∃ (x y z : Option V) (ls : List CL), σ = [some (.ref p), some (.ref L), x, y, z] ∧ Same H H' ∧ H' L = some (.lst (ls.map strS)) ∧ ls = (rs.take i).map rowText) ⟨none, none, none, [], rfl, S0, upd_same, rfl⟩ (fun i σ H' _ ⟨_, _, _, _, _, sm, _⟩ => .inl (.inl (sm _ _ hp))) ?_ ?_
    · rintro i v σ Ho H2 hi ⟨x, y, z, ls, rfl, sm, hL, hls⟩ ⟨rfl, hv⟩
      have hi' : i < rs.length := by omega
      have hri : rs[i]? = some rs[i] := List.getElem?_eq_getElem hi'
      obtain ⟨a, rfl, ha⟩ := hrow i v _ hv hri
      obtain ⟨hwl, is, eis, hil, hif⟩ := hfit rs[i] (List.getElem_mem _)
      have ha2 : SqT K H2 a (strS rs[i].1 :: is.map V.int) := by
        have := sqT_same ha sm
        unfold itemsV at this
        rwa [eis, cell_some] at this
      refine ⟨_, rfl, a, _, 0, _, rfl, rfl, ha2, atI_nat (j := 0) rfl, ?_⟩
      refine ⟨_, rfl, _, rfl, a, _, rfl, ha2, not_whole _ _ _, fun p1 np1 => ?_⟩
      rw [cut1]
      refine ⟨p1, rfl, ⟨_, .inl (.inl upd_same)⟩, ?_⟩
      have S3 : Same H2 (upd H2 p1 (.tup (is.map V.int))) := same_upd np1
      have hp1 : SqT K (upd H2 p1 (.tup (is.map V.int))) p1 (is.map V.int) := .inl (.inl upd_same)
      generalize upd H2 p1 (.tup (is.map V.int)) = H3 at S3 hp1
      refine for_it (walk_tup (K := K) (a := p1) (xs := is.map V.int)) (fun j σ H' => ∃ (z : Option V), σ = [some (.ref p), some (.ref L), some (.ref a), some (strS (TL.joinL [32] (rs[i].1 :: (is.take j).map intL))), z] ∧ Same H3 H') ⟨_, rfl, same_rfl⟩ (fun j σ H' _ ⟨_, _, sm3⟩ => sqT_same hp1 sm3) ?_ ?_
      · rintro j v σ Ho H4 hj ⟨z, rfl, sm4⟩ ⟨rfl, hv⟩
        obtain ⟨n, rfl, hn⟩ : ∃ n, v = V.int n ∧ is[j]? = some n := by
          rw [List.getElem?_map] at hv
          cases e : is[j]? with
          | none => rw [e] at hv; cases hv
          | some n => rw [e] at hv; exact ⟨n, (Option.some.inj hv).symm, rfl⟩
        have hn40 := hif n (List.mem_of_getElem? hn)
        have hlen : (TL.joinL [32] (rs[i].1 :: (is.take j).map intL)).length ≤ 11 * 42 := by
          refine Nat.le_trans (joinL_le (c := 41) fun p hp => ?_) ?_
          · rcases List.mem_cons.mp hp with e | e
            · rw [e]; omega
            · obtain ⟨n, hn, rfl⟩ := List.mem_map.mp e
              exact intL_len (hif n (List.mem_of_mem_take hn))
          · refine Nat.mul_le_mul_right _ ?_
            rw [List.length_cons, List.length_map, List.length_take]
            omega
        have hnl := intL_len hn40
        have eS : (S (TL.joinL [32] (rs[i].1 :: (is.take j).map intL)) ++ Str.ofString " ") ++ Str.ofString (toString n) = S (TL.joinL [32] (rs[i].1 :: (is.take (j + 1)).map intL)) := by
          rw [str_S, show (Str.ofString " ") = S [32] from by decide +kernel]
          rw [show S (TL.joinL [32] (rs[i].1 :: (is.take j).map intL)) ++ S [32] = S (TL.joinL [32] (rs[i].1 :: (is.take j).map intL) ++ [32]) from SX.S_cat _ _]
          rw [show S (TL.joinL [32] (rs[i].1 :: (is.take j).map intL) ++ [32]) ++ S (intL n) = S ((TL.joinL [32] (rs[i].1 :: (is.take j).map intL) ++ [32]) ++ intL n) from SX.S_cat _ _]
          congr 1
          rw [List.append_assoc, List.take_succ, hn, List.map_append, ← List.cons_append]
          exact (join_snoc 32 (intL n) _ (List.cons_ne_nil _ _)).symm
        refine ⟨_, rfl, _, _, rfl, rfl, ?_, _, rfl, _, rfl, log_small hn40, _, _, rfl, rfl, ?_, ?_⟩
        · rw [len_S, show (Str.ofString " ").length = 1 from by decide, sizeLine_eq]
          omega
        · rw [show (S (TL.joinL [32] (rs[i].1 :: (is.take j).map intL)) ++ Str.ofString " ") = S (TL.joinL [32] (rs[i].1 :: (is.take j).map intL) ++ [32]) from by
            rw [show (Str.ofString " ") = S [32] from by decide +kernel]
            exact SX.S_cat _ _]
          rw [str_S, len_S, len_S, List.length_append, List.length_singleton, sizeLine_eq]
          omega
        · rw [eS]
          exact ⟨_, rfl, sm4⟩
      · rintro σ H4 ⟨z, rfl, sm4⟩
        rw [List.length_map, List.take_length, ← fit_text eis]
        have hL4 := sm4 _ _ (S3 _ _ hL)
        have S4 := sm.trans (S3.trans sm4)
        refine ⟨_, rfl, .inl ⟨rfl, _, .inl (.inl hL4)⟩, _, rfl, L, _, _, rfl, rfl, hL4, ?_, ?_⟩
        · rw [List.length_map, hls, List.length_map, List.length_take]
          exact small1000 (by omega)
        · refine ⟨_, _, _, ls ++ [rowText rs[i]], rfl, same_put S4 nL, ?_, ?_⟩
          · rw [upd_same, List.map_append]
            rfl
          · rw [List.take_succ, hri, hls, List.map_append]
            rfl
    · rintro σ H2 ⟨x, y, z, ls, rfl, sm, hL, hls⟩
      rw [← hl, List.take_length] at hls
      refine ⟨⟨_, rfl⟩, _, rfl, _, L, ls.map S, rfl, rfl, .inl (.inl (.inl ?_)), ?_, ?_⟩
      · rw [hL, List.map_map]
        rfl
      · refine join_fits (c := 1000) (fun l hl' => ?_) ?_
        · rw [hls] at hl'
          obtain ⟨r, hr2, rfl⟩ := List.mem_map.mp hl'
          exact Nat.le_trans (row_len (hfit r hr2)) (by decide)
        · rw [show (Str.ofString "\n").length = 1 from by decide, hls, List.length_map]
          omega
      · rw [show Txt.join (Str.ofString "\n") (ls.map S) = S (TL.joinL [10] ls) from by
          rw [show (Str.ofString "\n") = S [10] from by decide +kernel]
          exact join_S _ _, hls]
        exact q H2 sm
end
end R15

set_option Elab.async false
set_option linter.all false
set_option maxRecDepth 100000
set_option maxHeartbeats 2000000
set_option exponentiation.threshold 2000
/-! Rows with great fractions. -/
namespace R16
open PySem PySem.Spec PyProof.Rows L2 Cau Dr65 R0 R3 R4 R5 R6 R7 R8 R9 R10 R11 R12 R13 R14 R15
abbrev sLong : Stmt := topS 41
theorem pow25 : CPow 10 25 := ⟨by decide, by decide, by decide⟩
theorem pow20 : CPow 10 20 := ⟨by decide, by decide, by decide⟩
theorem big25 : ((10 : Int) ^ (25 : Int).toNat).natAbs < 2 ^ 1000 := Nat.lt_of_lt_of_le (show _ < 2 ^ 100 by decide +kernel) (Nat.pow_le_pow_right (by decide) (by decide))
theorem big20 : ((10 : Int) ^ (20 : Int).toNat).natAbs < 2 ^ 1000 := Nat.lt_of_lt_of_le (show _ < 2 ^ 100 by decide +kernel) (Nat.pow_le_pow_right (by decide) (by decide))
def spLong (K : PySem.W.Frag) : Sp := fun vs H Q _ => ∃ (a w c : Addr) (T : Nat), vs = [.ref a] ∧ St H a w c T ∧ T ≤ 800000 ∧
  ∀ (H' : Hp) L rs T', Kept a w H H' → St H' a w c T' → T' ≤ T + 200 → H L = none → L ≠ a ∧ L ≠ w ∧ L ≠ c → RowsL K H' L rs → goodRows rs = true → (∀ r ∈ rs, slimRow r) → rs.length ≤ 10 → Q (.ref L) H'
/-- a row may get a great fraction -/
def tGreat (K : PySem.W.Frag) (a w c : Addr) : TS := fun D σ H => ∃ (x1 x2 x4 : Option V) (y : Addr) (r : Rw) (T : Nat), σ = [some (.ref a), x1, x2, some (.ref y), x4] ∧ St H a w c T ∧ T ≤ 990000 ∧ SqT K H y (itemsV r) ∧ slimRow r ∧
  ∀ H' y' x4' r' T', Kept a w H H' → St H' a w c T' → T' ≤ T + 4 → SqT K H' y' (itemsV r') → slimRow r' → (∀ n, goodRow r n = true → goodRow r' n = true) → D.nx [some (.ref a), x1, x2, some (.ref y'), x4'] H'
theorem good_get : ∀ {rs : List Rw} {n i : Nat} {r : Rw}, goodFrom rs n = true → rs[i]? = some r → goodRow r (n + i) = true
  | q :: rs, n, 0, r, h, e => by
    have h' : (goodRow q n && goodFrom rs (n + 1)) = true := h
    rw [Bool.and_eq_true] at h'
    cases (show q = r from Option.some.inj e)
    exact h'.1
  | q :: rs, n, i + 1, r, h, e => by
    have h' : (goodRow q n && goodFrom rs (n + 1)) = true := h
    rw [Bool.and_eq_true] at h'
    have := good_get (i := i) h'.2 e
    rwa [show n + 1 + i = n + (i + 1) from by omega] at this
section
variable {P : Program} {w : World} {K : PySem.W.Frag} {mg : Str → Option Value} {base : Heap}
def loN : List Str := ["state", "words", "found", "row", "top"]
theorem scLo : FnScope loN ["state"] (defScope sLong) := ⟨rfl, rfl, rfl, by decide +kernel, rfl, by decide +kernel, by decide +kernel⟩
theorem ok_long {f fR fP fD : Addr} {fd fdR fdP fdD : FuncData} (F : Fun K "_law_long_rows" "_law_long_rows" sLong f fd)
    (FR : Fun K "_law_drawn_rows" "_law_drawn_rows" sDrawnRows fR fdR) (GR : FnOk P w K mg base CX0 4 fR fdR ["state", "words", "size", "most"] (spDrawn K)) (bR : Binds K fdR ["state", "words", "size", "most"] []) (gR : mg "_law_drawn_rows" = some (.ref fR))
    (FP : Fun K "_law_pick" "_law_pick" sPick fP fdP) (GP : FnOk P w K mg base CX0 3 fP fdP ["state", "some"] (R14.spPick K)) (bP : Binds K fdP ["state", "some"] []) (gP : mg "_law_pick" = some (.ref fP))
    (FD : Fun K "_law_draw" "_law_draw" sDraw fD fdD) (GD : FnOk P w K mg base CX0 2 fD fdD ["state", "size"] spDraw) (bD : Binds K fdD ["state", "size"] []) (gD : mg "_law_draw" = some (.ref fD)) : FnOk P w K mg base CX0 5 f fd ["state"] (spLong K) := by
  refine F.ok scLo (fun vs H Q E h => ?_) (fun cdv A outer s H vs Q E hr h => ?_)
  · obtain ⟨a, w, c, T, rfl, _⟩ := h
    rfl
  · obtain ⟨a, w, c, T, rfl, hSt, hT, q⟩ := h
    have hr2 : Room 2 _ := hr.mono (by decide)
    have hr3 : Room 3 _ := hr.mono (by decide)
    refine ⟨_, pss_cons (ps_set (i := 1) scLo.nd rfl (.inl rfl) (pe_lst (pa_cons pe_str (pa_cons pe_str (pa_cons pe_str (pa_cons pe_str (pa_cons pe_str (pa_cons pe_str (pa_cons pe_str pa_nil)))))))))
      (pss_cons (ps_set (i := 2) scLo.nd rfl (.inl rfl) (pe_lst pa_nil))
      (pss_cons (ps_for PassesOwn.never rfl (pi_list (pe_call GR hr (by rfl) gR FR.kp bR .nil pass0 (pa_cons (pv 0) (pa_cons (pv 1) (pa_cons (pe_op op_add pe_int (pe_call GD hr2 (by rfl) gD FD.kp bD .nil pass0 (pa_cons (pv 0) (pa_cons pe_int pa_nil)))) (pa_cons pe_int pa_nil)))))) (pg_name (i := 3) scLo.nd rfl (.inl rfl))
        (pss_cons (ps_weak (t' := tGreat K a w c) (ps_if (PW.pt (pw_and (pt_cmpR op_eq (pe_ix ix_tup (pv 3) pe_int (fun _ _ => rfl)) pe_str (nomark _)) (pw_and1 (pt_cmpR op_eq (pe_call GD hr2 (by rfl) gD FD.kp bD .nil pass0 (pa_cons (pv 0) (pa_cons pe_int pa_nil))) pe_int (nomark _)))))
            (pss_cons (ps_set (i := 4) scLo.nd rfl (.inl rfl) (pe_op op_sub (pe_call GD hr2 (by rfl) gD FD.kp bD .nil pass0 (pa_cons (pv 0) (pa_cons (pe_op op_pow pe_int pe_int) pa_nil))) (pe_call GP hr3 (by rfl) gP FP.kp bP .nil pass0 (pa_cons (pv 0) (pa_cons (pe_lst (pa_cons pe_int (pa_cons (pe_op op_pow pe_int pe_int) pa_nil))) pa_nil)))))
            (pss_one (ps_set (i := 3) scLo.nd rfl (.inl rfl) (pe_tup (pa_cons pe_str (pa_cons (pv 4) (pa_cons (pe_op op_add pe_int (pe_call GD hr2 (by rfl) gD FD.kp bD .nil pass0 (pa_cons (pv 0) (pa_cons (pe_op op_pow pe_int pe_int) pa_nil)))) pa_nil))))))) pss_nil) ?great)
        (pss_one (ps_expr (pe_bm PySem.F.plainAttrs_list PySem.F.slot_list_append PySem.F.type_list_append mt_append (pv 2) (pa_cons (pv 3) pa_nil))))))
      (pss_one (ps_ret (pv 2))))), ?main⟩
    case great =>
      rintro D σ H2 ⟨x1, x2, x4, y, r, T2, rfl, hS2, hT2, hy, hf, q2⟩
      refine ⟨_, rfl, y, _, 0, _, rfl, rfl, hy, atI_nat (j := 0) rfl, rfl, _, rfl, ?_⟩
      refine ite2 (fun _ => ?_) (fun _ => q2 H2 y x4 r T2 (Kept.of same_rfl) hS2 (by omega) hy hf fun n h => h)
      refine ⟨_, rfl, a, w, c, T2, _, rfl, hS2, by omega, by decide, pow1000 (n := 2) (by decide), fun H3 d3 h0 h1 k3 hS3 => ?_⟩
      refine ⟨rfl, _, rfl, ?_⟩
      refine ite2 (fun _ => ?_) (fun _ => q2 H3 y x4 r (T2 + 1) k3 hS3 (by omega) (TK.kept hS2 k3 _ _ hy) hf fun n h => h)
      refine ⟨_, rfl, 10, 25, rfl, rfl, pow25, a, w, c, T2 + 1, _, rfl, hS3, by omega, by decide, big25, fun H4 d4 h2 h3 k4 hS4 => ?_⟩
      refine ⟨_, rfl, 10, 25, rfl, rfl, pow25, by show 2 ≤ sizeLine; decide, fun l nl => ?_⟩
      have ol := St.off hS4 nl
      refine ⟨a, w, c, l, T2 + 2, _, rfl, St.put hS4 ol, by omega, .inl (.inl upd_same), ol.1, ol.2.1, by show 0 < 2; decide, by show 2 ≤ 1000; decide, fun H5 v5 hv5 k5 hS5 => ?_⟩
      obtain ⟨i5, rfl, h5a, h5b⟩ : ∃ i5 : Int, v5 = .int i5 ∧ 0 ≤ i5 ∧ i5 ≤ 10 ^ 25 := by
        rcases List.mem_cons.mp hv5 with rfl | hv5
        · exact ⟨0, rfl, by decide, by decide⟩
        · rcases List.mem_cons.mp hv5 with rfl | hv5
          · exact ⟨10 ^ 25, rfl, by decide, by decide⟩
          · cases hv5
      have k25 : Kept a w H2 H5 := k3.trans (k4.trans (Kept.sameL (same_upd nl) k5))
      refine ⟨_, _, rfl, rfl, ?_⟩
      refine ⟨_, rfl, _, rfl, 10, 20, rfl, rfl, pow20, a, w, c, T2 + 2 + 1, _, rfl, hS5, by omega, by decide, big20, fun H6 d6 h6a h6b k6 hS6 => ?_⟩
      refine ⟨_, _, rfl, rfl, by show 3 ≤ sizeLine; decide, fun t nt => ?_⟩
      have ot := St.off hS6 nt
      have h3' : d4 < 10 ^ 25 := h3
      have h6' : d6 < 10 ^ 20 := h6b
      refine q2 _ t _ (W "fraction", [some (d4 - i5), some (1 + d6)]) (T2 + 4) ((k25.trans k6).trans (Kept.of (same_upd nt))) (St.put hS6 ot) (Nat.le_refl _) (.inl (.inl upd_same)) ?_ ?_
      · refine slim_of (u := W "fraction") (is := [d4 - i5, 1 + d6]) (by decide +kernel) (by show 2 ≤ 2; decide) fun z hz => ?_
        rcases List.mem_cons.mp hz with rfl | hz
        · omega
        · rw [List.mem_singleton.mp hz]
          omega
      · intro n _
        unfold goodRow
        rw [if_pos rfl]
        exact decide_eq_true (by omega)
    case main =>
      refine ⟨by show 7 ≤ sizeLine; decide, fun pW nW => ?_⟩
      have oW := St.off hSt nW
      have hS1 := St.put (o := .lst ([W "fraction", W "plus", W "minus", W "times", W "over", W "hyp", W "root"].map strS)) hSt oW
      refine ⟨Nat.zero_le _, fun L nL => ?_⟩
      have oL := St.off hS1 nL
      have WL : pW ≠ L := fun z => by rw [← z, upd_same] at nL; cases nL
      have nL0 : H L = none := same_none (same_upd nW) nL
      have hS2 := St.put (o := .lst []) hS1 oL
      refine ⟨_, rfl, _, rfl, _, rfl, a, w, c, T, _, rfl, hS2, by omega, by decide, pow1000 (n := 10) (by decide), fun H3 d3 h0 h1 k3 hS3 => ?_⟩
      obtain ⟨n3, rfl⟩ : ∃ n3 : Nat, d3 = (n3 : Int) := ⟨d3.toNat, by omega⟩
      have hW1 : (upd (upd H pW (.lst ([W "fraction", W "plus", W "minus", W "times", W "over", W "hyp", W "root"].map strS))) L (.lst [])) pW = some (.lst ([W "fraction", W "plus", W "minus", W "times", W "over", W "hyp", W "root"].map strS)) := (upd_ne WL).trans upd_same
      have hW3 := k3 _ _ hW1 oW.1 oW.2.1
      have k03 : Kept a w H H3 := Kept.sameL ((same_upd nW).trans (same_upd nL)) k3
      have hL3 := k3 _ _ (upd_same (H := upd H pW (.lst ([W "fraction", W "plus", W "minus", W "times", W "over", W "hyp", W "root"].map strS))) (a := L) (o := .lst [])) oL.1 oL.2.1
      refine ⟨_, _, rfl, rfl, a, w, c, pW, T + 1, 1 + n3, 9, [W "fraction", W "plus", W "minus", W "times", W "over", W "hyp", W "root"], rfl, hS3, by omega, .inl (.inl hW3), oW.1, oW.2.1, by decide, by decide, by decide +kernel, by omega, fun H4 L1 rs1 T4 k4 hS4 hT4 nL1 oL1 hR1 hg1 hf1 hl1 => ?_⟩
      obtain ⟨xs1, hx1, hxl1, hrow1⟩ := hR1
      have hL4 := k4 _ _ hL3 oL.1 oL.2.1
      have L1L : L1 ≠ L := fun z => by rw [z, hL3] at nL1; cases nL1
      refine ⟨L1, rfl, ⟨_, .inl (.inl hx1)⟩, ?_⟩
      refine for_it (walk_list (K := K) (a := L1) (xs := xs1)) (fun i σ H' => ∃ (x3 x4 : Option V) (xs : List V) (rs : List Rw) (T' : Nat), σ = [some (.ref a), some (.ref pW), some (.ref L), x3, x4] ∧ Kept a w H H' ∧ St H' a w c T' ∧ T' ≤ T4 + 4 * i ∧ H' L = some (.lst xs) ∧ H' L1 = some (.lst xs1) ∧ TK K H4 H' ∧ rs.length = xs.length ∧ (∀ (j : Nat) v r, xs[j]? = some v → rs[j]? = some r → RowV K H' v r) ∧ xs.length = i ∧ goodFrom rs 0 = true ∧ ∀ r ∈ rs, slimRow r)
        ⟨none, none, [], [], T4, rfl, k03.trans k4, hS4, by omega, hL4, hx1, TK.of same_rfl, rfl, fun j v r e => (by cases e), rfl, rfl, fun r hr => (by cases hr)⟩ (fun i σ H' _ ⟨_, _, _, _, _, _, _, _, _, _, h1, _⟩ => .inl (.inl h1)) ?_ ?_
      · rintro i v σ Ho H5 hi ⟨x3, x4, xs, rs, T5, rfl, k5, hS5, hT5, hL5, hx5, tk5, hrl, hrow, hxl, hg, hfit⟩ ⟨rfl, hv⟩
        have hi' : i < rs1.length := by omega
        have hri : rs1[i]? = some rs1[i] := List.getElem?_eq_getElem hi'
        obtain ⟨y, rfl, hy⟩ := hrow1 i v _ hv hri
        have hgi := good_get hg1 hri
        rw [Nat.zero_add] at hgi
        refine ⟨_, _, _, y, rs1[i], T5, rfl, hS5, by omega, tk5 _ _ hy, hf1 _ (List.getElem_mem _), fun H6 y' x4' r' T6 k6 hS6 hT6 hy' hf' hg' => ?_⟩
        have hL6 := k6 _ _ hL5 oL.1 oL.2.1
        have hx6 := k6 _ _ hx5 oL1.1 oL1.2.1
        refine ⟨_, rfl, .inl ⟨rfl, _, .inl (.inl hL6)⟩, _, rfl, L, xs, _, rfl, rfl, hL6, small1000 (by omega), ?_⟩
        have tk : TK K H5 (upd H6 L (.lst (xs ++ [.ref y']))) := (TK.kept hS5 k6).trans (TK.put hL6)
        refine ⟨_, _, xs ++ [.ref y'], rs ++ [r'], T6, rfl, Kept.put (k5.trans k6) nL0, St.put hS6 oL, by omega, upd_same, (upd_ne L1L).trans hx6, tk5.trans tk, by rw [List.length_append, List.length_append, hrl]; rfl, fun j v q e1 e2 => ?_, by rw [List.length_append, hxl]; rfl, ?_, fun q hq => ?_⟩
        · by_cases hj : j < i
          · rw [List.getElem?_append_left (by omega)] at e1 e2
            exact rowV_tk (hrow j v q e1 e2) tk
          · rw [List.getElem?_append_right (by omega)] at e1 e2
            have hj0 : j - xs.length = 0 := by
              have := (List.getElem?_eq_some_iff.mp e1).1
              rw [List.length_singleton] at this
              omega
            rw [hrl] at e2
            rw [hj0] at e1 e2
            cases (show V.ref y' = v from Option.some.inj e1)
            cases (show r' = q from Option.some.inj e2)
            exact ⟨y', rfl, TK.put hL6 _ _ hy'⟩
        · rw [goodFrom_app, hg, hrl, hxl, Nat.zero_add]
          show (true && (goodRow r' i && true)) = true
          rw [hg' i hgi]
          rfl
        · rcases List.mem_append.mp hq with z | z
          · exact hfit q z
          · rw [List.mem_singleton.mp z]
            exact hf'
      · rintro σ H5 ⟨x3, x4, xs, rs, T5, rfl, k5, hS5, hT5, hL5, hx5, tk5, hrl, hrow, hxl, hg, hfit⟩
        have hpos : rs ≠ [] := fun z => by
          rw [z] at hrl
          have : (0 : Nat) = xs.length := hrl
          omega
        refine ⟨_, rfl, q H5 L rs T5 k5 hS5 (by omega) nL0 ?_ ⟨xs, hL5, hrl, hrow⟩ ?_ hfit (by omega)⟩
        · exact oL
        · unfold goodRows
          rw [hg]
          cases rs with
          | nil => exact absurd rfl hpos
          | cons => rfl
end
end R16

set_option Elab.async false
set_option linter.all false
set_option maxRecDepth 100000
set_option maxHeartbeats 2000000
set_option exponentiation.threshold 2000
/-! A text with one change. -/
namespace R17
open PySem PySem.Spec PyProof.Rows L2 Cau Dr65 R0 R3 R4 R5 R6 R7 R8 R9 R10 R11 R12 R13 R14 R15 R16
abbrev sBent : Stmt := topS 42
theorem join_asc {s : Nat} {ls : List CL} (hs : s < 256) (h : ∀ p ∈ ls, asc p) : asc (TL.joinL [s] ls) := fun c hc => by
  rcases joinL_mem hc with z | ⟨p, hp, z⟩
  · rw [List.mem_singleton.mp z]
    exact hs
  · exact h p hp c z
theorem join_perm {s : Nat} {ls qs : List CL} (h : ls.Perm qs) : (TL.joinL [s] ls).length = (TL.joinL [s] qs).length := by
  by_cases e : ls = []
  · subst e
    rw [List.nil_perm.mp h]
  · have e2 : qs ≠ [] := fun z => e (by rw [z] at h; exact List.perm_nil.mp h)
    have h1 := (joinL_len ls s).resolve_right e
    have h2 := (joinL_len qs s).resolve_right e2
    have := (h.map fun p => p.length + 1).sum_nat
    omega
theorem ins_perm {α : Type} {ls : List α} {j : Nat} (i : Nat) (h : j < ls.length) : ((ls.eraseIdx j).take i ++ [ls[j]] ++ (ls.eraseIdx j).drop i).Perm ls := by
  rw [List.append_assoc]
  refine List.Perm.trans (List.perm_append_comm) ?_
  show (ls[j] :: ((ls.eraseIdx j).drop i ++ (ls.eraseIdx j).take i)).Perm ls
  refine List.Perm.trans (List.Perm.cons _ List.perm_append_comm) ?_
  rw [List.take_append_drop]
  exact perm_erase ls j h
def spBent : Sp := fun vs H Q _ => ∃ (a w c : Addr) (T : Nat) (l : CL), vs = [.ref a, strS l] ∧ St H a w c T ∧ T ≤ 900000 ∧ l.length ≤ 850 ∧ asc l ∧
  ∀ (H' : Hp) l' T', Kept a w H H' → St H' a w c T' → T' ≤ T + 5 → l'.length ≤ l.length + 1 → asc l' → Q (strS l') H'
section
variable {P : Program} {w : World} {K : PySem.W.Frag} {mg : Str → Option Value} {base : Heap}
def beN : List Str := ["state", "text", "spot", "way", "sign", "lines"]
theorem scBe : FnScope beN ["state", "text"] (defScope sBent) := ⟨rfl, rfl, rfl, by decide +kernel, rfl, by decide +kernel, by decide +kernel⟩
theorem ok_bent {f fP fD : Addr} {fd fdP fdD : FuncData} (F : Fun K "_law_bent" "_law_bent" sBent f fd)
    (FP : Fun K "_law_pick" "_law_pick" sPick fP fdP) (GP : FnOk P w K mg base CX0 3 fP fdP ["state", "some"] (R14.spPick K)) (bP : Binds K fdP ["state", "some"] []) (gP : mg "_law_pick" = some (.ref fP))
    (FD : Fun K "_law_draw" "_law_draw" sDraw fD fdD) (GD : FnOk P w K mg base CX0 2 fD fdD ["state", "size"] spDraw) (bD : Binds K fdD ["state", "size"] []) (gD : mg "_law_draw" = some (.ref fD)) (mlen : mg "len" = none) : FnOk P w K mg base CX0 4 f fd ["state", "text"] spBent := by
  refine F.ok scBe (fun vs H Q E h => ?_) (fun cdv A outer s H vs Q E hr h => ?_)
  · obtain ⟨a, w, c, T, l, rfl, _⟩ := h
    rfl
  · obtain ⟨a, w, c, T, l, rfl, hSt, hT, hl, hasc, q⟩ := h
    have hr2 : Room 2 _ := hr.mono (by decide)
    refine ⟨_, pss_cons (ps_par (i := 2) (j := 3) rfl scBe.nd rfl rfl (by decide) rfl rfl
        (pa_cons (pe_call GD hr2 (by rfl) gD FD.kp bD .nil pass0 (pa_cons (pv 0) (pa_cons (pe_op op_add (pe_callB call_len_str (by rfl) mlen PySem.boot_len (pa_cons (pv 1) pa_nil)) pe_int) pa_nil)))
        (pa_cons (pe_call GD hr2 (by rfl) gD FD.kp bD .nil pass0 (pa_cons (pv 0) (pa_cons pe_int pa_nil))) pa_nil)) (by rfl))
      (pss_cons (ps_set (i := 4) scBe.nd rfl (.inl rfl) (pe_call GP hr (by rfl) gP FP.kp bP .nil pass0 (pa_cons (pv 0) (pa_cons (pe_lst (pa_cons pe_str (pa_cons pe_str (pa_cons pe_str (pa_cons pe_str (pa_cons pe_str (pa_cons pe_str (pa_cons pe_str (pa_cons pe_str (pa_cons pe_str (pa_cons pe_str pa_nil))))))))))) pa_nil))))
      (pss_cons (ps_if (pt_cmpR op_eq (pv 3) pe_int (nomark _)) (pss_one (ps_ret (pe_op op_add_str (pe_op op_add_str (pe_slice C8.sl_txt (pv 1) po_none (po_some (pv 2))) (pv 4)) (pe_slice C8.sl_txt (pv 1) (po_some (pv 2)) po_none)))) pss_nil)
      (pss_cons (ps_if (pt_cmpR op_eq (pv 3) pe_int (nomark _)) (pss_one (ps_ret (pe_op op_add_str (pe_slice C8.sl_txt (pv 1) po_none (po_some (pv 2))) (pe_slice C8.sl_txt (pv 1) (po_some (pe_op op_add (pv 2) pe_int)) po_none)))) pss_nil)
      (pss_cons (ps_if (pt_cmpR op_eq (pv 3) pe_int (nomark _)) (pss_one (ps_ret (pe_op op_add_str (pe_op op_add_str (pe_slice C8.sl_txt (pv 1) po_none (po_some (pv 2))) (pv 4)) (pe_slice C8.sl_txt (pv 1) (po_some (pe_op op_add (pv 2) pe_int)) po_none)))) pss_nil)
      (pss_cons (ps_set (i := 5) scBe.nd rfl (.inl rfl) (pe_split (pv 1) pe_str))
      (pss_cons (ps_expr (pe_bm PySem.F.plainAttrs_list PySem.F.slot_list_insert PySem.F.type_list_insert mt_insert (pv 5) (pa_cons
          (pe_call GD hr2 (by rfl) gD FD.kp bD .nil pass0 (pa_cons (pv 0) (pa_cons (pe_callB call_len_seq (by rfl) mlen PySem.boot_len (pa_cons (pv 5) pa_nil)) pa_nil)))
          (pa_cons (pe_bm PySem.F.plainAttrs_list PySem.F.slot_list_pop PySem.F.type_list_pop mt_popAt (pv 5) (pa_cons (pe_call GD hr2 (by rfl) gD FD.kp bD .nil pass0 (pa_cons (pv 0) (pa_cons (pe_callB call_len_seq (by rfl) mlen PySem.boot_len (pa_cons (pv 5) pa_nil)) pa_nil))) pa_nil)) pa_nil))))
      (pss_one (ps_ret (pe_join pe_str (pv 5)))))))))), ?_⟩
    have hSl : (S l).length ≤ sizeLine := by rw [len_S, sizeLine_eq]; omega
    refine ⟨_, rfl, _, rfl, _, rfl, hSl, _, _, rfl, rfl, a, w, c, T, _, rfl, hSt, by omega, by omega, ?_, fun H1 d h0 h1 k1 hS1 => ?_⟩
    · rw [len_S]
      exact pow1000 (n := l.length + 1) (by omega)
    obtain ⟨i, rfl⟩ : ∃ i : Nat, d = (i : Int) := ⟨d.toNat, by omega⟩
    rw [len_S] at h1
    have hi : i ≤ l.length := by omega
    refine ⟨_, rfl, a, w, c, T + 1, _, rfl, hS1, by omega, by decide, pow1000 (n := 4) (by decide), fun H2 d2 h2 h3 k2 hS2 => ?_⟩
    refine ⟨_, _, rfl, _, rfl, by show 10 ≤ sizeLine; decide, fun l1 nl1 => ?_⟩
    have o1 := St.off hS2 nl1
    refine ⟨a, w, c, l1, T + 2, _, rfl, St.put hS2 o1, by omega, .inl (.inl upd_same), o1.1, o1.2.1, by show 0 < 10; decide, by show 10 ≤ 1000; decide, fun H3 v hv k3 hS3 => ?_⟩
    have k03 : Kept a w H H3 := k1.trans (k2.trans (Kept.sameL (same_upd nl1) k3))
    obtain ⟨g, rfl, hg⟩ : ∃ g : Nat, v = strS [g] ∧ g < 256 := by
      have all : ∀ x ∈ [" ", "\n", "0", "1", "-", "+", "t", "7", "~", "x"].map fun s => V.str (Str.ofString s), ∃ g : Nat, x = strS [g] ∧ g < 256 := by
        intro x hx
        obtain ⟨s, hs, rfl⟩ := List.mem_map.mp hx
        have h2 : ∀ s ∈ [" ", "\n", "0", "1", "-", "+", "t", "7", "~", "x"], Str.ofString s = S [(W s).headD 0] ∧ (W s).headD 0 < 256 := by decide +kernel
        exact ⟨(W s).headD 0, by rw [(h2 s hs).1]; rfl, (h2 s hs).2⟩
      exact all v hv
    have eTo : Txt.slice (S l) none (some (i : Int)) = S (l.take i) := SX.slice_to (a := l) (i := (i : Int)) (by omega)
    have eFr : Txt.slice (S l) (some (i : Int)) none = S (l.drop i) := SX.slice_from (a := l) (i := (i : Int)) (by omega)
    have eFr1 : Txt.slice (S l) (some ((i : Int) + 1)) none = S (l.drop (i + 1)) := SX.slice_from (a := l) (i := (i : Int) + 1) (by omega)
    have lTo : (S (l.take i)).length = i := by rw [len_S, List.length_take]; omega
    have lFr : (S (l.drop i)).length = l.length - i := by rw [len_S, List.length_drop]
    have lFr1 : (S (l.drop (i + 1))).length = l.length - (i + 1) := by rw [len_S, List.length_drop]
    have cat : ∀ x y : CL, S x ++ S y = S (x ++ y) := fun x y => SX.S_cat x y
    have aTo : ∀ c ∈ l.take i, c < 256 := fun c hc => hasc c (List.mem_of_mem_take hc)
    have aDr : ∀ j, ∀ c ∈ l.drop j, c < 256 := fun j c hc => hasc c (List.mem_of_mem_drop hc)
    have small : ∀ n : Nat, n ≤ 2000 → n ≤ sizeLine := fun n h => by rw [sizeLine_eq]; omega
    refine ⟨_, rfl, rfl, _, rfl, ite2 (fun _ => ?_) (fun _ => ?_)⟩
    · refine ⟨_, rfl, _, rfl, _, rfl, _, rfl, hSl, ?_⟩
      rw [eTo]
      refine ⟨_, rfl, _, _, rfl, rfl, ?_, ?_⟩
      · rw [lTo, len_S]; exact small _ (by show i + 1 ≤ 2000; omega)
      refine ⟨_, rfl, _, rfl, _, rfl, _, rfl, hSl, ?_⟩
      rw [eFr, cat]
      refine ⟨_, _, rfl, rfl, ?_, ?_⟩
      · rw [lFr, len_S, List.length_append, List.length_take, List.length_singleton]; exact small _ (by omega)
      rw [cat]
      refine q H3 _ (T + 3) k03 hS3 (by omega) ?_ ?_
      · rw [List.length_append, List.length_append, List.length_take, List.length_drop, List.length_singleton]; omega
      · intro c hc
        rcases List.mem_append.mp hc with hc | hc
        · rcases List.mem_append.mp hc with hc | hc
          · exact aTo c hc
          · rw [List.mem_singleton.mp hc]; exact hg
        · exact aDr i c hc
    refine ⟨_, rfl, rfl, _, rfl, ite2 (fun _ => ?_) (fun _ => ?_)⟩
    · refine ⟨_, rfl, _, rfl, _, rfl, _, rfl, hSl, ?_⟩
      rw [eTo]
      refine ⟨_, rfl, _, rfl, _, _, rfl, rfl, _, rfl, _, rfl, hSl, ?_⟩
      rw [eFr1]
      refine ⟨_, _, rfl, rfl, ?_, ?_⟩
      · rw [lTo, lFr1]; exact small _ (by omega)
      rw [cat]
      refine q H3 _ (T + 3) k03 hS3 (by omega) ?_ ?_
      · rw [List.length_append, List.length_take, List.length_drop]; omega
      · intro c hc
        rcases List.mem_append.mp hc with hc | hc
        · exact aTo c hc
        · exact aDr (i + 1) c hc
    refine ⟨_, rfl, rfl, _, rfl, ite2 (fun _ => ?_) (fun _ => ?_)⟩
    · refine ⟨_, rfl, _, rfl, _, rfl, _, rfl, hSl, ?_⟩
      rw [eTo]
      refine ⟨_, rfl, _, _, rfl, rfl, ?_, ?_⟩
      · rw [lTo, len_S]; exact small _ (by show i + 1 ≤ 2000; omega)
      refine ⟨_, rfl, _, rfl, _, _, rfl, rfl, _, rfl, _, rfl, hSl, ?_⟩
      rw [eFr1, cat]
      refine ⟨_, _, rfl, rfl, ?_, ?_⟩
      · rw [lFr1, len_S, List.length_append, List.length_take, List.length_singleton]; exact small _ (by omega)
      rw [cat]
      refine q H3 _ (T + 3) k03 hS3 (by omega) ?_ ?_
      · rw [List.length_append, List.length_append, List.length_take, List.length_drop, List.length_singleton]; omega
      · intro c hc
        rcases List.mem_append.mp hc with hc | hc
        · rcases List.mem_append.mp hc with hc | hc
          · exact aTo c hc
          · rw [List.mem_singleton.mp hc]; exact hg
        · exact aDr (i + 1) c hc
    refine ⟨_, rfl, ⟨_, rfl⟩, _, _, rfl, rfl, by decide, by rw [len_S, sizeLine_eq]; omega, ?_⟩
    rw [show (Str.ofString "\n" : Str) = S [10] from by decide +kernel, split_S l (by decide)]
    intro pl npl
    have hne := spl_ne [10] l 0 []
    have hll := spl_len [10] l 0 []
    have hal : ∀ x ∈ TL.spl [10] 0 [] l, asc x := fun x hx => asc_part hasc hx
    have hjl : (TL.joinL [10] (TL.spl [10] 0 [] l)).length = l.length := by
      have h1 := (joinL_len (TL.spl [10] 0 [] l) 10).resolve_right hne
      rw [spl_sum] at h1
      simp at h1
      omega
    have hit : ∀ x ∈ TL.spl [10] 0 [] l, x.length ≤ l.length := fun x hx => by
      have := spl_item 10 l [] x hx
      rwa [List.length_nil, Nat.zero_add] at this
    generalize TL.spl [10] 0 [] l = ls at hne hll hal hjl hit
    have hpos : 0 < ls.length := List.length_pos_iff.mpr hne
    have opl := St.off hS3 npl
    have hS4 := St.put (o := .lst ((ls.map S).map V.str)) hS3 opl
    have k04 : Kept a w H (upd H3 pl (.lst ((ls.map S).map V.str))) := k03.trans (Kept.of (same_upd npl))
    have hp4 : (upd H3 pl (.lst ((ls.map S).map V.str))) pl = some (.lst ((ls.map S).map V.str)) := upd_same
    have npl0 : H pl = none := kept_none k03 npl ⟨opl.1, opl.2.1⟩
    generalize upd H3 pl (.lst ((ls.map S).map V.str)) = H4 at hS4 k04 hp4
    have lenL : ((ls.map S).map V.str).length = ls.length := by rw [List.length_map, List.length_map]
    refine ⟨_, rfl, .inl ⟨rfl, _, .inl (.inl hp4)⟩, _, rfl, _, rfl, pl, _, rfl, .inl (.inl (.inl hp4)), a, w, c, T + 3, _, rfl, hS4, by omega, by rw [lenL]; omega, by rw [lenL]; exact pow1000 (by omega), fun H5 d5 h5a h5b k5 hS5 => ?_⟩
    have hp5 := k5 _ _ hp4 opl.1 opl.2.1
    refine ⟨_, rfl, .inl ⟨rfl, _, .inl (.inl hp5)⟩, _, rfl, _, rfl, pl, _, rfl, .inl (.inl (.inl hp5)), a, w, c, T + 4, _, rfl, hS5, by omega, by rw [lenL]; omega, by rw [lenL]; exact pow1000 (by omega), fun H6 d6 h6a h6b k6 hS6 => ?_⟩
    have hp6 := k6 _ _ hp5 opl.1 opl.2.1
    obtain ⟨i5, rfl⟩ : ∃ i5 : Nat, d5 = (i5 : Int) := ⟨d5.toNat, by omega⟩
    obtain ⟨j, rfl⟩ : ∃ j : Nat, d6 = (j : Int) := ⟨d6.toNat, by omega⟩
    rw [lenL] at h5b h6b
    have hj : j < ls.length := by omega
    refine ⟨pl, _, _, j, strS ls[j], rfl, rfl, hp6, by omega, by omega, ?_, ?_, ?_⟩
    · rw [lenL]
      unfold seqIndex?
      rw [if_neg (show ¬ ((j : Int) < 0) by omega)]
      simp [hj]
    · rw [List.getElem?_map, List.getElem?_map, List.getElem?_eq_getElem hj]
      rfl
    rw [map_erase, map_erase]
    have he := len_erase ls j hj
    refine ⟨pl, ((ls.eraseIdx j).map S).map V.str, (i5 : Int), strS ls[j], rfl, rfl, upd_same, ?_, by omega, by omega, ?_⟩
    · rw [List.length_map, List.length_map]
      exact small1000 (by omega)
    rw [upd_upd]
    have hfin : (((ls.eraseIdx j).map S).map V.str).take (i5 : Int).toNat ++ [strS ls[j]] ++ (((ls.eraseIdx j).map S).map V.str).drop (i5 : Int).toNat = ((((ls.eraseIdx j).take i5 ++ [ls[j]] ++ (ls.eraseIdx j).drop i5)).map S).map V.str := by
      rw [Int.toNat_natCast, List.map_append, List.map_append, List.map_append, List.map_append, List.map_take, List.map_take, List.map_drop, List.map_drop]
      rfl
    rw [hfin]
    have hperm := ins_perm (ls := ls) (j := j) i5 hj
    generalize (ls.eraseIdx j).take i5 ++ [ls[j]] ++ (ls.eraseIdx j).drop i5 = qs at hperm
    refine ⟨⟨_, rfl⟩, _, rfl, _, pl, qs.map S, rfl, rfl, .inl (.inl (.inl upd_same)), ?_, ?_⟩
    · refine join_fits (c := 1000) (fun p hp => ?_) ?_
      · have := hit p (hperm.mem_iff.mp hp)
        omega
      · rw [len_S, hperm.length_eq]
        show ls.length * 1001 ≤ 16777216
        omega
    rw [show Txt.join (S [10]) (qs.map S) = S (TL.joinL [10] qs) from join_S _ _]
    refine q _ (TL.joinL [10] qs) (T + 5) ?_ (St.put hS6 opl) (by omega) ?_ (join_asc (by decide) fun p hp => hal p (hperm.mem_iff.mp hp))
    · exact Kept.put ((k04.trans k5).trans k6) npl0
    · rw [join_perm hperm, hjl]
      omega
end
end R17

set_option Elab.async false
set_option linter.all false
set_option maxRecDepth 100000
set_option maxHeartbeats 2000000
set_option exponentiation.threshold 2000
/-! A text that is read right. -/
namespace R18
open PySem PySem.Spec PyProof.Rows L2 Cau Dr65 Tk CwR R0 R3 R4 R5 R6 R7 R8 R9 R10 R11 R12 R13 R14 R15 R16 R17
abbrev sRight : Stmt := topS 43
section
variable {P : Program} {w : World} {K : PySem.W.Frag} {mg : Str → Option Value} {base : Heap} {k : Nat} {f : Addr} {ps : List Str} {sp : Sp}
theorem okTL {x qual : Str} {st : Stmt} {N : List Str} {c : Addr} {od an : Option Addr} {osl : Array (Option Value)} {dV kV doc pm ct oc : Value}
    (lk : K.lookup f = some ⟨oc, od, .func (PySem.W.fnOf x qual (defArgs st) (defBody st) (defScope st) dV kV doc pm an (.ref c) ct), osl⟩) (hcd : PySem.W.codeIn K (.ref c) qual = true) (S : FnScope N ps (defScope st)) (len : ∀ vs H Q E, sp vs H Q E → vs.length = ps.length)
    (hbody : ∀ (A : Around) (outer : List Env) (s : Shared) (H : Hp) (vs : List V) (Q : VK) (E : XK), Room k (A.deeper (envOfC qual (defScope st) s.heap.objs.size f (.ref c))) → sp vs H Q E →
      ∃ t, PSsT (cxOf CX0 P w K mg base N qual (defScope st) f (.ref c) A outer s H E) (defBody st) t ∧ t { nx := fun _ H' => Q .non H', rt := Q } (start N vs) H) : FnT P w K mg base CX0 (k + 1) f (PySem.W.fnOf x qual (defArgs st) (defBody st) (defScope st) dV kV doc pm an (.ref c) ct) ps sp := by
  refine ⟨len, fun A hr outer s H h0 e0 args us vs hb r Q E h => ?_⟩
  have KX : K.In s.heap := e0.mod.kin.keeps fun b o e => (e0.bs b o e).1
  have kinds : ∀ y ∈ ps.zip us, (defScope st).names.lookup y.1 = some .local ∨ ((defScope st).names.lookup y.1 = some .cell ∧ ((cellsFrom (s.heap.objs.size + 1) (defScope st).names []).lookup y.1).isSome = true) := by
    intro y hy
    obtain ⟨n, v⟩ := y
    exact (S.par n (List.of_mem_zip hy).1).imp id fun q => ⟨q, PySem.W.cellsFrom_some _ _ _ (.inl q)⟩
  refine codeAny_call_function hr.depth (KX _ _ lk) rfl S.co S.gen rfl (PySem.W.codeRec_of KX hcd) (hb _ _ _ _ ?_)
  refine wpAny_with_toks h0 (wpAny_newFunctionEnv_cells S.kind kinds fun env he s1 x h1 => ?_)
  subst he
  obtain ⟨t, ht, q⟩ := hbody A outer s H vs Q E (hr.deeper _) h
  refine ⟨(e0.mod.nolimit.keeps fun b o e => (e0.bs b o e).1).keeps x.toInCall.keep, codeAny_func ?_⟩
  have I := inv_start (CX := CX0) (P := P) (w := w) (cd := .ref c) (H := H) (outer := outer) (E := E) S hr.hd e0 (len _ _ _ _ h) r x
  refine wpAny_mono (ht [] s1 _ H _ h1 I q) (fun fl s' hs => ?_) fun _ _ z => z
  cases fl with
  | ret v =>
    obtain ⟨y, σ', H', J, rv, q'⟩ := hs
    exact ⟨y, H', J.os, J.bare, J.base, J.hok, rv, q'⟩
  | next =>
    obtain ⟨σ', H', J, q'⟩ := hs
    exact ⟨V.non, H', J.os, J.bare, J.base, J.hok, rfl, q'⟩
  | brk => exact False.elim (hs.elim fun _ z => z.elim fun _ z => z.2)
  | cont => exact False.elim (hs.elim fun _ z => z.elim fun _ z => z.2)
end
/-- words that are too long -/
def longW (l : CL) : List CL := (wordsOf l).filter fun u => decide (30 < u.length)
def spRight (K : PySem.W.Frag) (TT : List (Addr × Str)) : Sp := fun vs H Q _ => ∃ l : CL, vs = [strS l] ∧ l.length ≤ 890 ∧ asc l ∧ LamX.Tabs TT H ∧ ∀ H', LamX.ExtN H H' → LamX.Tabs TT H' → Q (.bl true) H'
theorem repl_S (l : CL) : Txt.replace (S l) (S [10]) (S [32]) = S (TL.joinL [32] (TL.spl [10] 0 [] l)) := TL.ext_tl (repl_tl (S l))
theorem read_mem : ∀ (ls : List CL) (n : Nat), ∀ r ∈ (readFrom ls n).1, ∃ x ∈ ls, r = lineOf x
  | [], _, r, h => by cases h
  | l :: ls, n, r, h => by
    have e : (readFrom (l :: ls) n).1 = if goodRow (lineOf l) n = true then lineOf l :: (readFrom ls (n + 1)).1 else [] := by
      show (if goodRow (lineOf l) n = true then (lineOf l :: (readFrom ls (n + 1)).1, (readFrom ls (n + 1)).2) else ([], some n)).1 = _
      split <;> rfl
    rw [e] at h
    split at h
    · rcases List.mem_cons.mp h with z | z
      · exact ⟨l, List.mem_cons_self, z⟩
      · obtain ⟨x, hx, e2⟩ := read_mem ls (n + 1) r z
        exact ⟨x, List.mem_cons_of_mem _ hx, e2⟩
    · cases h
section
variable {P : Program} {w : World} {K : PySem.W.Frag} {mg : Str → Option Value} {base : Heap}
def riN : List Str := ["text", "rows", "bad", "caught", "word"]
theorem scRi : FnScope riN ["text"] (defScope sRight) := ⟨rfl, rfl, rfl, by decide +kernel, rfl, by decide +kernel, by decide +kernel⟩
theorem ok_right {f fF fO fW fC CR CB c Pt : Addr} {fdF fdO fdW : FuncData} {TT : List (Addr × Str)}
    {od an odC anC : Option Addr} {osl oslC : Array (Option Value)} {dV kV doc pm ct oc kVC docC pmC ctC ocC cdvC dVC : Value}
    (lk : K.lookup f = some ⟨oc, od, .func (PySem.W.fnOf "_law_read_right" "_law_read_right" (defArgs sRight) (defBody sRight) (defScope sRight) dV kV doc pm an (.ref c) ct), osl⟩) (hcd : PySem.W.codeIn K (.ref c) "_law_read_right" = true)
    (TB : LamX.TabB base mg c Pt) (hmT : (Pt, ((("_law_read_right" : Str) ++ ".<locals>.") ++ "<lambda>" : Str)) ∈ TT) (huT : ∀ p ∈ TT, p.1 = Pt → p.2 = (("_law_read_right" : Str) ++ ".<locals>.") ++ "<lambda>")
    (FF : Fun K "_law_first_bad_line" "_law_first_bad_line" sFirst fF fdF) (GF : FnOk P w K mg base CX0 3 fF fdF ["text"] (spFirst K)) (bF : Binds K fdF ["text"] []) (gF : mg "_law_first_bad_line" = some (.ref fF))
    (FO : Fun K "reckoning_of" "reckoning_of" sRecOf fO fdO) (GO : FnOk P w K mg base (L2.CX P w) 4 fO fdO ["text"] (spRecOf K CB)) (bO : Binds K fdO ["text"] []) (gO : mg "reckoning_of" = some (.ref fO))
    (FW : Fun K "_law_is_whole" "_law_is_whole" sLWhole fW fdW) (GW : FnOk P w K mg base CX0 1 fW fdW ["value"] spWhole) (bW : Binds K fdW ["value"] []) (gW : mg "_law_is_whole" = some (.ref fW))
    (lkC : K.lookup fC = some ⟨ocC, odC, .func (PySem.W.fnOf "_law_caught" "_law_caught" (defArgs sCaught) (defBody sCaught) (defScope sCaught) dVC kVC docC pmC anC cdvC ctC), oslC⟩) (hcdC : PySem.W.codeIn K cdvC "_law_caught" = true) (kC : PySem.W.keepIn K (.ref fC) = true)
    (bC : Binds K (PySem.W.fnOf "_law_caught" "_law_caught" (defArgs sCaught) (defBody sCaught) (defScope sCaught) dVC kVC docC pmC anC cdvC ctC) ["action"] []) (gC : mg "_law_caught" = some (.ref fC))
    (gRE : mg "RulerError" = some (.ref CR)) (gBL : mg "BadLine" = some (.ref CB)) (exm : PySem.W.exmOne K (.ref CB) (.ref CR) = some true) (kit : PySem.W.kitOne K (.ref CB) (.ref CB) = some true) (EM : ExcC K CB) (hno : PySem.W.findIn K (.ref CB) "at" = some none)
    (mi : mg "isinstance" = none) (mlen : mg "len" = none) :
    FnT P w K mg base CX0 7 f (PySem.W.fnOf "_law_read_right" "_law_read_right" (defArgs sRight) (defBody sRight) (defScope sRight) dV kV doc pm an (.ref c) ct) ["text"] (spRight K TT) := by
  refine okTL lk hcd scRi (fun vs H Q E h => ?_) (fun A outer s H vs Q E hr h => ?_)
  · obtain ⟨l, rfl, _⟩ := h
    rfl
  · obtain ⟨l, rfl, hl, hasc, hT, q⟩ := h
    have hr4 : Room 4 _ := hr.mono (by decide)
    have hr3 : Room 3 _ := hr.mono (by decide)
    have hr1 : Room 1 _ := hr.mono (by decide)
    refine ⟨_, psst_cons (pst_ifT (ptt_cmp (op_neD hr.units)
          (pet_lc (own := [("word", 4)]) (g := gName 4) rfl scRi.nd (pit_list (pet_split (pet_replC (pv 0)) pe_str))
            (blkOk_by (own := [("word", 4)]) (N := riN) (sc := defScope sRight) (by decide +kernel))
            (fun _ _ _ _ _ => pg_name (i := 4) scRi.nd rfl (.inl rfl)) (fun _ _ _ _ _ => pts_one (pt_cmpR op_gt (pe_callB call_len_str (by rfl) mlen PySem.boot_len (pa_cons (pv 4) pa_nil)) pe_int (nomark _)))
            (fun _ _ _ _ _ => pv 4)) (pe_lst pa_nil) rfl) (pss_one (ps_ret pe_bl)) pss_nil)
      (PSsT.of (pss_cons (ps_asg (pe_call GF hr3 (by rfl) gF FF.kp bF .nil pass0 (pa_cons (pv 0) pa_nil)) (pg_tup (by rfl) (pgs_cons (pg_name (i := 1) scRi.nd rfl (.inl rfl)) (pgs_cons (pg_name (i := 2) scRi.nd rfl (.inl rfl)) pgs_nil))))
      (pss_cons (ps_if (pt_cmpR op_isN (pv 2) pe_non (nomark _)) (pss_one (ps_ret (pe_cmpR (op_eqD hr.units) (pe_call GO hr4 (by rfl) gO FO.kp bO .nil passN (pa_cons (pv 0) pa_nil)) (pv 1) (nomark _)))) pss_nil)
      (pss_cons (ps_set (i := 3) scRi.nd rfl (.inl rfl) (pe_cau (T := TT) lkC hcdC kC bC gC gRE TB rfl hmT huT (hr.mono (by decide) : Room (4 + 2) _) (by rfl) (show LamX.LamS (defScope sRight) _ from LamX.lamS_by (by decide +kernel)) rfl (fun _ _ _ _ _ => rfl)
            (fun A o s H E f c' hrl => pe_call GO hrl (by rfl) gO FO.kp bO .nil (passes_call (takes_of rfl rfl rfl rfl) (fun _ _ _ _ h => h)) (pa_cons (pv 0) pa_nil))))
      (pss_one (ps_ret (pe_and (pe_callB (ErrD.call_isErrD EM) (by rfl) mi (by decide +kernel) (pa_cons (pv 3) (pa_cons (pe_glob (v := .ref CB) (by rfl) gBL rfl) pa_nil)))
        (pe_and (pe_cmpR op_eq (ErrD.pe_errF EM hno (pv 3)) (pv 2) (nomark _)) (pe_one (pe_call GW hr1 (by rfl) gW FW.kp bW .nil pass0 (pa_cons (ErrD.pe_errF EM hno (pv 3)) pa_nil))))))))))), ?_⟩
    refine ⟨_, rfl, _, rfl, ?_, ⟨_, rfl⟩, _, _, rfl, rfl, by decide, ?_, ?_⟩
    · rw [len_S, show (Str.ofString " ").length = 1 from by decide]
      omega
    · refine Nat.le_trans (Nat.add_le_add_right (TK.replace_len _ _ _) 2) ?_
      rw [len_S, show (Str.ofString " ").length = 1 from by decide, sizeLine_eq]
      omega
    rw [show (Str.ofString "\n" : Str) = S [10] from by decide +kernel, show (Str.ofString " " : Str) = S [32] from by decide +kernel, repl_S, split_S _ (by decide)]
    intro pw npw
    rw [show TL.spl [32] 0 [] (TL.joinL [32] (TL.spl [10] 0 [] l)) = wordsOf l from rfl]
    have hwl : (wordsOf l).length ≤ l.length + 1 := by
      have := spl_len [32] (TL.joinL [32] (TL.spl [10] 0 [] l)) 0 []
      rw [repl_len] at this
      exact this
    have hwa : ∀ u ∈ wordsOf l, asc u := fun u hu => asc_part (join_asc (by decide) fun x hx => asc_part hasc hx) hu
    have hwi : ∀ u ∈ wordsOf l, u.length ≤ l.length := fun u hu => by
      have := spl_item 32 (TL.joinL [32] (TL.spl [10] 0 [] l)) [] u hu
      rwa [List.length_nil, Nat.zero_add, repl_len] at this
    have hfine : (longW l) = [] → fineText l := fun e => ⟨by omega, words_all fun u hu => by
      have := List.filter_eq_nil_iff.mp e u hu
      simpa using this⟩
    have hlw : longW l = (wordsOf l).filter fun u => decide (30 < u.length) := rfl
    generalize wordsOf l = wl at hwl hwa hwi hlw
    have S1 : Same H (upd H pw (.lst ((wl.map S).map V.str))) := same_upd npw
    have hp1 : (upd H pw (.lst ((wl.map S).map V.str))) pw = some (.lst ((wl.map S).map V.str)) := upd_same
    generalize upd H pw (.lst ((wl.map S).map V.str)) = H1 at S1 hp1
    refine ⟨pw, rfl, ⟨_, .inl (.inl hp1)⟩, fun D nD => ?_⟩
    refine lc_list (K := K) (a := pw) (xs := (wl.map S).map V.str) (fun i H' => ∃ us : List CL, H' D = some (.lst ((us.map S).map V.str)) ∧ us = (wl.take i).filter (fun u => decide (30 < u.length)) ∧ Same H1 H') ⟨[], upd_same, rfl, same_upd nD⟩ (fun i H' _ ⟨_, _, _, sm⟩ => sm.seq (.inl (.inl hp1))) ?_ ?_
    · rintro i x H2 hx ⟨us, hD, hus, sm⟩
      obtain ⟨u, rfl, hu⟩ : ∃ u, x = V.str (S u) ∧ wl[i]? = some u := by
        rw [List.map_map, List.getElem?_map] at hx
        cases e : wl[i]? with
        | none => rw [e] at hx; cases hx
        | some u => rw [e] at hx; exact ⟨u, (Option.some.inj hx).symm, rfl⟩
      have hi := (List.getElem?_eq_some_iff.mp hu).1
      have hul := hwi u (List.mem_of_getElem? hu)
      refine ⟨rfl, _, rfl, _, rfl, by rw [len_S, sizeLine_eq]; omega, _, _, rfl, rfl, _, rfl, ?_⟩
      rw [len_S]
      have step : (wl.take (i + 1)).filter (fun u => decide (30 < u.length)) = us ++ [u].filter (fun u => decide (30 < u.length)) := by
        rw [List.take_succ, hu, List.filter_append, ← hus]
        rfl
      by_cases h30 : 30 < u.length
      · refine iteT2 (decide_eq_true (by omega)) ⟨_, rfl, _, hD, ?_, us ++ [u], ?_, ?_, same_put sm nD⟩
        · rw [List.length_map, List.length_map, hus]
          exact small1000 (Nat.le_trans (List.length_filter_le _ _) (by rw [List.length_take]; omega))
        · rw [upd_same, List.map_append, List.map_append]
          rfl
        · rw [step]
          simp [h30]
      · refine iteF2 (decide_eq_false (by omega)) ⟨us, hD, ?_, sm⟩
        rw [step]
        simp [h30]
    · rintro H2 ⟨us, hD, hus, sm⟩
      rw [List.length_map, List.length_map, List.take_length, ← hlw] at hus
      refine ⟨Nat.zero_le _, fun l1 nl1 => ?_⟩
      have sm2 : Same H2 (upd H2 l1 (.lst [])) := same_upd nl1
      have usok : ∀ x ∈ us.map S, PyData.strOk x = true := fun x hx => by
        obtain ⟨u, hu, rfl⟩ := List.mem_map.mp hx
        rw [hus, hlw] at hu
        exact asc_ok (hwa u (List.mem_filter.mp hu).1)
      refine ⟨_, _, dp_strs (xs := us.map S) (.inl (.inl (sm2 _ _ hD))), dp_nil upd_same, shaped_strs usok, shaped_nil, _, rfl, ?_⟩
      rw [eqv_nil]
      have S3 : Same H (upd H2 l1 (.lst [])) := S1.trans (sm.trans sm2)
      generalize upd H2 l1 (.lst []) = H3 at S3
      cases hus0 : us with
      | cons u0 ur => exact iteT2 rfl (q H3 (LamX.ExtN.of S3) (tabs_same hT S3))
      | nil =>
        refine iteF2 rfl ?_
        rw [hus0] at hus
        have hf := hfine hus.symm
        refine ⟨_, rfl, l, rfl, hf, hasc, fun H4 t p4 S4 nt np ht hR => ?_⟩
        have S5 : Same H H4 := S3.trans S4
        refine ⟨t, _, rfl, .inl (.inl ht), rfl, ?_⟩
        have hascR : ∀ r ∈ (readText l).1, asc r.1 := fun r hr2 => by
          obtain ⟨x, hx, rfl⟩ := read_mem _ _ r hr2
          exact (few_line (asc_part hasc hx) (fine_line hf x hx)).1
        cases hb : (readText l).2 with
        | none =>
          refine ⟨_, _, rfl, _, _, rfl, rfl, _, rfl, rfl, _, rfl, iteT2 (decide_eq_true rfl) ?_⟩
          refine ⟨_, rfl, .inl ⟨l, rfl, hf, fun _ H5 p5 S6 np5 hR5 => ?_, fun n e => ?_⟩⟩
          · refine ⟨_, rfl, _, _, dp_rows hR5, dp_rows (rowsL_same hR S6), shaped_rows hascR, shaped_rows hascR, ?_⟩
            rw [rows_self hascR]
            exact q H5 (LamX.ExtN.of (S5.trans S6)) (tabs_same hT (S5.trans S6))
          · rw [hb] at e
            cases e
        | some n =>
          refine ⟨_, _, rfl, _, _, rfl, rfl, _, rfl, rfl, _, rfl, iteF2 (decide_eq_false (fun z => by cases z)) ?_⟩
          refine ⟨tabs_same hT S5, fun H5 ext t5 => ?_⟩
          refine ⟨_, rfl, .inl ⟨l, rfl, hf, fun e => ?_, fun n' e H6 d S6 nd hd => ⟨exm, fun e6 ne => ?_⟩⟩⟩
          · rw [hb] at e
            cases e
          rw [hb] at e
          cases e
          have nde : d ≠ e6 := ne_of_none hd ne
          have hE : (upd H6 e6 (ErrO (.ref CB) (some d) e6)) e6 = some (ErrO (.ref CB) (some d) e6) := upd_same
          have hdd : (upd H6 e6 (ErrO (.ref CB) (some d) e6)) d = some (.xd [("at", .int (n : Nat))]) := (upd_ne nde).trans hd
          have S7 : Same H5 (upd H6 e6 (ErrO (.ref CB) (some d) e6)) := S6.trans (same_upd ne)
          generalize upd H6 e6 (ErrO (.ref CB) (some d) e6) = H7 at hE hdd S7
          refine ⟨_, rfl, e6, d, _, .ref CB, .ref CB, true, rfl, hE, hdd, fun u r => r, kit, true, rfl, iteT ?_⟩
          refine ⟨_, rfl, e6, d, _, .int (n : Nat), rfl, hE, hdd, rfl, _, rfl, rfl, ?_⟩
          refine ⟨_, rfl, iteT2 (decide_eq_true rfl) ?_⟩
          refine ⟨_, rfl, e6, d, _, .int (n : Nat), rfl, hE, hdd, rfl, some (n : Int), rfl, ?_⟩
          exact q H7 (((LamX.ExtN.of S5).trans ext).trans (LamX.ExtN.of S7)) (tabs_same t5 S7)
end
end R18

set_option Elab.async false
set_option linter.all false
set_option maxRecDepth 100000
set_option maxHeartbeats 2000000
set_option exponentiation.threshold 2000
/-! The law. -/
namespace R19
open PySem PySem.Spec PyProof.Rows L2 Cau Dr65 Tk CwR R0 R3 R4 R5 R6 R7 R8 R9 R10 R11 R12 R13 R14 R15 R16 R17 R18
abbrev sLaw : Stmt := topS 44
theorem text_lines {rs : List Rw} (h : goodRows rs = true) : TL.spl [10] 0 [] (textOf rs) = rs.map rowText := by
  unfold goodRows at h
  rw [Bool.and_eq_true] at h
  have ne : rs ≠ [] := by
    intro z
    rw [z] at h
    simp at h
  unfold textOf
  refine TL.spl_join (by simpa using ne) fun p hp => ?_
  obtain ⟨r, hr, rfl⟩ := List.mem_map.mp hp
  obtain ⟨m, hm⟩ := good_at h.2 r hr
  exact row_no10 hm
theorem text_len {rs : List Rw} (hf : ∀ r ∈ rs, slimRow r) (hl : rs.length ≤ 10) : (textOf rs).length ≤ 710 := by
  unfold textOf
  refine Nat.le_trans (joinL_le (c := 70) fun p hp => ?_) ?_
  · obtain ⟨r, hr, rfl⟩ := List.mem_map.mp hp
    exact (hf r hr).2.1
  · rw [List.length_map]
    omega
theorem text_asc {rs : List Rw} (hf : ∀ r ∈ rs, slimRow r) : asc (textOf rs) := join_asc (by decide) fun p hp => by
  obtain ⟨r, hr, rfl⟩ := List.mem_map.mp hp
  exact (hf r hr).2.2.1
theorem text_fine {rs : List Rw} (h : goodRows rs = true) (hf : ∀ r ∈ rs, slimRow r) (hl : rs.length ≤ 10) : fineText (textOf rs) := by
  refine ⟨by have := text_len hf hl; omega, fun x hx => ?_⟩
  rw [text_lines h] at hx
  obtain ⟨r, hr, rfl⟩ := List.mem_map.mp hx
  exact (hf r hr).2.2.2
theorem rows_asc {rs : List Rw} (h : goodRows rs = true) : ∀ r ∈ rs, asc r.1 := fun r hr => by
  unfold goodRows at h
  rw [Bool.and_eq_true] at h
  obtain ⟨m, hm⟩ := good_at h.2 r hr
  intro c hc
  exact of_decide_eq_true (List.all_eq_true.mp (seven_asc _ (good_word hm)) c hc)
/-- the odd values -/
inductive OddQ (H : Hp) : V → Prop
  | non : OddQ H .non
  | int (i : Int) : OddQ H (.int i)
  | bl (b : Bool) : OddQ H (.bl b)
  | lst0 {p : Addr} (h : H p = some (.lst [])) : OddQ H (.ref p)
  | lst1 {p : Addr} {z : Str} (h : H p = some (.lst [.str z])) : OddQ H (.ref p)
  | dic {p : Addr} (h : H p = some (.dK [])) : OddQ H (.ref p)
  | tup {p : Addr} {z : Str} {i j : Int} (h : H p = some (.tup [.str z, .int i, .int j])) : OddQ H (.ref p)
theorem OddQ.ext {H H' : Hp} {x : V} (h : OddQ H x) (e : LamX.ExtN H H') : OddQ H' x := by
  cases h with
  | non => exact .non
  | int i => exact .int i
  | bl b => exact .bl b
  | lst0 h => exact .lst0 (e _ _ h fun _ z => by cases z)
  | lst1 h => exact .lst1 (e _ _ h fun _ z => by cases z)
  | dic h => exact .dic (e _ _ h fun _ z => by cases z)
  | tup h => exact .tup (e _ _ h fun _ z => by cases z)
theorem OddQ.kept {H H' : Hp} {x : V} {a w c : Addr} {T : Nat} (h : OddQ H x) (s : St H a w c T) (k : Kept a w H H') (off : ∀ p, x = .ref p → p ≠ a ∧ p ≠ w) : OddQ H' x := by
  cases h with
  | non => exact .non
  | int i => exact .int i
  | bl b => exact .bl b
  | lst0 h => exact .lst0 (k _ _ h (off _ rfl).1 (off _ rfl).2)
  | lst1 h => exact .lst1 (k _ _ h (off _ rfl).1 (off _ rfl).2)
  | dic h => exact .dic (k _ _ h (off _ rfl).1 (off _ rfl).2)
  | tup h => exact .tup (k _ _ h (off _ rfl).1 (off _ rfl).2)
theorem OddQ.no {K : PySem.W.Frag} {H : Hp} {x : V} (h : OddQ H x) : NoTxt K H x := by
  cases h with
  | non => exact ⟨"NoneType", .base .non, by decide +kernel⟩
  | int i => exact ⟨"int", .base (.int _), by decide +kernel⟩
  | bl b => exact ⟨"bool", .base (.bl _), by decide +kernel⟩
  | lst0 h => exact ⟨"list", .base (.lst h), by decide +kernel⟩
  | lst1 h => exact ⟨"list", .base (.lst h), by decide +kernel⟩
  | dic h => exact ⟨"dict", .base (.dK h), by decide +kernel⟩
  | tup h => exact ⟨"tuple", .base (.tup h), by decide +kernel⟩
theorem OddQ.rk {K : PySem.W.Frag} {H : Hp} {x : V} (h : OddQ H x) : ∃ o, Rk K H x o ∧ reckB o = false := by
  cases h with
  | non => exact ⟨none, .inr ⟨.non, rfl⟩, rfl⟩
  | int i => exact ⟨none, .inr ⟨.int, rfl⟩, rfl⟩
  | bl b => exact ⟨none, .inr ⟨.bl, rfl⟩, rfl⟩
  | lst0 h => exact ⟨some [], .inl ⟨_, [], [], rfl, .inl (.inl (.inl h)), rfl, by decide, (fun i v r e => by cases e), rfl⟩, rfl⟩
  | lst1 h =>
    refine ⟨some [none], .inl ⟨_, _, [none], rfl, .inl (.inl (.inl h)), rfl, by show 1 ≤ 1000; decide, (fun i v r e1 e2 => ?_), rfl⟩, rfl⟩
    match i, e1, e2 with
    | 0, e1, e2 => cases e1; cases e2; exact .inr ⟨rfl, .inl ⟨_, rfl⟩⟩
  | dic h => exact ⟨none, .inr ⟨.dK h, rfl⟩, rfl⟩
  | tup h =>
    refine ⟨some [none, none, none], .inl ⟨_, _, [none, none, none], rfl, .inr (.inl (.inl h)), rfl, by show 3 ≤ 1000; decide, (fun i v r e1 e2 => ?_), rfl⟩, rfl⟩
    match i, e1, e2 with
    | 0, e1, e2 => cases e1; cases e2; exact .inr ⟨rfl, .inl ⟨_, rfl⟩⟩
    | 1, e1, e2 => cases e1; cases e2; exact .inr ⟨rfl, .inr ⟨_, rfl⟩⟩
    | 2, e1, e2 => cases e1; cases e2; exact .inr ⟨rfl, .inr ⟨_, rfl⟩⟩
def tabsL (Pt Pr : Addr) : List (Addr × Str) := [(Pt, (("law" : Str) ++ ".<locals>.") ++ "<lambda>"), (Pr, (("_law_read_right" : Str) ++ ".<locals>.") ++ "<lambda>")]
def spLaw (K : PySem.W.Frag) (Pt Pr : Addr) : Sp := fun vs H Q _ => ∃ (a : Addr) (ns : List Int), vs = [.ref a] ∧ SqL K H a (ns.map V.int) ∧ ns.length ≤ 63 ∧ H Pt = some (.tbl #[]) ∧ H Pr = some (.tbl #[]) ∧ ∀ H', Q (.bl true) H'
section
variable {P : Program} {w : World} {K : PySem.W.Frag} {mg : Str → Option Value} {base : Heap}
def lawN : List Str := ["script", "state", "turn", "rows", "text", "step", "bent", "caught", "odd"]
theorem scL : FnScope lawN ["script"] (defScope sLaw) := ⟨rfl, rfl, rfl, by decide +kernel, rfl, by decide +kernel, by decide +kernel⟩
theorem ok_law {f fB fG fWr fRT fO fBe fR fP fC CR CB CE c Pt Pr : Addr} {fdB fdG fdWr fdRT fdO fdBe fdR fdP : FuncData}
    {od an odC anC : Option Addr} {osl oslC : Array (Option Value)} {kV doc pm ct oc kVC docC pmC ctC ocC cdvC dVC : Value}
    (lk : K.lookup f = some ⟨oc, od, .func (PySem.W.fnOf "law" "law" (defArgs sLaw) (defBody sLaw) (defScope sLaw) .none kV doc pm an (.ref c) ct), osl⟩) (hcd : PySem.W.codeIn K (.ref c) "law" = true)
    (TB : LamX.TabB base mg c Pt) (hPr : Pr ≠ Pt)
    (FB : Fun K "_law_begun" "_law_begun" sBegun fB fdB) (GB : FnOk P w K mg base CX0 1 fB fdB ["script"] (spBegun K)) (bB : Binds K fdB ["script"] []) (gB : mg "_law_begun" = some (.ref fB))
    (FG : Fun K "_law_long_rows" "_law_long_rows" sLong fG fdG) (GG : FnOk P w K mg base CX0 5 fG fdG ["state"] (spLong K)) (bG : Binds K fdG ["state"] []) (gG : mg "_law_long_rows" = some (.ref fG))
    (FWr : Fun K "_law_written" "_law_written" sWritten fWr fdWr) (GWr : FnOk P w K mg base CX0 1 fWr fdWr ["rows"] (spWritten K)) (bWr : Binds K fdWr ["rows"] []) (gWr : mg "_law_written" = some (.ref fWr))
    (FRT : Fun K "reckoning_text" "reckoning_text" sRecText fRT fdRT) (GRT : FnOk P w K mg base (L2.CX P w) 6 fRT fdRT ["rows"] (spRecText K CE)) (bRT : Binds K fdRT ["rows"] []) (kRT : KBn K fdRT ["rows"] 0 ["rows"] (fun _ ws => ws) (fun _ zs => zs)) (gRT : mg "reckoning_text" = some (.ref fRT))
    (FO : Fun K "reckoning_of" "reckoning_of" sRecOf fO fdO) (GO : FnOk P w K mg base (L2.CX P w) 4 fO fdO ["text"] (spRecOf K CB)) (bO : Binds K fdO ["text"] []) (kO : KBn K fdO ["text"] 0 ["text"] (fun _ ws => ws) (fun _ zs => zs)) (gO : mg "reckoning_of" = some (.ref fO))
    (FBe : Fun K "_law_bent" "_law_bent" sBent fBe fdBe) (GBe : FnOk P w K mg base CX0 4 fBe fdBe ["state", "text"] spBent) (bBe : Binds K fdBe ["state", "text"] []) (gBe : mg "_law_bent" = some (.ref fBe))
    (kR : PySem.W.keepIn K (.ref fR) = true) (GR : FnT P w K mg base CX0 7 fR fdR ["text"] (spRight K (tabsL Pt Pr))) (bR : Binds K fdR ["text"] []) (gR : mg "_law_read_right" = some (.ref fR))
    (FP : Fun K "_law_pick" "_law_pick" sPick fP fdP) (GP : FnOk P w K mg base CX0 3 fP fdP ["state", "some"] (R14.spPick K)) (bP : Binds K fdP ["state", "some"] []) (gP : mg "_law_pick" = some (.ref fP))
    (lkC : K.lookup fC = some ⟨ocC, odC, .func (PySem.W.fnOf "_law_caught" "_law_caught" (defArgs sCaught) (defBody sCaught) (defScope sCaught) dVC kVC docC pmC anC cdvC ctC), oslC⟩) (hcdC : PySem.W.codeIn K cdvC "_law_caught" = true) (kC : PySem.W.keepIn K (.ref fC) = true)
    (bC : Binds K (PySem.W.fnOf "_law_caught" "_law_caught" (defArgs sCaught) (defBody sCaught) (defScope sCaught) dVC kVC docC pmC anC cdvC ctC) ["action"] []) (gC : mg "_law_caught" = some (.ref fC))
    (gRE : mg "RulerError" = some (.ref CR)) (gBL : mg "BadLine" = some (.ref CB)) (gBR : mg "BadRows" = some (.ref CE)) (exm : PySem.W.exmOne K (.ref CB) (.ref CR) = some true) (exmE : PySem.W.exmOne K (.ref CE) (.ref CR) = some true)
    (kit : PySem.W.kitOne K (.ref CB) (.ref CB) = some true) (kitE : PySem.W.kitOne K (.ref CE) (.ref CE) = some true) (EM : ExcC K CB) (EE : ExcC K CE) (hno : PySem.W.findIn K (.ref CB) "at" = some none)
    (mr : mg "range" = none) (mi : mg "isinstance" = none) (mtu : mg "tuple" = none) (mlen : mg "len" = none) (mmin : mg "min" = none) :
    FnOk P w K mg base CX0 9 f (PySem.W.fnOf "law" "law" (defArgs sLaw) (defBody sLaw) (defScope sLaw) .none kV doc pm an (.ref c) ct) ["script"] (spLaw K Pt Pr) := by
  refine fn_of lk hcd scL (fun vs H Q E h => ?_) (fun A outer s H vs Q E hr h => ?_)
  · obtain ⟨a, ns, rfl, _⟩ := h
    rfl
  · obtain ⟨a, ns, rfl, hS, hlen, hPt, hPr', q⟩ := h
    have hr7 : Room 7 _ := hr.mono (by decide)
    have hr6 : Room 6 _ := hr.mono (by decide)
    have hr5 : Room 5 _ := hr.mono (by decide)
    have hr4 : Room 4 _ := hr.mono (by decide)
    have hr3 : Room 3 _ := hr.mono (by decide)
    have hr1 : Room 1 _ := hr.mono (by decide)
    have hmT : ((Pt, (("law" : Str) ++ ".<locals>.") ++ "<lambda>") : Addr × Str) ∈ (tabsL Pt Pr) := List.mem_cons_self
    have huT : ∀ p ∈ (tabsL Pt Pr), p.1 = Pt → p.2 = (("law" : Str) ++ ".<locals>.") ++ "<lambda>" := fun p hp e => by
      rcases List.mem_cons.mp hp with rfl | hp
      · rfl
      · rw [List.mem_singleton.mp hp] at e
        exact absurd e hPr
    suffices hh : ∃ t, PSs (cxOf CX0 P w K mg base lawN "law" (defScope sLaw) f (.ref c) A outer s H E).nox (defBody sLaw) t ∧ t { nx := fun _ H' => Q .non H', rt := Q } (L2.start lawN [.ref a]) H by
      obtain ⟨t, h1, h2⟩ := hh
      exact ⟨t, h1.nox, h2⟩
    refine ⟨_, pss_cons (ps_set (i := 1) scL.nd rfl (.inl rfl) (pe_call GB hr1 (by rfl) gB FB.kp bB .nil pass0 (pa_cons (pv 0) pa_nil)))
      (pss_cons (ps_for PassesOwn.never rfl (pi_range1 (by rfl) mr (pa_cons (pe_op op_add pe_int (pe_callB (call_min2 rfl) (by rfl) mmin (by decide +kernel) (pa_cons (pe_callB call_len_seq (by rfl) mlen PySem.boot_len (pa_cons (pv 0) pa_nil)) (pa_cons pe_int pa_nil)))) pa_nil)) (pg_name (i := 2) scL.nd rfl (.inl rfl))
        (pss_cons (ps_set (i := 3) scL.nd rfl (.inl rfl) (pe_call GG hr5 (by rfl) gG FG.kp bG .nil pass0 (pa_cons (pv 1) pa_nil)))
        (pss_cons (ps_set (i := 4) scL.nd rfl (.inl rfl) (pe_call GWr hr1 (by rfl) gWr FWr.kp bWr .nil pass0 (pa_cons (pv 3) pa_nil)))
        (pss_cons (ps_if (PW.pt (pw_or (pt_cmpR op_ne (pe_kw GRT hr6 (by rfl) gRT FRT.kp kRT passN (pk_cons (pe_callTy call_tuple_of (by rfl) mtu (by decide +kernel) (pa_cons (pv 3) pa_nil)) pk_nil)) (pv 4) (nomark _))
            (pw_or1 (pt_cmpR (op_neD hr.units) (pe_kw GO hr4 (by rfl) gO FO.kp kO passN (pk_cons (pv 4) pk_nil)) (pv 3) (nomark _))))) (pss_one (ps_ret pe_bl)) pss_nil)
        (pss_one (ps_for PassesOwn.never rfl (pi_range1 (by rfl) mr (pa_cons pe_int pa_nil)) (pg_name (i := 5) scL.nd rfl (.inl rfl))
          (pss_setT (i := 6) scL.nd rfl rfl (pe_call GBe hr4 (by rfl) gBe FBe.kp bBe .nil pass0 (pa_cons (pv 1) (pa_cons (pv 4) pa_nil)))
            (psst_one (pst_ifT (ptt_wh (pwt_or (ptt_not (ptt_val (pet_callT GR hr7 (by rfl) gR kR bR pass0 (pat_cons (PET.of (pv 6)) pat_nil))))
              (pwt_or1 (ptt_not (ptt_val (pet_callT GR hr7 (by rfl) gR kR bR pass0 (pat_cons (PET.of (pe_call GBe hr4 (by rfl) gBe FBe.kp bBe .nil pass0 (pa_cons (pv 1) (pa_cons (pv 6) pa_nil)))) pat_nil))))))) (pss_one (ps_ret pe_bl)) pss_nil)))))))))
      (pss_cons (ps_if (PW.pt (pw_or (pt_not (pt_val (pe_callT GR hr7 (by rfl) gR kR bR pass0))) (pw_or (pt_not (pt_val (pe_callT GR hr7 (by rfl) gR kR bR pass0))) (pw_or1 (pt_not (pt_val (pe_callT GR hr7 (by rfl) gR kR bR pass0))))))) (pss_one (ps_ret pe_bl)) pss_nil)
      (pss_cons (ps_set (i := 8) scL.nd rfl (.inr rfl) (pe_call GP hr3 (by rfl) gP FP.kp bP .nil pass0 (pa_cons (pv 1) (pa_cons (pe_lst (pa_cons pe_non (pa_cons pe_int (pa_cons (pe_lst pa_nil) (pa_cons (pe_lst (pa_cons pe_str pa_nil)) (pa_cons pe_bl (pa_cons pe_dnewK (pa_cons (pe_tup (pa_cons pe_str (pa_cons pe_int (pa_cons pe_int pa_nil)))) pa_nil)))))))) pa_nil))))
      (pss_cons (ps_set (i := 7) scL.nd rfl (.inl rfl) (pe_cau (T := tabsL Pt Pr) lkC hcdC kC bC gC gRE TB rfl hmT huT (hr.mono (by decide) : Room (4 + 2) _) (by rfl) (show LamX.LamS (defScope sLaw) _ from LamX.lamS_by (by decide +kernel)) rfl (fun _ _ _ _ _ => rfl)
            (fun A o s H E f c' hrl => pe_call GO hrl (by rfl) gO FO.kp bO .nil (passes_call (takes_of rfl rfl rfl rfl) (fun _ _ _ _ h => h)) (pa_cons (pv 8) pa_nil))))
      (pss_cons (ps_if (PW.pt (pw_or (pt_not (pt_val (pe_callB (ErrD.call_isErrD EM) (by rfl) mi (by decide +kernel) (pa_cons (pv 7) (pa_cons (pe_glob (v := .ref CB) (by rfl) gBL rfl) pa_nil)))))
            (pw_or1 (pt_cmpR op_notN (ErrD.pe_errF EM hno (pv 7)) pe_non (nomark _))))) (pss_one (ps_ret pe_bl)) pss_nil)
      (pss_one (ps_ret (pe_callB (call_isErr EE) (by rfl) mi (by decide +kernel) (pa_cons
        (pe_cau (T := tabsL Pt Pr) lkC hcdC kC bC gC gRE TB rfl hmT huT (hr.mono (by decide) : Room (6 + 2) _) (by rfl) (show LamX.LamS (defScope sLaw) _ from LamX.lamS_by (by decide +kernel)) rfl (fun _ _ _ _ _ => rfl)
            (fun A o s H E f c' hrl => pe_call GRT hrl (by rfl) gRT FRT.kp bRT .nil (passes_call (takes_of rfl rfl rfl rfl) (fun _ _ _ _ h => h)) (pa_cons (pv 8) pa_nil)))
        (pa_cons (pe_glob (v := .ref CE) (by rfl) gBR rfl) pa_nil)))))))))), ?_⟩
    refine ⟨_, rfl, a, ns, rfl, hS, hlen, fun H1 sa sw sc S1 nsa nsw nsc _ _ _ s1 => ?_⟩
    have t1 : LamX.Tabs (tabsL Pt Pr) H1 := fun p hp => by
      rcases List.mem_cons.mp hp with rfl | hp
      · exact LamX.TabS.nil (S1 _ _ hPt)
      · rw [List.mem_singleton.mp hp]
        exact LamX.TabS.nil (S1 _ _ hPr')
    refine ⟨.ref a, rfl, a, _, rfl, .inl (S1.seq hS), _, _, rfl, 2, _, rfl, rfl, ?_⟩
    obtain ⟨m, hm, hm0, hm1⟩ : ∃ m : Int, (2 + if (6 : Int) < (((ns.map V.int).length : Nat) : Int) then 6 else (((ns.map V.int).length : Nat) : Int)) = m ∧ 2 ≤ m ∧ m ≤ 8 := by
      refine ⟨_, rfl, ?_, ?_⟩ <;> split <;> omega
    refine ⟨_, rfl, by show (-4611686018427387904 : Int) ≤ _; rw [hm]; omega, by show _ < (4611686018427387904 : Int); rw [hm]; omega, ?_⟩
    rw [hm]
    refine for_range (lo := 0) (n := m.toNat) (fun i σ H' => ∃ y2 y3 y4 y5 y6 y7 y8 : Option V, σ = [some (.ref a), some (.ref sa), y2, y3, y4, y5, y6, y7, y8] ∧ St H' sa sw sc (1000 * i) ∧ LamX.Tabs (tabsL Pt Pr) H')
      ⟨_, _, _, _, _, _, _, rfl, s1, t1⟩ ?_ ?_
    · rintro i σ H4 hi ⟨y2, y3, y4, y5, y6, y7, y8, rfl, s4, t4⟩
      have hi8 : i < 8 := by omega
      refine ⟨_, rfl, sa, sw, sc, 1000 * i, rfl, s4, by omega, fun H5 L rs T5 k5 s5 hT5 nL oL hR hg hf hl => ?_⟩
      have t5 := tabs_kept t4 s4 k5
      refine ⟨_, rfl, L, rs, rfl, hR, by omega, fun r hr2 => (hf r hr2).1, fun H6 S6 => ?_⟩
      have hR6 := rowsL_same hR S6
      have s6 := St.same s5 S6
      have t6 := tabs_same t5 S6
      obtain ⟨xs, hL6, hxl, hrow6⟩ := hR6
      refine ⟨_, rfl, L, xs, rfl, .inl ⟨.inl (.inl hL6), fun tt ntt => ?_⟩⟩
      have S7 : Same H6 (upd H6 tt (.tup xs)) := same_upd ntt
      have htt : (upd H6 tt (.tup xs)) tt = some (.tup xs) := upd_same
      generalize upd H6 tt (.tup xs) = H7 at S7 htt
      refine ⟨rfl, .inl ⟨tt, rs, rfl, ⟨xs, .inr (.inl (.inl htt)), hxl, by omega, fun j v r e1 e2 => rowV_tk (hrow6 j v r e1 e2) (TK.of S7)⟩, hg, fun r hr2 => (hf r hr2).1, fun H8 S8 => ?_⟩⟩
      refine ⟨_, rfl, rfl, _, rfl, iteNS rfl ?_⟩
      refine ⟨_, rfl, rfl, .inl ⟨textOf rs, rfl, text_fine hg hf hl, fun _ H9 p9 S9 np9 hR9 => ?_, fun n e => ?_⟩⟩
      · rw [read_back hg] at hR9
        have S69 : Same H6 H9 := S7.trans (S8.trans S9)
        have hR3 : RowsL K H9 L rs := rowsL_same ⟨xs, hL6, hxl, hrow6⟩ S69
        have hra := rows_asc hg
        refine ⟨_, rfl, _, _, dp_rows hR9, dp_rows hR3, shaped_rows hra, shaped_rows hra, _, rfl, ?_⟩
        rw [rows_self hra]
        refine iteF2 rfl ?_
        have s9 := St.same s6 S69
        have t9 := tabs_same t6 S69
        have hlt := text_len hf hl
        have hat := text_asc hf
        refine ⟨4, rfl, by decide, by decide, ?_⟩
        refine for_range (lo := 0) (n := 4) (fun j σ H' => ∃ y5 y6 : Option V, σ = [some (.ref a), some (.ref sa), some (.int (0 + (i : Nat))), some (.ref L), some (strS (textOf rs)), y5, y6, y7, y8] ∧ St H' sa sw sc (1000 * i + 200 + 20 * j) ∧ LamX.Tabs (tabsL Pt Pr) H')
          ⟨_, _, rfl, St.mono s9 (by omega), t9⟩ ?_ ?_
        · rintro j σ Ha hj ⟨y5, y6, rfl, sA, tA⟩
          refine ⟨_, rfl, _, rfl, sa, sw, sc, _, textOf rs, rfl, sA, by omega, by omega, hat, fun Hb l1 Tb kb sB hTb hl1 ha1 => ?_⟩
          have tB := tabs_kept tA sA kb
          refine ⟨_, rfl, l1, rfl, by omega, ha1, tB, fun Hc ec tC => ⟨_, rfl, iteF ?_⟩⟩
          have sC := St.ext sB ec
          refine ⟨_, rfl, _, rfl, sa, sw, sc, Tb, l1, rfl, sC, by omega, by omega, ha1, fun Hd l2 Td kd sD hTd hl2 ha2 => ?_⟩
          have tD := tabs_kept tC sC kd
          refine ⟨l2, rfl, by omega, ha2, tD, fun He ee tE => ⟨_, rfl, iteF ?_⟩⟩
          exact ⟨_, _, rfl, St.mono (St.ext sD ee) (by omega), tE⟩
        · rintro σ Ha ⟨y5, y6, rfl, sA, tA⟩
          exact ⟨_, _, _, _, _, _, _, rfl, St.mono sA (by omega), tA⟩
      · rw [read_back hg] at e
        cases e
    · rintro σ H4 ⟨y2, y3, y4, y5, y6, y7, y8, rfl, s4, t4⟩
      have txt : ∀ s : String, [V.str (Str.ofString s)] = [strS (W s)] := fun s => congrArg (fun z => [V.str z]) (S_W s).symm
      refine ⟨W "", txt "", by decide +kernel, (show ∀ c ∈ W "", c < 256 by decide +kernel), t4, fun H5 e5 t5 => ⟨_, rfl, iteF ?_⟩⟩
      refine ⟨W "fraction 1 1\n", txt "fraction 1 1\n", by decide +kernel, (show ∀ c ∈ W "fraction 1 1\n", c < 256 by decide +kernel), t5, fun H6 e6 t6 => ⟨_, rfl, iteF ?_⟩⟩
      refine ⟨W "fraction -0 1", txt "fraction -0 1", by decide +kernel, (show ∀ c ∈ W "fraction -0 1", c < 256 by decide +kernel), t6, fun H7 e7 t7 => ⟨_, rfl, iteF ?_⟩⟩
      have s7 := St.ext s4 ((e5.trans e6).trans e7)
      refine ⟨_, rfl, Nat.zero_le _, fun l1 n1 => ?_⟩
      have o1 := St.off s7 n1
      have s8 := St.put (o := .lst []) s7 o1
      have S8 : Same H7 (upd H7 l1 (.lst [])) := same_upd n1
      have h1 : (upd H7 l1 (.lst [])) l1 = some (.lst []) := upd_same
      generalize upd H7 l1 (.lst []) = H8 at s8 S8 h1
      refine ⟨by show 1 ≤ sizeLine; decide, fun l2 n2 => ?_⟩
      have o2 := St.off s8 n2
      have s9 := St.put (o := .lst [.str (Str.ofString "fraction 1 1")]) s8 o2
      have S9 : Same H8 (upd H8 l2 (.lst [.str (Str.ofString "fraction 1 1")])) := same_upd n2
      have h2 : (upd H8 l2 (.lst [.str (Str.ofString "fraction 1 1")])) l2 = some (.lst [.str (Str.ofString "fraction 1 1")]) := upd_same
      generalize upd H8 l2 (.lst [.str (Str.ofString "fraction 1 1")]) = H9 at s9 S9 h2
      intro d1 n3
      have o3 := St.off s9 n3
      have s10 := St.put (o := .dK []) s9 o3
      have S10 : Same H9 (upd H9 d1 (.dK [])) := same_upd n3
      have h3 : (upd H9 d1 (.dK [])) d1 = some (.dK []) := upd_same
      generalize upd H9 d1 (.dK []) = H10 at s10 S10 h3
      refine ⟨by show 3 ≤ sizeLine; decide, fun p4 n4 => ?_⟩
      have o4 := St.off s10 n4
      have s11 := St.put (o := .tup [.str (Str.ofString "fraction"), .int 1, .int 1]) s10 o4
      have S11 : Same H10 (upd H10 p4 (.tup [.str (Str.ofString "fraction"), .int 1, .int 1])) := same_upd n4
      have h4 : (upd H10 p4 (.tup [.str (Str.ofString "fraction"), .int 1, .int 1])) p4 = some (.tup [.str (Str.ofString "fraction"), .int 1, .int 1]) := upd_same
      generalize upd H10 p4 (.tup [.str (Str.ofString "fraction"), .int 1, .int 1]) = H11 at s11 S11 h4
      refine ⟨by show 7 ≤ sizeLine; decide, fun lo nlo => ?_⟩
      have oo := St.off s11 nlo
      have s12 := St.put (o := .lst [.non, .int 4, .ref l1, .ref l2, .bl true, .ref d1, .ref p4]) s11 oo
      have S12 : Same H11 (upd H11 lo (.lst [.non, .int 4, .ref l1, .ref l2, .bl true, .ref d1, .ref p4])) := same_upd nlo
      have hlo : (upd H11 lo (.lst [.non, .int 4, .ref l1, .ref l2, .bl true, .ref d1, .ref p4])) lo = some (.lst [.non, .int 4, .ref l1, .ref l2, .bl true, .ref d1, .ref p4]) := upd_same
      generalize upd H11 lo (.lst [.non, .int 4, .ref l1, .ref l2, .bl true, .ref d1, .ref p4]) = H12 at s12 S12 hlo
      have odd : ∀ x ∈ [V.non, .int 4, .ref l1, .ref l2, .bl true, .ref d1, .ref p4], OddQ H12 x ∧ ∀ p, x = .ref p → p ≠ sa ∧ p ≠ sw := fun x hx => by
        simp only [List.mem_cons, List.not_mem_nil, or_false] at hx
        rcases hx with rfl | rfl | rfl | rfl | rfl | rfl | rfl
        · exact ⟨.non, fun p e => by cases e⟩
        · exact ⟨.int _, fun p e => by cases e⟩
        · exact ⟨.lst0 (S12 _ _ (S11 _ _ (S10 _ _ (S9 _ _ h1)))), fun p e => by cases e; exact ⟨o1.1, o1.2.1⟩⟩
        · exact ⟨.lst1 (S12 _ _ (S11 _ _ (S10 _ _ h2))), fun p e => by cases e; exact ⟨o2.1, o2.2.1⟩⟩
        · exact ⟨.bl _, fun p e => by cases e⟩
        · exact ⟨.dic (S12 _ _ (S11 _ _ h3)), fun p e => by cases e; exact ⟨o3.1, o3.2.1⟩⟩
        · exact ⟨.tup (S12 _ _ h4), fun p e => by cases e; exact ⟨o4.1, o4.2.1⟩⟩
      have t12 := tabs_same t7 (S8.trans (S9.trans (S10.trans (S11.trans S12))))
      refine ⟨sa, sw, sc, lo, _, _, rfl, s12, by omega, .inl (.inl hlo), oo.1, oo.2.1, by show 0 < 7; decide, by show 7 ≤ 1000; decide, fun H13 x hx k13 s13 => ?_⟩
      obtain ⟨ox0, off⟩ := odd x hx
      have ox := OddQ.kept ox0 s12 k13 off
      have t13 := tabs_kept t12 s12 k13
      refine ⟨t13, fun H14 e14 t14 => ?_⟩
      refine ⟨_, rfl, .inr ⟨x, rfl, (OddQ.ext ox e14).no, fun H15 d S15 nd hd => ⟨exm, fun e ne => ?_⟩⟩⟩
      have nde : d ≠ e := ne_of_none hd ne
      have hE : (upd H15 e (ErrO (.ref CB) (some d) e)) e = some (ErrO (.ref CB) (some d) e) := upd_same
      have hdd : (upd H15 e (ErrO (.ref CB) (some d) e)) d = some (.xd [("at", .non)]) := (upd_ne nde).trans hd
      have S16 : Same H14 (upd H15 e (ErrO (.ref CB) (some d) e)) := S15.trans (same_upd ne)
      generalize upd H15 e (ErrO (.ref CB) (some d) e) = H16 at hE hdd S16
      have t16 := tabs_same t14 S16
      refine ⟨_, rfl, e, d, _, .ref CB, .ref CB, true, rfl, hE, hdd, fun u r => r, kit, true, rfl, iteF ?_⟩
      refine ⟨_, rfl, e, d, _, .non, rfl, hE, hdd, rfl, rfl, _, rfl, iteF ?_⟩
      refine ⟨t16, fun H17 e17 t17 => ?_⟩
      obtain ⟨o, rk, rb⟩ := (OddQ.ext ox ((e14.trans (LamX.ExtN.of S16)).trans e17)).rk (K := K)
      refine ⟨_, rfl, .inr ⟨x, o, rfl, rk, rb, fun H18 S18 => ⟨exmE, fun e2 ne2 => ?_⟩⟩⟩
      exact ⟨e2, .ref CE, .ref CE, true, rfl, upd_same, fun u r => r, kitE, q _⟩
end
end R19

set_option Elab.async false
set_option linter.all false
set_option maxRecDepth 100000
set_option maxHeartbeats 4000000
namespace R20
open PySem PySem.Spec PyProof.Rows L2 Cau Dr65 Tk CwR R0 R3 R4 R5 R6 R7 R8 R9 R10 R11 R12 R13 R14 R15 R16 R17 R18 R19
/-- the statements within a class -/
def clsBody : Stmt → List Stmt
  | .ClassDef _ _ _ b _ _ _ _ _ _ _ => b
  | _ => []
abbrev sInit : Stmt := (clsBody (topS 3)).getD 0 (.Pass ⟨0, 0, 0, 0⟩)
theorem words_of {K : PySem.W.Frag} {d : Addr} {od : Option Addr} {us : Array Value} {m : Nat} {sl : Array (Option Value)} {ws : List Str} (hl : K.lookup d = some ⟨.type "tuple", od, .seq us m, sl⟩) (hv : Vals (ws.map V.str) us.toList) (hs : ws.length ≤ 1000) : R4.WordsK K d ws := fun H => by
  refine .inr ⟨_, us, m, hl, rfl, rfl, ?_, hv⟩
  have e := hv.length
  rw [List.length_map] at e
  have e2 : us.toList.length = us.size := by simp
  have := small1000 hs
  omega
/-! ### what the top has written, and the law's own head -/
theorem all_mk {l : PySem.W.OpenLaw} {w : World} {K : PySem.W.Frag} {h : Heap} {mg : Str → Option Value} {fa : Addr} (X : K.In h) (G : h.Ns mainGlobals mg) (hfa : mg "law" = some (.ref fa))
    (own : ∀ x ∈ (["_law_read_right", "law"] : List Str), ∀ c P : Addr, PySem.W.tabIn K x = some (c, P) → PySem.W.CodeHd h c P ∧ h.get? P = some { cls := .none, data := .fields #[] })
    {f0 : Addr} {od0 an0 : Option Addr} {sl0 : Array (Option Value)} {oc0 kV0 dc0 pm0 ct0 cd0 : Value}
    {f1 : Addr} {od1 an1 : Option Addr} {sl1 : Array (Option Value)} {oc1 kV1 dc1 pm1 ct1 cd1 : Value}
    {f2 : Addr} {od2 an2 : Option Addr} {sl2 : Array (Option Value)} {oc2 kV2 dc2 pm2 ct2 cd2 : Value}
    {f3 : Addr} {od3 an3 : Option Addr} {sl3 : Array (Option Value)} {oc3 kV3 dc3 pm3 ct3 cd3 : Value}
    {f4 : Addr} {od4 an4 : Option Addr} {sl4 : Array (Option Value)} {oc4 kV4 dc4 pm4 ct4 cd4 : Value}
    {f5 : Addr} {od5 an5 : Option Addr} {sl5 : Array (Option Value)} {oc5 kV5 dc5 pm5 ct5 cd5 : Value}
    {f6 : Addr} {od6 an6 : Option Addr} {sl6 : Array (Option Value)} {oc6 kV6 dc6 pm6 ct6 cd6 : Value}
    {f7 : Addr} {od7 an7 : Option Addr} {sl7 : Array (Option Value)} {oc7 kV7 dc7 pm7 ct7 cd7 : Value}
    {f8 : Addr} {od8 an8 : Option Addr} {sl8 : Array (Option Value)} {oc8 kV8 dc8 pm8 ct8 cd8 : Value}
    {f9 : Addr} {od9 an9 : Option Addr} {sl9 : Array (Option Value)} {oc9 kV9 dc9 pm9 ct9 cd9 : Value}
    {f10 : Addr} {od10 an10 : Option Addr} {sl10 : Array (Option Value)} {oc10 kV10 dc10 pm10 ct10 cd10 : Value}
    {f11 : Addr} {od11 an11 : Option Addr} {sl11 : Array (Option Value)} {oc11 kV11 dc11 pm11 ct11 cd11 : Value}
    {f12 : Addr} {od12 an12 : Option Addr} {sl12 : Array (Option Value)} {oc12 kV12 dc12 pm12 ct12 cd12 : Value}
    {f13 : Addr} {od13 an13 : Option Addr} {sl13 : Array (Option Value)} {oc13 kV13 dc13 pm13 ct13 cd13 : Value}
    {f14 : Addr} {od14 an14 : Option Addr} {sl14 : Array (Option Value)} {oc14 kV14 dc14 pm14 ct14 cd14 : Value}
    {f15 : Addr} {od15 an15 : Option Addr} {sl15 : Array (Option Value)} {oc15 kV15 dc15 pm15 ct15 cd15 : Value}
    {f16 : Addr} {od16 an16 : Option Addr} {sl16 : Array (Option Value)} {oc16 kV16 dc16 pm16 ct16 cd16 : Value}
    {f17 : Addr} {od17 an17 : Option Addr} {sl17 : Array (Option Value)} {oc17 kV17 dc17 pm17 ct17 cd17 : Value}
    {f18 : Addr} {od18 an18 : Option Addr} {sl18 : Array (Option Value)} {oc18 kV18 dc18 pm18 ct18 cd18 : Value}
    {f19 : Addr} {od19 an19 : Option Addr} {sl19 : Array (Option Value)} {oc19 kV19 dc19 pm19 ct19 cd19 : Value}
    {f20 : Addr} {od20 an20 : Option Addr} {sl20 : Array (Option Value)} {oc20 kV20 dc20 pm20 ct20 cd20 : Value}
    {f21 : Addr} {od21 an21 : Option Addr} {sl21 : Array (Option Value)} {oc21 kV21 dc21 pm21 ct21 cd21 : Value}
    {f22 : Addr} {od22 an22 : Option Addr} {sl22 : Array (Option Value)} {oc22 kV22 dc22 pm22 ct22 cd22 : Value}
    {f23 : Addr} {od23 an23 : Option Addr} {sl23 : Array (Option Value)} {oc23 kV23 dc23 pm23 ct23 cd23 : Value}
    {f24 : Addr} {od24 an24 : Option Addr} {sl24 : Array (Option Value)} {oc24 kV24 dc24 pm24 ct24 cd24 : Value}
    {f25 : Addr} {od25 an25 : Option Addr} {sl25 : Array (Option Value)} {oc25 kV25 dc25 pm25 ct25 cd25 : Value}
    {f26 : Addr} {od26 an26 : Option Addr} {sl26 : Array (Option Value)} {oc26 kV26 dc26 pm26 ct26 cd26 : Value}
    {f27 : Addr} {od27 an27 : Option Addr} {sl27 : Array (Option Value)} {oc27 kV27 dc27 pm27 ct27 cd27 : Value}
    {f28 : Addr} {od28 an28 : Option Addr} {sl28 : Array (Option Value)} {oc28 kV28 dc28 pm28 ct28 cd28 : Value}
    {f29 : Addr} {od29 an29 : Option Addr} {sl29 : Array (Option Value)} {oc29 kV29 dc29 pm29 ct29 : Value}
    {cO29 Pt29 : Addr} {co29 : Value} {cdd29 : Option Addr} {cvs29 : Array Value} {csl29 : Array (Option Value)}
    {f30 : Addr} {od30 an30 : Option Addr} {sl30 : Array (Option Value)} {oc30 kV30 dc30 pm30 ct30 : Value}
    {cO30 Pt30 : Addr} {co30 : Value} {cdd30 : Option Addr} {cvs30 : Array Value} {csl30 : Array (Option Value)}
    {CM NM : Addr} {nmM qM : Str} {bsM bmM subM : List Value} {snM : List Str} {abM : Bool} {colM : Option Bool} {ddM : Option Addr} {m0M m1M m2M m3M m5M : Option Value}
    {fI cdI ccI : Addr} {ocI kVI dcI pmI ctI clI cclI : Value} {odI anI cldI cddI : Option Addr} {slI cslI ccsI : Array (Option Value)} {vsI : Array Value} {fileI : Str} {tfI : Tok}
    {d2 : Addr} {mm2 : Nat} {us2 : Array Value} {od_2 : Option Addr} {sl_2 : Array (Option Value)}
    {CR : Addr}
    {CE : Addr}
    {t1 : Tok}
    {t2 : Tok}
    {t3 : Tok}
    (a0 : PySem.W.nsIn K mainGlobals "is_whole" = some (some (.ref f0)))
    (l0 : K.lookup f0 = some ⟨oc0, od0, .func (PySem.W.fnOf "is_whole" "is_whole" (defArgs sIsWhole) (defBody sIsWhole) (defScope sIsWhole) .none kV0 dc0 pm0 an0 cd0 ct0), sl0⟩)
    (c0 : PySem.W.codeIn K cd0 "is_whole" = true)
    (k0 : PySem.W.keepIn K (.ref f0) = true)
    (a1 : PySem.W.nsIn K mainGlobals "is_tuple_of" = some (some (.ref f1)))
    (l1 : K.lookup f1 = some ⟨oc1, od1, .func (PySem.W.fnOf "is_tuple_of" "is_tuple_of" (defArgs sTupleOf) (defBody sTupleOf) (defScope sTupleOf) .none kV1 dc1 pm1 an1 cd1 ct1), sl1⟩)
    (c1 : PySem.W.codeIn K cd1 "is_tuple_of" = true)
    (k1 : PySem.W.keepIn K (.ref f1) = true)
    (a2 : PySem.W.nsIn K mainGlobals "is_list" = some (some (.ref f2)))
    (l2 : K.lookup f2 = some ⟨oc2, od2, .func (PySem.W.fnOf "is_list" "is_list" (defArgs sIsList) (defBody sIsList) (defScope sIsList) .none kV2 dc2 pm2 an2 cd2 ct2), sl2⟩)
    (c2 : PySem.W.codeIn K cd2 "is_list" = true)
    (k2 : PySem.W.keepIn K (.ref f2) = true)
    (a3 : PySem.W.nsIn K mainGlobals "digits_of" = some (some (.ref f3)))
    (l3 : K.lookup f3 = some ⟨oc3, od3, .func (PySem.W.fnOf "digits_of" "digits_of" (defArgs sDigits) (defBody sDigits) (defScope sDigits) .none kV3 dc3 pm3 an3 cd3 ct3), sl3⟩)
    (c3 : PySem.W.codeIn K cd3 "digits_of" = true)
    (k3 : PySem.W.keepIn K (.ref f3) = true)
    (a4 : PySem.W.nsIn K mainGlobals "whole_of" = some (some (.ref f4)))
    (l4 : K.lookup f4 = some ⟨oc4, od4, .func (PySem.W.fnOf "whole_of" "whole_of" (defArgs sWholeOf) (defBody sWholeOf) (defScope sWholeOf) .none kV4 dc4 pm4 an4 cd4 ct4), sl4⟩)
    (c4 : PySem.W.codeIn K cd4 "whole_of" = true)
    (k4 : PySem.W.keepIn K (.ref f4) = true)
    (a5 : PySem.W.nsIn K mainGlobals "whole_text" = some (some (.ref f5)))
    (l5 : K.lookup f5 = some ⟨oc5, od5, .func (PySem.W.fnOf "whole_text" "whole_text" (defArgs sWText) (defBody sWText) (defScope sWText) .none kV5 dc5 pm5 an5 cd5 ct5), sl5⟩)
    (c5 : PySem.W.codeIn K cd5 "whole_text" = true)
    (k5 : PySem.W.keepIn K (.ref f5) = true)
    (a6 : PySem.W.nsIn K mainGlobals "row_text" = some (some (.ref f6)))
    (l6 : K.lookup f6 = some ⟨oc6, od6, .func (PySem.W.fnOf "row_text" "row_text" (defArgs sRText) (defBody sRText) (defScope sRText) .none kV6 dc6 pm6 an6 cd6 ct6), sl6⟩)
    (c6 : PySem.W.codeIn K cd6 "row_text" = true)
    (k6 : PySem.W.keepIn K (.ref f6) = true)
    (a7 : PySem.W.nsIn K mainGlobals "whole_of_text" = some (some (.ref f7)))
    (l7 : K.lookup f7 = some ⟨oc7, od7, .func (PySem.W.fnOf "whole_of_text" "whole_of_text" (defArgs sWOText) (defBody sWOText) (defScope sWOText) .none kV7 dc7 pm7 an7 cd7 ct7), sl7⟩)
    (c7 : PySem.W.codeIn K cd7 "whole_of_text" = true)
    (k7 : PySem.W.keepIn K (.ref f7) = true)
    (a8 : PySem.W.nsIn K mainGlobals "row_of_line" = some (some (.ref f8)))
    (l8 : K.lookup f8 = some ⟨oc8, od8, .func (PySem.W.fnOf "row_of_line" "row_of_line" (defArgs sLine) (defBody sLine) (defScope sLine) .none kV8 dc8 pm8 an8 cd8 ct8), sl8⟩)
    (c8 : PySem.W.codeIn K cd8 "row_of_line" = true)
    (k8 : PySem.W.keepIn K (.ref f8) = true)
    (a9 : PySem.W.nsIn K mainGlobals "text_of" = some (some (.ref f9)))
    (l9 : K.lookup f9 = some ⟨oc9, od9, .func (PySem.W.fnOf "text_of" "text_of" (defArgs sTextOf) (defBody sTextOf) (defScope sTextOf) .none kV9 dc9 pm9 an9 cd9 ct9), sl9⟩)
    (c9 : PySem.W.codeIn K cd9 "text_of" = true)
    (k9 : PySem.W.keepIn K (.ref f9) = true)
    (a10 : PySem.W.nsIn K mainGlobals "is_index" = some (some (.ref f10)))
    (l10 : K.lookup f10 = some ⟨oc10, od10, .func (PySem.W.fnOf "is_index" "is_index" (defArgs sIndex) (defBody sIndex) (defScope sIndex) .none kV10 dc10 pm10 an10 cd10 ct10), sl10⟩)
    (c10 : PySem.W.codeIn K cd10 "is_index" = true)
    (k10 : PySem.W.keepIn K (.ref f10) = true)
    (a11 : PySem.W.nsIn K mainGlobals "is_row" = some (some (.ref f11)))
    (l11 : K.lookup f11 = some ⟨oc11, od11, .func (PySem.W.fnOf "is_row" "is_row" (defArgs sRow) (defBody sRow) (defScope sRow) .none kV11 dc11 pm11 an11 cd11 ct11), sl11⟩)
    (c11 : PySem.W.codeIn K cd11 "is_row" = true)
    (k11 : PySem.W.keepIn K (.ref f11) = true)
    (a12 : PySem.W.nsIn K mainGlobals "is_reckoning" = some (some (.ref f12)))
    (l12 : K.lookup f12 = some ⟨oc12, od12, .func (PySem.W.fnOf "is_reckoning" "is_reckoning" (defArgs sReck) (defBody sReck) (defScope sReck) .none kV12 dc12 pm12 an12 cd12 ct12), sl12⟩)
    (c12 : PySem.W.codeIn K cd12 "is_reckoning" = true)
    (k12 : PySem.W.keepIn K (.ref f12) = true)
    (a13 : PySem.W.nsIn K mainGlobals "check_rows" = some (some (.ref f13)))
    (l13 : K.lookup f13 = some ⟨oc13, od13, .func (PySem.W.fnOf "check_rows" "check_rows" (defArgs sCheck) (defBody sCheck) (defScope sCheck) .none kV13 dc13 pm13 an13 cd13 ct13), sl13⟩)
    (c13 : PySem.W.codeIn K cd13 "check_rows" = true)
    (k13 : PySem.W.keepIn K (.ref f13) = true)
    (a14 : PySem.W.nsIn K mainGlobals "reckoning_text" = some (some (.ref f14)))
    (l14 : K.lookup f14 = some ⟨oc14, od14, .func (PySem.W.fnOf "reckoning_text" "reckoning_text" (defArgs sRecText) (defBody sRecText) (defScope sRecText) .none kV14 dc14 pm14 an14 cd14 ct14), sl14⟩)
    (c14 : PySem.W.codeIn K cd14 "reckoning_text" = true)
    (k14 : PySem.W.keepIn K (.ref f14) = true)
    (a15 : PySem.W.nsIn K mainGlobals "reckoning_of" = some (some (.ref f15)))
    (l15 : K.lookup f15 = some ⟨oc15, od15, .func (PySem.W.fnOf "reckoning_of" "reckoning_of" (defArgs sRecOf) (defBody sRecOf) (defScope sRecOf) .none kV15 dc15 pm15 an15 cd15 ct15), sl15⟩)
    (c15 : PySem.W.codeIn K cd15 "reckoning_of" = true)
    (k15 : PySem.W.keepIn K (.ref f15) = true)
    (a16 : PySem.W.nsIn K mainGlobals "_law_begun" = some (some (.ref f16)))
    (l16 : K.lookup f16 = some ⟨oc16, od16, .func (PySem.W.fnOf "_law_begun" "_law_begun" (defArgs sBegun) (defBody sBegun) (defScope sBegun) .none kV16 dc16 pm16 an16 cd16 ct16), sl16⟩)
    (c16 : PySem.W.codeIn K cd16 "_law_begun" = true)
    (k16 : PySem.W.keepIn K (.ref f16) = true)
    (a17 : PySem.W.nsIn K mainGlobals "_law_stirred" = some (some (.ref f17)))
    (l17 : K.lookup f17 = some ⟨oc17, od17, .func (PySem.W.fnOf "_law_stirred" "_law_stirred" (defArgs sStirred) (defBody sStirred) (defScope sStirred) .none kV17 dc17 pm17 an17 cd17 ct17), sl17⟩)
    (c17 : PySem.W.codeIn K cd17 "_law_stirred" = true)
    (k17 : PySem.W.keepIn K (.ref f17) = true)
    (a18 : PySem.W.nsIn K mainGlobals "_law_draw" = some (some (.ref f18)))
    (l18 : K.lookup f18 = some ⟨oc18, od18, .func (PySem.W.fnOf "_law_draw" "_law_draw" (defArgs sDraw) (defBody sDraw) (defScope sDraw) .none kV18 dc18 pm18 an18 cd18 ct18), sl18⟩)
    (c18 : PySem.W.codeIn K cd18 "_law_draw" = true)
    (k18 : PySem.W.keepIn K (.ref f18) = true)
    (a19 : PySem.W.nsIn K mainGlobals "_law_pick" = some (some (.ref f19)))
    (l19 : K.lookup f19 = some ⟨oc19, od19, .func (PySem.W.fnOf "_law_pick" "_law_pick" (defArgs sPick) (defBody sPick) (defScope sPick) .none kV19 dc19 pm19 an19 cd19 ct19), sl19⟩)
    (c19 : PySem.W.codeIn K cd19 "_law_pick" = true)
    (k19 : PySem.W.keepIn K (.ref f19) = true)
    (a20 : PySem.W.nsIn K mainGlobals "_law_caught" = some (some (.ref f20)))
    (l20 : K.lookup f20 = some ⟨oc20, od20, .func (PySem.W.fnOf "_law_caught" "_law_caught" (defArgs sCaught) (defBody sCaught) (defScope sCaught) .none kV20 dc20 pm20 an20 cd20 ct20), sl20⟩)
    (c20 : PySem.W.codeIn K cd20 "_law_caught" = true)
    (k20 : PySem.W.keepIn K (.ref f20) = true)
    (a21 : PySem.W.nsIn K mainGlobals "_law_is_whole" = some (some (.ref f21)))
    (l21 : K.lookup f21 = some ⟨oc21, od21, .func (PySem.W.fnOf "_law_is_whole" "_law_is_whole" (defArgs sLWhole) (defBody sLWhole) (defScope sLWhole) .none kV21 dc21 pm21 an21 cd21 ct21), sl21⟩)
    (c21 : PySem.W.codeIn K cd21 "_law_is_whole" = true)
    (k21 : PySem.W.keepIn K (.ref f21) = true)
    (a22 : PySem.W.nsIn K mainGlobals "_law_is_rows" = some (some (.ref f22)))
    (l22 : K.lookup f22 = some ⟨oc22, od22, .func (PySem.W.fnOf "_law_is_rows" "_law_is_rows" (defArgs sLRows) (defBody sLRows) (defScope sLRows) .none kV22 dc22 pm22 an22 cd22 ct22), sl22⟩)
    (c22 : PySem.W.codeIn K cd22 "_law_is_rows" = true)
    (k22 : PySem.W.keepIn K (.ref f22) = true)
    (a23 : PySem.W.nsIn K mainGlobals "_law_drawn_rows" = some (some (.ref f23)))
    (l23 : K.lookup f23 = some ⟨oc23, od23, .func (PySem.W.fnOf "_law_drawn_rows" "_law_drawn_rows" (defArgs sDrawnRows) (defBody sDrawnRows) (defScope sDrawnRows) .none kV23 dc23 pm23 an23 cd23 ct23), sl23⟩)
    (c23 : PySem.W.codeIn K cd23 "_law_drawn_rows" = true)
    (k23 : PySem.W.keepIn K (.ref f23) = true)
    (a24 : PySem.W.nsIn K mainGlobals "_law_written" = some (some (.ref f24)))
    (l24 : K.lookup f24 = some ⟨oc24, od24, .func (PySem.W.fnOf "_law_written" "_law_written" (defArgs sWritten) (defBody sWritten) (defScope sWritten) .none kV24 dc24 pm24 an24 cd24 ct24), sl24⟩)
    (c24 : PySem.W.codeIn K cd24 "_law_written" = true)
    (k24 : PySem.W.keepIn K (.ref f24) = true)
    (a25 : PySem.W.nsIn K mainGlobals "_law_whole_of" = some (some (.ref f25)))
    (l25 : K.lookup f25 = some ⟨oc25, od25, .func (PySem.W.fnOf "_law_whole_of" "_law_whole_of" (defArgs sLWholeOf) (defBody sLWholeOf) (defScope sLWholeOf) .none kV25 dc25 pm25 an25 cd25 ct25), sl25⟩)
    (c25 : PySem.W.codeIn K cd25 "_law_whole_of" = true)
    (k25 : PySem.W.keepIn K (.ref f25) = true)
    (a26 : PySem.W.nsIn K mainGlobals "_law_first_bad_line" = some (some (.ref f26)))
    (l26 : K.lookup f26 = some ⟨oc26, od26, .func (PySem.W.fnOf "_law_first_bad_line" "_law_first_bad_line" (defArgs sFirst) (defBody sFirst) (defScope sFirst) .none kV26 dc26 pm26 an26 cd26 ct26), sl26⟩)
    (c26 : PySem.W.codeIn K cd26 "_law_first_bad_line" = true)
    (k26 : PySem.W.keepIn K (.ref f26) = true)
    (a27 : PySem.W.nsIn K mainGlobals "_law_long_rows" = some (some (.ref f27)))
    (l27 : K.lookup f27 = some ⟨oc27, od27, .func (PySem.W.fnOf "_law_long_rows" "_law_long_rows" (defArgs sLong) (defBody sLong) (defScope sLong) .none kV27 dc27 pm27 an27 cd27 ct27), sl27⟩)
    (c27 : PySem.W.codeIn K cd27 "_law_long_rows" = true)
    (k27 : PySem.W.keepIn K (.ref f27) = true)
    (a28 : PySem.W.nsIn K mainGlobals "_law_bent" = some (some (.ref f28)))
    (l28 : K.lookup f28 = some ⟨oc28, od28, .func (PySem.W.fnOf "_law_bent" "_law_bent" (defArgs sBent) (defBody sBent) (defScope sBent) .none kV28 dc28 pm28 an28 cd28 ct28), sl28⟩)
    (c28 : PySem.W.codeIn K cd28 "_law_bent" = true)
    (k28 : PySem.W.keepIn K (.ref f28) = true)
    (a29 : PySem.W.nsIn K mainGlobals "_law_read_right" = some (some (.ref f29)))
    (l29 : K.lookup f29 = some ⟨oc29, od29, .func (PySem.W.fnOf "_law_read_right" "_law_read_right" (defArgs sRight) (defBody sRight) (defScope sRight) .none kV29 dc29 pm29 an29 (.ref cO29) ct29), sl29⟩)
    (c29 : PySem.W.codeIn K (.ref cO29) "_law_read_right" = true)
    (k29 : PySem.W.keepIn K (.ref f29) = true)
    (co29 : K.lookup cO29 = some ⟨co29, cdd29, .fields cvs29, csl29⟩)
    (cp29 : cvs29[11]? = some (.ref Pt29))
    (cn29 : K.lookup Pt29 = none)
    (a30 : PySem.W.nsIn K mainGlobals "law" = some (some (.ref f30)))
    (l30 : K.lookup f30 = some ⟨oc30, od30, .func (PySem.W.fnOf "law" "law" (defArgs sLaw) (defBody sLaw) (defScope sLaw) .none kV30 dc30 pm30 an30 (.ref cO30) ct30), sl30⟩)
    (c30 : PySem.W.codeIn K (.ref cO30) "law" = true)
    (k30 : PySem.W.keepIn K (.ref f30) = true)
    (co30 : K.lookup cO30 = some ⟨co30, cdd30, .fields cvs30, csl30⟩)
    (cp30 : cvs30[11]? = some (.ref Pt30))
    (cn30 : K.lookup Pt30 = none)
    (gCR : PySem.W.nsIn K mainGlobals "RulerError" = some (some (.ref CR)))
    (eCR : PySem.W.excIn K CR [.type "ValueError", .type "Exception", .type "BaseException", .type "object"] "ValueError.__new__" = true)
    (kpCR : PySem.W.keepIn K (.ref CR) = true)
    (sbCR : PySem.W.subIn K (.ref CR) (.type "BaseException") = some true)
    (tyCR : PySem.W.typeIn K (.ref CR) = some (.type "type"))
    (gaCR : PySem.W.findIn K (.ref CR) "__getattribute__" = some (some (.builtin "BaseException.__getattribute__")))
    (gtCR : PySem.W.findIn K (.ref CR) "__getattr__" = some none)
    (hdCR : PySem.W.hasDictIn K CR = true)
    (clCR : PySem.W.findIn K (.ref CR) "__class__" = some (some (.builtin "object.__class__")))
    (mrCR : PySem.W.mroIn K CR (.type "object") = some true)
    (gCE : PySem.W.nsIn K mainGlobals "BadRows" = some (some (.ref CE)))
    (eCE : PySem.W.excIn K CE [.type "ValueError", .type "Exception", .type "BaseException", .type "object"] "ValueError.__new__" = true)
    (kpCE : PySem.W.keepIn K (.ref CE) = true)
    (sbCE : PySem.W.subIn K (.ref CE) (.type "BaseException") = some true)
    (tyCE : PySem.W.typeIn K (.ref CE) = some (.type "type"))
    (gaCE : PySem.W.findIn K (.ref CE) "__getattribute__" = some (some (.builtin "BaseException.__getattribute__")))
    (gtCE : PySem.W.findIn K (.ref CE) "__getattr__" = some none)
    (hdCE : PySem.W.hasDictIn K CE = true)
    (clCE : PySem.W.findIn K (.ref CE) "__class__" = some (some (.builtin "object.__class__")))
    (mrCE : PySem.W.mroIn K CE (.type "object") = some true)
    (sn : PySem.W.specialIn K (.builtin "object.__class__") "__get__" = some (some (.builtin "getset_descriptor.__get__")))
    (tk : PySem.W.takesIn K (.builtin "object.__class__") = some true)
    (sCE : PySem.W.subIn K (.ref CE) (.ref CR) = some true)
    (gCM : PySem.W.nsIn K mainGlobals "BadLine" = some (some (.ref CM)))
    (xCM : K.lookup CM = some (excClassObj nmM qM CM NM bsM bmM true snM subM abM colM ddM m0M m1M m2M m3M m5M "ValueError.__new__"))
    (rvM : PySem.HandSPX.refsVE bmM = true)
    (kpCM : PySem.W.keepIn K (.ref CM) = true)
    (sbCM : PySem.W.subIn K (.ref CM) (.type "BaseException") = some true)
    (tyCM : PySem.W.typeIn K (.ref CM) = some (.type "type"))
    (gaCM : PySem.W.findIn K (.ref CM) "__getattribute__" = some (some (.builtin "BaseException.__getattribute__")))
    (gtCM : PySem.W.findIn K (.ref CM) "__getattr__" = some none)
    (hdCM : PySem.W.hasDictIn K CM = true)
    (clCM : PySem.W.findIn K (.ref CM) "__class__" = some (some (.builtin "object.__class__")))
    (mrCM : PySem.W.mroIn K CM (.type "object") = some true)
    (saCM : PySem.W.findIn K (.ref CM) "__setattr__" = some (some (.builtin "object.__setattr__")))
    (iM : PySem.W.findIn K (.ref CM) "__init__" = some (some (.ref fI)))
    (tI : PySem.W.typeIn K (.ref fI) = some (.type "function"))
    (lI : K.lookup fI = some ⟨ocI, odI, .func (PySem.W.ksFn "__init__" "BadLine.__init__" (defArgs sInit) (defBody sInit) (defScope sInit) .none kVI dcI pmI anI (.ref cdI) ctI ccI), slI⟩)
    (cI : PySem.W.codeIn K (.ref cdI) "BadLine.__init__" = true)
    (cellI : K.lookup ccI = some ⟨clI, cldI, .cell (some (.ref CM)), cslI⟩)
    (coI : K.lookup cdI = some ⟨cclI, cddI, .fields vsI, ccsI⟩)
    (viI : vsI[2]? = some (.str fileI tfI))
    (hfI : ((l.prog.main.file : Str) == fileI) = true)
    (icM : PySem.W.isClsIn K CM = true)
    (suM : PySem.W.mroIn K CM (.ref CM) = some true)
    (opM : PySem.W.nsIn K PySem.cStatics "thirdparty.any" = some none)
    (waM : PySem.W.ks_superIn K CM CM "__init__" = some (some (.builtin "ValueError.__init__")))
    (ivM : PySem.W.subIn K (.ref CM) (.type "ValueError") = some true)
    (topM : (l.prog.main.scope.names.lookup ("super" : Str)).isSome = false)
    (frM : PySem.W.findIn K (.ref CM) "at" = some none)
    (sCM : PySem.W.subIn K (.ref CM) (.ref CR) = some true)
    (gD2 : PySem.W.nsIn K mainGlobals "WORDS_WITH_TWO" = some (some (.ref d2)))
    (hD2 : K.lookup d2 = some ⟨.type "tuple", od_2, .seq us2 mm2, sl_2⟩)
    (vD2 : Vals (twoS.map V.str) us2.toList)
    (nPt : Pt29 ≠ Pt30)
    (n_t1 : PySem.W.nsIn K mainGlobals "DIGITS" = some (some (.str "0123456789" t1)))
    (n_t2 : PySem.W.nsIn K mainGlobals "PIECE_DIGITS" = some (some (.int 60 t2)))
    (n_t3 : PySem.W.nsIn K mainGlobals "PIECE" = some (some (.int R7.piece t3)))
    (z_isinstance : PySem.W.nsIn K mainGlobals "isinstance" = some none)
    (z_int : PySem.W.nsIn K mainGlobals "int" = some none)
    (z_bool : PySem.W.nsIn K mainGlobals "bool" = some none)
    (z_str : PySem.W.nsIn K mainGlobals "str" = some none)
    (z_len : PySem.W.nsIn K mainGlobals "len" = some none)
    (z_all : PySem.W.nsIn K mainGlobals "all" = some none)
    (z_tuple : PySem.W.nsIn K mainGlobals "tuple" = some none)
    (z_list : PySem.W.nsIn K mainGlobals "list" = some none)
    (z_enumerate : PySem.W.nsIn K mainGlobals "enumerate" = some none)
    (z_abs : PySem.W.nsIn K mainGlobals "abs" = some none)
    (z_range : PySem.W.nsIn K mainGlobals "range" = some none)
    (z_min : PySem.W.nsIn K mainGlobals "min" = some none)
    (z_super : PySem.W.nsIn K mainGlobals "super" = some none)
    : LamX.LawAtS l w K L2.CX0 9 63 "script" mg fa h := by
  have e := hfa.symm.trans (PySem.W.mg_of X G a30)
  cases e
  have F0 := fun_mk (st := sIsWhole) l0 c0 k0
  have b0 := F0.binds (ps := ["value"]) fun _ _ _ _ _ _ us hl => match us, hl with | [_], _ => rfl
  have F1 := fun_mk (st := sTupleOf) l1 c1 k1
  have b1 := F1.binds (ps := ["value", "size"]) fun _ _ _ _ _ _ us hl => match us, hl with | [_, _], _ => rfl
  have F2 := fun_mk (st := sIsList) l2 c2 k2
  have b2 := F2.binds (ps := ["value"]) fun _ _ _ _ _ _ us hl => match us, hl with | [_], _ => rfl
  have F3 := fun_mk (st := sDigits) l3 c3 k3
  have b3 := F3.binds (ps := ["n"]) fun _ _ _ _ _ _ us hl => match us, hl with | [_], _ => rfl
  have F4 := fun_mk (st := sWholeOf) l4 c4 k4
  have b4 := F4.binds (ps := ["digits"]) fun _ _ _ _ _ _ us hl => match us, hl with | [_], _ => rfl
  have F5 := fun_mk (st := sWText) l5 c5 k5
  have b5 := F5.binds (ps := ["n"]) fun _ _ _ _ _ _ us hl => match us, hl with | [_], _ => rfl
  have F6 := fun_mk (st := sRText) l6 c6 k6
  have b6 := F6.binds (ps := ["row"]) fun _ _ _ _ _ _ us hl => match us, hl with | [_], _ => rfl
  have F7 := fun_mk (st := sWOText) l7 c7 k7
  have b7 := F7.binds (ps := ["text"]) fun _ _ _ _ _ _ us hl => match us, hl with | [_], _ => rfl
  have F8 := fun_mk (st := sLine) l8 c8 k8
  have b8 := F8.binds (ps := ["line"]) fun _ _ _ _ _ _ us hl => match us, hl with | [_], _ => rfl
  have F9 := fun_mk (st := sTextOf) l9 c9 k9
  have b9 := F9.binds (ps := ["lines"]) fun _ _ _ _ _ _ us hl => match us, hl with | [_], _ => rfl
  have F10 := fun_mk (st := sIndex) l10 c10 k10
  have b10 := F10.binds (ps := ["value", "many"]) fun _ _ _ _ _ _ us hl => match us, hl with | [_, _], _ => rfl
  have F11 := fun_mk (st := sRow) l11 c11 k11
  have b11 := F11.binds (ps := ["value", "many"]) fun _ _ _ _ _ _ us hl => match us, hl with | [_, _], _ => rfl
  have F12 := fun_mk (st := sReck) l12 c12 k12
  have b12 := F12.binds (ps := ["value"]) fun _ _ _ _ _ _ us hl => match us, hl with | [_], _ => rfl
  have F13 := fun_mk (st := sCheck) l13 c13 k13
  have b13 := F13.binds (ps := ["value"]) fun _ _ _ _ _ _ us hl => match us, hl with | [_], _ => rfl
  have F14 := fun_mk (st := sRecText) l14 c14 k14
  have b14 := F14.binds (ps := ["rows"]) fun _ _ _ _ _ _ us hl => match us, hl with | [_], _ => rfl
  have F15 := fun_mk (st := sRecOf) l15 c15 k15
  have b15 := F15.binds (ps := ["text"]) fun _ _ _ _ _ _ us hl => match us, hl with | [_], _ => rfl
  have F16 := fun_mk (st := sBegun) l16 c16 k16
  have b16 := F16.binds (ps := ["script"]) fun _ _ _ _ _ _ us hl => match us, hl with | [_], _ => rfl
  have F17 := fun_mk (st := sStirred) l17 c17 k17
  have b17 := F17.binds (ps := ["state"]) fun _ _ _ _ _ _ us hl => match us, hl with | [_], _ => rfl
  have F18 := fun_mk (st := sDraw) l18 c18 k18
  have b18 := F18.binds (ps := ["state", "size"]) fun _ _ _ _ _ _ us hl => match us, hl with | [_, _], _ => rfl
  have F19 := fun_mk (st := sPick) l19 c19 k19
  have b19 := F19.binds (ps := ["state", "some"]) fun _ _ _ _ _ _ us hl => match us, hl with | [_, _], _ => rfl
  have F20 := fun_mk (st := sCaught) l20 c20 k20
  have b20 := F20.binds (ps := ["action"]) fun _ _ _ _ _ _ us hl => match us, hl with | [_], _ => rfl
  have F21 := fun_mk (st := sLWhole) l21 c21 k21
  have b21 := F21.binds (ps := ["value"]) fun _ _ _ _ _ _ us hl => match us, hl with | [_], _ => rfl
  have F22 := fun_mk (st := sLRows) l22 c22 k22
  have b22 := F22.binds (ps := ["value"]) fun _ _ _ _ _ _ us hl => match us, hl with | [_], _ => rfl
  have F23 := fun_mk (st := sDrawnRows) l23 c23 k23
  have b23 := F23.binds (ps := ["state", "words", "size", "most"]) fun _ _ _ _ _ _ us hl => match us, hl with | [_, _, _, _], _ => rfl
  have F24 := fun_mk (st := sWritten) l24 c24 k24
  have b24 := F24.binds (ps := ["rows"]) fun _ _ _ _ _ _ us hl => match us, hl with | [_], _ => rfl
  have F25 := fun_mk (st := sLWholeOf) l25 c25 k25
  have b25 := F25.binds (ps := ["word"]) fun _ _ _ _ _ _ us hl => match us, hl with | [_], _ => rfl
  have F26 := fun_mk (st := sFirst) l26 c26 k26
  have b26 := F26.binds (ps := ["text"]) fun _ _ _ _ _ _ us hl => match us, hl with | [_], _ => rfl
  have F27 := fun_mk (st := sLong) l27 c27 k27
  have b27 := F27.binds (ps := ["state"]) fun _ _ _ _ _ _ us hl => match us, hl with | [_], _ => rfl
  have F28 := fun_mk (st := sBent) l28 c28 k28
  have b28 := F28.binds (ps := ["state", "text"]) fun _ _ _ _ _ _ us hl => match us, hl with | [_, _], _ => rfl
  have F29 := fun_mk (st := sRight) l29 c29 k29
  have b29 := F29.binds (ps := ["text"]) fun _ _ _ _ _ _ us hl => match us, hl with | [_], _ => rfl
  have tb29 : PySem.W.tabIn K "_law_read_right" = some (cO29, Pt29) := by
    unfold PySem.W.tabIn
    simp only [a29, l29, co29, cp29, PySem.W.fnOf]
  have F30 := fun_mk (st := sLaw) l30 c30 k30
  have b30 := F30.binds (ps := ["script"]) fun _ _ _ _ _ _ us hl => match us, hl with | [_], _ => rfl
  have tb30 : PySem.W.tabIn K "law" = some (cO30, Pt30) := by
    unfold PySem.W.tabIn
    simp only [a30, l30, co30, cp30, PySem.W.fnOf]
  have exm_ := fun {C : Addr} (s : PySem.W.subIn K (.ref C) (.ref CR) = some true) => (PySem.W.exm_ref sbCR hdCR tyCR s : PySem.W.exmOne K (.ref C) (.ref CR) = some true)
  have kit_ : ∀ C : Addr, PySem.W.kitOne K (.ref C) (.ref C) = some true := fun C => by unfold PySem.W.kitOne; rw [if_pos (beq_self_eq_true _)]
  have mg_ := fun {x : Str} {v : Value} (e : PySem.W.nsIn K mainGlobals x = some (some v)) => PySem.W.mg_of X G e
  have m0_ := fun {x : Str} (e : PySem.W.nsIn K mainGlobals x = some none) => PySem.W.mg_none_of X G e
  refine ⟨PySem.W.fnOf "law" "law" (defArgs sLaw) (defBody sLaw) (defScope sLaw) .none kV30 dc30 pm30 an30 (.ref cO30) ct30, [(cO30, Pt30), (cO29, Pt29)], spLaw K Pt30 Pt29, fun p hp => ?_, fun p hp => ?_, fun p hp => ?_, fun s u => .of_eq rfl, fun H a ns hl _ hT hS => ?_, fun base hb hn hTB => ?_⟩
  · rcases List.mem_cons.mp hp with rfl | hp
    · exact (own "law" (List.mem_cons_of_mem _ (List.mem_singleton.mpr rfl)) cO30 Pt30 tb30).2
    · cases List.mem_singleton.mp hp
      exact (own "_law_read_right" List.mem_cons_self cO29 Pt29 tb29).2
  · rcases List.mem_cons.mp hp with rfl | hp
    · exact cn30
    · cases List.mem_singleton.mp hp
      exact cn29
  · rcases List.mem_cons.mp hp with rfl | hp
    · exact (own "law" (List.mem_cons_of_mem _ (List.mem_singleton.mpr rfl)) cO30 Pt30 tb30).1
    · cases List.mem_singleton.mp hp
      exact (own "_law_read_right" List.mem_cons_self cO29 Pt29 tb29).1
  · exact ⟨a, ns, rfl, hS, hl, hT _ List.mem_cons_self, hT _ (List.mem_cons_of_mem _ (List.mem_singleton.mpr rfl)), fun _ => rfl⟩
  · have TE : R6.TxtE K mg "BadRows" CE := ⟨mg_ gCE, eCE, kpCE, sbCE, tyCE⟩
    have OX : OexC K CM := ⟨⟨nmM, qM, NM, bsM, bmM, snM, subM, abM, colM, ddM, m0M, m1M, m2M, m3M, m5M, xCM, rvM⟩, saCM, sbCM, tyCM, kpCM⟩
    have SC : SupInit.SupC l.prog K mg CM "at" := ⟨OX, Option.isSome_iff_exists.mp icM, suM, m0_ z_super, opM, waM, ivM, topM, frM⟩
    have EM : ExcC K CM := ⟨gaCM, gtCM, sbCM, hdCM, clCM, sn, tk, mrCM⟩
    have EE : ExcC K CE := ⟨gaCE, gtCE, sbCE, hdCE, clCE, sn, tk, mrCE⟩
    have WK2 : R4.WordsK K d2 twoS := words_of hD2 vD2 (by decide)
    have GI : FnOk l.prog w K mg base CX0 1 fI _ ["self", "at"] (SupInit.spSup CM "at") := SupInit.ok_sup (st := sInit) lI cI rfl rfl SC ⟨by decide, by decide, by decide⟩ (by decide) (by decide) cellI rfl rfl coI viI hfI (fun _ => rfl) (fun _ => rfl)
    have bI : L2.Binds K (PySem.W.ksFn "__init__" "BadLine.__init__" (defArgs sInit) (defBody sInit) (defScope sInit) .none kVI dcI pmI anI (.ref cdI) ctI ccI) ["self", "at"] [] := L2.Binds.all fun us hl => match us, hl with | [_, _], _ => rfl
    have gWhole := R4.ok_whole (mg := mg) (base := base) (P := l.prog) (w := w) F0 (m0_ z_isinstance) (m0_ z_int) (m0_ z_bool)
    have gTup := R4.ok_tupleOf (mg := mg) (base := base) (P := l.prog) (w := w) F1 (m0_ z_isinstance) (m0_ z_tuple) (m0_ z_len)
    have gLis := R6.ok_isList (mg := mg) (base := base) (P := l.prog) (w := w) F2 (m0_ z_isinstance) (m0_ z_tuple) (m0_ z_list)
    have gIx := R4.ok_index (mg := mg) (base := base) (P := l.prog) (w := w) F10 F0 gWhole b0 (mg_ a0)
    have gRow := R4.ok_row (mg := mg) (base := base) (P := l.prog) (w := w) F11 F0 gWhole b0 (mg_ a0) F1 gTup b1 (mg_ a1) F10 gIx b10 (mg_ a10) WK2 (mg_ gD2) (m0_ z_isinstance) (m0_ z_tuple) (m0_ z_str) (m0_ z_len)
    have gReck := R6.ok_reck (mg := mg) (base := base) (P := l.prog) (w := w) F12 F2 gLis b2 (mg_ a2) F11 gRow b11 (mg_ a11) (m0_ z_len) (m0_ z_all) (m0_ z_enumerate)
    have gChk := R6.ok_check (mg := mg) (base := base) (P := l.prog) (w := w) F13 F12 gReck b12 (mg_ a12) TE
    have gDig := R7.ok_digits (mg := mg) (base := base) (P := l.prog) (w := w) F3 (mg_ n_t3) (m0_ z_str)
    have gWT := R7.ok_wtext (mg := mg) (base := base) (P := l.prog) (w := w) F5 F3 gDig b3 (mg_ a3)
    have gRwT := R7.ok_rtext (mg := mg) (base := base) (P := l.prog) (w := w) F6 F5 gWT b5 (mg_ a5)
    have gTO := R7.ok_textOf (mg := mg) (base := base) (P := l.prog) (w := w) F9
    have gRec := R7.ok_recText (mg := mg) (base := base) (P := l.prog) (w := w) F14 F13 gChk b13 (mg_ a13) F6 gRwT b6 (mg_ a6) F9 gTO b9 (mg_ a9)
    have gWO := R8.ok_wholeOf (mg := mg) (base := base) (P := l.prog) (w := w) F4 (mg_ n_t2) (m0_ z_len) (m0_ z_int) (m0_ z_range)
    have gWOT := R8.ok_woText (mg := mg) (base := base) (P := l.prog) (w := w) F7 F4 gWO b4 (mg_ a4) (mg_ n_t1) (m0_ z_all)
    have gLn := R9.ok_line (mg := mg) (base := base) (P := l.prog) (w := w) F8 F7 gWOT b7 (mg_ a7) (m0_ z_tuple)
    have gRO := R9.ok_recOf (mg := mg) (base := base) (P := l.prog) (w := w) F15 F8 gLn b8 (mg_ a8) F11 gRow b11 (mg_ a11) OX iM tI GI bI (mg_ gCM) (m0_ z_isinstance) (m0_ z_str) (m0_ z_enumerate)
    have gLW := R11.ok_lwhole (mg := mg) (base := base) (P := l.prog) (w := w) F21 (m0_ z_isinstance) (m0_ z_int) (m0_ z_bool)
    have gLR := R11.ok_lrows (mg := mg) (base := base) (P := l.prog) (w := w) F22 F21 gLW b21 (mg_ a21) (m0_ z_isinstance) (m0_ z_list) (m0_ z_tuple) (m0_ z_len) (m0_ z_enumerate)
    have gLWO := R12.ok_lwholeOf (mg := mg) (base := base) (P := l.prog) (w := w) F25 (m0_ z_str) (m0_ z_int)
    have gFB := R13.ok_first (mg := mg) (base := base) (P := l.prog) (w := w) F26 F22 gLR b22 (mg_ a22) F25 gLWO b25 (mg_ a25) (m0_ z_tuple) (m0_ z_enumerate)
    have gBeg := ok_begun (mg := mg) (base := base) (P := l.prog) (w := w) F16 (m0_ z_abs)
    have gDr := ok_draw (mg := mg) (base := base) (P := l.prog) (w := w) F18 F17 b17 (mg_ a17) (m0_ z_int)
    have gPick := R14.ok_pick (mg := mg) (base := base) (P := l.prog) (w := w) F19 F18 gDr b18 (mg_ a18) (m0_ z_len)
    have gDrn := R14.ok_drawn (mg := mg) (base := base) (P := l.prog) (w := w) F23 F19 gPick b19 (mg_ a19) F18 gDr b18 (mg_ a18) (m0_ z_range) (m0_ z_int) (m0_ z_min)
    have gWr := R15.ok_written (mg := mg) (base := base) (P := l.prog) (w := w) F24 (m0_ z_str)
    have gLong := R16.ok_long (mg := mg) (base := base) (P := l.prog) (w := w) F27 F23 gDrn b23 (mg_ a23) F19 gPick b19 (mg_ a19) F18 gDr b18 (mg_ a18)
    have gBent := R17.ok_bent (mg := mg) (base := base) (P := l.prog) (w := w) F28 F19 gPick b19 (mg_ a19) F18 gDr b18 (mg_ a18) (m0_ z_len)
    have kRT : KBn K (PySem.W.fnOf "reckoning_text" "reckoning_text" (defArgs sRecText) (defBody sRecText) (defScope sRecText) .none kV14 dc14 pm14 an14 cd14 ct14) ["rows"] 0 ["rows"] (fun _ ws => ws) (fun _ zs => zs) := ⟨fun s us ws _ h0 h1 => match us, ws, h0, h1 with | [], [_], _, _ => .of_eq rfl, fun _ r => r⟩
    have kRO : KBn K (PySem.W.fnOf "reckoning_of" "reckoning_of" (defArgs sRecOf) (defBody sRecOf) (defScope sRecOf) .none kV15 dc15 pm15 an15 cd15 ct15) ["text"] 0 ["text"] (fun _ ws => ws) (fun _ zs => zs) := ⟨fun s us ws _ h0 h1 => match us, ws, h0, h1 with | [], [_], _, _ => .of_eq rfl, fun _ r => r⟩
    have memR : ((Pt29, (("_law_read_right" : Str) ++ ".<locals>.") ++ "<lambda>") : Addr × Str) ∈ tabsL Pt30 Pt29 := List.mem_cons_of_mem _ (List.mem_singleton.mpr rfl)
    have onlyR : ∀ p ∈ tabsL Pt30 Pt29, p.1 = Pt29 → p.2 = (("_law_read_right" : Str) ++ ".<locals>.") ++ "<lambda>" := fun p hp e => by
      rcases List.mem_cons.mp hp with rfl | hp
      · exact absurd e.symm nPt
      · rw [List.mem_singleton.mp hp]
    have gR := R18.ok_right (base := base) (P := l.prog) (w := w) l29 c29 (hTB _ (List.mem_cons_of_mem _ (List.mem_singleton.mpr rfl))) memR onlyR F26 gFB b26 (mg_ a26) F15 gRO b15 (mg_ a15) F21 gLW b21 (mg_ a21) l20 c20 k20 b20 (mg_ a20) (mg_ gCR) (mg_ gCM) (exm_ sCM) (kit_ CM) EM frM (m0_ z_isinstance) (m0_ z_len)
    exact ok_law l30 c30 (hTB _ List.mem_cons_self) nPt F16 gBeg b16 (mg_ a16) F27 gLong b27 (mg_ a27) F24 gWr b24 (mg_ a24) F14 gRec b14 kRT (mg_ a14) F15 gRO b15 kRO (mg_ a15) F28 gBent b28 (mg_ a28) k29 gR b29 (mg_ a29) F19 gPick b19 (mg_ a19) l20 c20 k20 b20 (mg_ a20) (mg_ gCR) (mg_ gCM) (mg_ gCE) (exm_ sCM) (exm_ sCE) (kit_ CM) (kit_ CE) EM EE frM (m0_ z_range) (m0_ z_isinstance) (m0_ z_tuple) (m0_ z_len) (m0_ z_min)
end R20
open PySem PySem.W PyProof.Rows
set_option maxRecDepth 100000 in
set_option maxHeartbeats 0 in
theorem PySem.Challenge.cw_rulerchest_k65_texts_of_reckonings_holds : PySem.Challenge.rw_rulerchest_k65_texts_of_reckonings.Holds := by
  w_on; o_law; k_head; (case hw => w_witness2)
  k_fill
  refine Cau.walk_tabs (l := PySem.Challenge.rw_rulerchest_k65_texts_of_reckonings) (n := 63) (k := 9) (x := "script") (CX := fun _ => L2.CX0) (xs := (["_law_read_right", "law"] : List Str)) rfl (by decide) rfl ⟨rfl, by decide, by decide⟩ (by decide +kernel) (fun w h Y => PySem.W.km_in_of Y) ?F (fun _ _ _ _ _ z => z)
  case F =>
    intro w mg fa h Y KX G hmg own
    refine' R20.all_mk KX G hmg own ?a0 ?l0 ?c0 ?k0 ?a1 ?l1 ?c1 ?k1 ?a2 ?l2 ?c2 ?k2 ?a3 ?l3 ?c3 ?k3 ?a4 ?l4 ?c4 ?k4 ?a5 ?l5 ?c5 ?k5 ?a6 ?l6 ?c6 ?k6 ?a7 ?l7 ?c7 ?k7 ?a8 ?l8 ?c8 ?k8 ?a9 ?l9 ?c9 ?k9 ?a10 ?l10 ?c10 ?k10 ?a11 ?l11 ?c11 ?k11 ?a12 ?l12 ?c12 ?k12 ?a13 ?l13 ?c13 ?k13 ?a14 ?l14 ?c14 ?k14 ?a15 ?l15 ?c15 ?k15 ?a16 ?l16 ?c16 ?k16 ?a17 ?l17 ?c17 ?k17 ?a18 ?l18 ?c18 ?k18 ?a19 ?l19 ?c19 ?k19 ?a20 ?l20 ?c20 ?k20 ?a21 ?l21 ?c21 ?k21 ?a22 ?l22 ?c22 ?k22 ?a23 ?l23 ?c23 ?k23 ?a24 ?l24 ?c24 ?k24 ?a25 ?l25 ?c25 ?k25 ?a26 ?l26 ?c26 ?k26 ?a27 ?l27 ?c27 ?k27 ?a28 ?l28 ?c28 ?k28 ?a29 ?l29 ?c29 ?k29 ?co29 ?cp29 ?cn29 ?a30 ?l30 ?c30 ?k30 ?co30 ?cp30 ?cn30 ?gCR ?eCR ?kpCR ?sbCR ?tyCR ?gaCR ?gtCR ?hdCR ?clCR ?mrCR ?gCE ?eCE ?kpCE ?sbCE ?tyCE ?gaCE ?gtCE ?hdCE ?clCE ?mrCE ?sn ?tk ?sCE ?gCM ?xCM ?rvM ?kpCM ?sbCM ?tyCM ?gaCM ?gtCM ?hdCM ?clCM ?mrCM ?saCM ?iM ?tI ?lI ?cI ?cellI ?coI ?viI ?hfI ?icM ?suM ?opM ?waM ?ivM ?topM ?frM ?sCM ?gD2 ?hD2 ?vD2 ?nPt ?n_t1 ?n_t2 ?n_t3 ?z_isinstance ?z_int ?z_bool ?z_str ?z_len ?z_all ?z_tuple ?z_list ?z_enumerate ?z_abs ?z_range ?z_min ?z_super
    (case a0 => k_is)
    (case l0 => k_is)
    (case c0 => k_is)
    (case k0 => k_is)
    (case a1 => k_is)
    (case l1 => k_is)
    (case c1 => k_is)
    (case k1 => k_is)
    (case a2 => k_is)
    (case l2 => k_is)
    (case c2 => k_is)
    (case k2 => k_is)
    (case a3 => k_is)
    (case l3 => k_is)
    (case c3 => k_is)
    (case k3 => k_is)
    (case a4 => k_is)
    (case l4 => k_is)
    (case c4 => k_is)
    (case k4 => k_is)
    (case a5 => k_is)
    (case l5 => k_is)
    (case c5 => k_is)
    (case k5 => k_is)
    (case a6 => k_is)
    (case l6 => k_is)
    (case c6 => k_is)
    (case k6 => k_is)
    (case a7 => k_is)
    (case l7 => k_is)
    (case c7 => k_is)
    (case k7 => k_is)
    (case a8 => k_is)
    (case l8 => k_is)
    (case c8 => k_is)
    (case k8 => k_is)
    (case a9 => k_is)
    (case l9 => k_is)
    (case c9 => k_is)
    (case k9 => k_is)
    (case a10 => k_is)
    (case l10 => k_is)
    (case c10 => k_is)
    (case k10 => k_is)
    (case a11 => k_is)
    (case l11 => k_is)
    (case c11 => k_is)
    (case k11 => k_is)
    (case a12 => k_is)
    (case l12 => k_is)
    (case c12 => k_is)
    (case k12 => k_is)
    (case a13 => k_is)
    (case l13 => k_is)
    (case c13 => k_is)
    (case k13 => k_is)
    (case a14 => k_is)
    (case l14 => k_is)
    (case c14 => k_is)
    (case k14 => k_is)
    (case a15 => k_is)
    (case l15 => k_is)
    (case c15 => k_is)
    (case k15 => k_is)
    (case a16 => k_is)
    (case l16 => k_is)
    (case c16 => k_is)
    (case k16 => k_is)
    (case a17 => k_is)
    (case l17 => k_is)
    (case c17 => k_is)
    (case k17 => k_is)
    (case a18 => k_is)
    (case l18 => k_is)
    (case c18 => k_is)
    (case k18 => k_is)
    (case a19 => k_is)
    (case l19 => k_is)
    (case c19 => k_is)
    (case k19 => k_is)
    (case a20 => k_is)
    (case l20 => k_is)
    (case c20 => k_is)
    (case k20 => k_is)
    (case a21 => k_is)
    (case l21 => k_is)
    (case c21 => k_is)
    (case k21 => k_is)
    (case a22 => k_is)
    (case l22 => k_is)
    (case c22 => k_is)
    (case k22 => k_is)
    (case a23 => k_is)
    (case l23 => k_is)
    (case c23 => k_is)
    (case k23 => k_is)
    (case a24 => k_is)
    (case l24 => k_is)
    (case c24 => k_is)
    (case k24 => k_is)
    (case a25 => k_is)
    (case l25 => k_is)
    (case c25 => k_is)
    (case k25 => k_is)
    (case a26 => k_is)
    (case l26 => k_is)
    (case c26 => k_is)
    (case k26 => k_is)
    (case a27 => k_is)
    (case l27 => k_is)
    (case c27 => k_is)
    (case k27 => k_is)
    (case a28 => k_is)
    (case l28 => k_is)
    (case c28 => k_is)
    (case k28 => k_is)
    (case a29 => k_is)
    (case l29 => k_is)
    (case c29 => k_is)
    (case k29 => k_is)
    (case co29 => k_is)
    (case cp29 => exact rfl)
    (case cn29 => kernel_rfl)
    (case a30 => k_is)
    (case l30 => k_is)
    (case c30 => k_is)
    (case k30 => k_is)
    (case co30 => k_is)
    (case cp30 => exact rfl)
    (case cn30 => kernel_rfl)
    (case gCR => k_is)
    (case eCR => k_exc)
    (case kpCR => k_is)
    (case sbCR => k_is)
    (case tyCR => k_is)
    (case gaCR => k_is)
    (case gtCR => k_is)
    (case hdCR => k_is)
    (case clCR => k_is)
    (case mrCR => k_is)
    (case gCE => k_is)
    (case eCE => k_exc)
    (case kpCE => k_is)
    (case sbCE => k_is)
    (case tyCE => k_is)
    (case gaCE => k_is)
    (case gtCE => k_is)
    (case hdCE => k_is)
    (case clCE => k_is)
    (case mrCE => k_is)
    (case sn => k_is)
    (case tk => k_is)
    (case sCE => k_is)
    (case gCM => k_is)
    (case xCM => k_is)
    (case rvM => rfl)
    (case kpCM => k_is)
    (case sbCM => k_is)
    (case tyCM => k_is)
    (case gaCM => k_is)
    (case gtCM => k_is)
    (case hdCM => k_is)
    (case clCM => k_is)
    (case mrCM => k_is)
    (case saCM => k_is)
    (case iM => k_is)
    (case tI => k_is)
    (case lI => k_is)
    (case cI => k_is)
    (case cellI => k_is)
    (case coI => k_is)
    (case viI => exact rfl)
    (case hfI => decide +kernel)
    (case icM => k_is)
    (case suM => k_is)
    (case opM => k_is)
    (case waM => first | kernel_rfl | rfl)
    (case ivM => k_is)
    (case topM => rfl)
    (case frM => k_is)
    (case sCM => k_is)
    (case gD2 => k_is)
    (case hD2 => k_is)
    (case vD2 => exact .cons ⟨_, rfl⟩ (.cons ⟨_, rfl⟩ (.cons ⟨_, rfl⟩ (.cons ⟨_, rfl⟩ (.cons ⟨_, rfl⟩ (.nil))))))
    (case nPt => decide)
    (case n_t1 => k_is)
    (case n_t2 => k_is)
    (case n_t3 => k_is)
    (case z_isinstance => k_is)
    (case z_int => k_is)
    (case z_bool => k_is)
    (case z_str => k_is)
    (case z_len => k_is)
    (case z_all => k_is)
    (case z_tuple => k_is)
    (case z_list => k_is)
    (case z_enumerate => k_is)
    (case z_abs => k_is)
    (case z_range => k_is)
    (case z_min => k_is)
    (case z_super => k_is)
