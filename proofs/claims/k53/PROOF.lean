import PyProof.Rows.All
import Wide.All
import OpenK.AllK
import Wide.FinOn
import KE.KLam
import KE.KNest
import HandS.ForMost
import HandS.ForExc
import HandS.Codes
import HandS.Lambda
import HandS.EndTab
import HandS.ExcIs
import HandS.IsInst
import HandS.Defaults
import HandS.MakeKwOnly
import HandS.Gcd
import HandS.Walk
import HandS.Conv
import HandS.Wide
import HandS.Flow
import Flt.RightSqrt
import PySem.Challenge.RW_rulerchest_k53_greatest_squares_first
set_option Elab.async false
set_option linter.all false
set_option maxRecDepth 100000
set_option maxHeartbeats 2000000
/-! An error that an except suite hands to a name of its own stays known behind the try; a helper that calls what it gets and hands the error back. -/
namespace Cau
open PySem PySem.Spec PyProof.Rows L2

/-- the error object at e, of the class c, its own dict d -/
def ErrO (c : Value) (d : Option Addr) (e : Addr) : HO :=
  .ext fun h => ∃ (ob : Obj) (fs : Array Value), h.get? e = some ob ∧ Zc c d ob ∧ ob.data = .fields fs
theorem errO_ok {P : Program} {w : World} {H : Hp} {h : Heap} {e : Addr} {c : Value} {d : Option Addr} {ob : Obj} {fs : Array Value}
    (g : h.get? e = some ob) (z : Zc c d ob) (hf : ob.data = .fields fs) : ObjOk P w H h e (ErrO c d e) :=
  ⟨⟨ob, fs, g, z, hf⟩, ⟨ob, g⟩, fun _ _ ⟨o, f, q, r⟩ k => ⟨o, f, k o q, r⟩⟩

section
variable {X : Cx} {pins : List (Addr × Obj)} {σ : L2.St} {H : Hp} {s : Shared}
/-- an object that was not there at the entry, and that nothing speaks of, is spoken of from now on -/
theorem inv_told {e : Addr} {u : HO} (I : Inv X pins σ H s) (hn : H e = none) (h0 : X.s_0.heap.get? e = none) (ok : ObjOk X.prog X.w (upd H e u) s.heap e u)
    (hL : e ≠ X.env.locals) (hC : ∀ x c, X.env.cells.lookup x = some c → c ≠ e) (hP : ∀ p ∈ X.pn ++ pins, p.1 ≠ e) : Inv X pins σ (upd H e u) s := by
  have more : ∀ b v, H b = some v → upd H e u b = some v := fun b v q => by
    rw [upd_ne (ne_of_none q hn)]; exact q
  have less : ∀ b, b ≠ e → H b = none → upd H e u b = none := fun b hb q => by rw [upd_ne hb]; exact q
  have un : Un X.fs X.ex X.H_0 (upd H e u) X.s_0.heap s.heap :=
    { keep := I.base.keep
      slot := I.base.slot
      free := fun b o q n hx => less b (fun z => by rw [z, h0] at q; cases q) (I.base.free b o q n hx)
      there := I.base.there
      tups := fun b xs q => more _ _ (I.base.tups b xs q)
      frzs := fun b o v q => more _ _ (I.base.frzs b o v q)
      tbls := fun b ps q => by
        obtain ⟨m, r⟩ := I.base.tbls b ps q
        exact ⟨m, more _ _ r⟩ }
  have hok : HOk X.prog X.w (upd H e u) s.heap := fun b v q => by
    by_cases hb : b = e
    · subst hb
      rw [upd_same] at q
      cases q
      exact ok
    · rw [upd_ne hb] at q
      exact (I.hok b v q).stay (fun _ _ _ r => r) (fun _ r => more _ _ r) fun _ _ r => more _ _ r
  exact
    { ok := I.ok, os := I.os, bare := I.bare, base := un, loc := I.loc, cell := I.cell
      free := less _ (Ne.symm hL) I.free
      freeC := fun x c q => less _ (hC x c q) (I.freeC x c q)
      pin := fun p hp => by
        obtain ⟨a1, a2, a3⟩ := I.pin p hp
        exact ⟨a1, less _ (hP p hp) a2, a3⟩
      hok := hok, len := I.len }
end

/-- what the clause «except x as n» (n in slot i) wishes of an error of the body that it always takes: the suite falls through, and behind it the error is told of at its address -/
def wTell (K : PySem.W.Frag) (c : Value) (i : Nat) (ts : Addr → Value → Option Addr → TS) (D : Ends) : WX := fun cls d σ H =>
  PySem.W.exmOne K cls c = some true ∧
    ∀ e, H e = none → ts e cls d { nx := fun σ' H' => D.nx (σ'.set i none) (upd H' e (ErrO cls d e)), rt := fun _ _ => False, bk := fun _ _ => False, ct := fun _ _ => False } (σ.set i (some (.ref e))) H
section
variable {X : Cx} {x n : Str} {c : Value} {i : Nat} {body suite : List Stmt} {st : Stmt} {q1 q2 q3 : Pos} {tb : WX → TS} {ts : Addr → Value → Option Addr → TS}
theorem ps_tryTell (hst : X.stack = X.env :: X.outer) (hfrm : X.env.frame = some X.env.locals) (hnd : X.N.Nodup) (hi : X.N[i]? = some n) (hl : X.env.kindOf n = some .local) (hc : Names X x c) (hex : X.ex = [])
    (hbody : ∀ (W : WX) (pn : List (Addr × Obj)) (xe : Value → Shared → Prop), Takes (X.tr pn xe) W → PSs (X.tr pn xe) body (tb W))
    (hsuite : ∀ (e : Addr) (ob : Obj) (cls : Value) (d : Option Addr) (pn : List (Addr × Obj)), Zc cls d ob → (∃ fs, ob.data = .fields fs) → PSs (X.suite e ((e, ob) :: pn)) (st :: suite) (ts e cls d)) :
    PS X (.Try body [.ExceptHandler (some (.Name x q1)) (some n) (st :: suite) q2] [] [] q3) (fun D σ H => tb (wTell X.K c i ts D) D σ H) := by
  constructor
  intro pins s σ H D I h
  have OK := I.ok
  have frames : X.A.frames = some (X.env :: X.outer) := OK.frames.trans (congrArg some hst)
  apply wpAny_Try_except
  have run := (hbody (wTell X.K c i ts D) (X.pn ++ pins) (fun e s₁ => wpAny (model X.prog X.w) X.A (noteFrame e X.env)
      (fun _ s₂ => wpAny (model X.prog X.w) X.A (setFlight e none)
        (fun _ s₃ => wpAny (model X.prog X.w) X.A (handleBy e X.env [.ExceptHandler (some (.Name x q1)) (some n) (st :: suite) q2]) (SP X pins D) X.xe s₃) X.xe s₂) X.xe s₁) ?takes).run [] s σ H D (I.toTry _) h
  case takes =>
    rintro u s1 ⟨e, B, sI, pins1, σ1, H1, cls, d, rfl, J1, inB, upS, sky, ne, eos, bare, hm, wish⟩
    have J := J1.ofTry OK
    rw [show (X.tr (X.pn ++ pins) _).stack = X.env :: X.outer from hst] at sky
    -- the error is new: it is no object of the ground
    have gone : B.get? e = none := by
      rcases sky with z | z | z
      · exact z.2.1
      · exact z.2.1
      · exact z.2.1
    refine Sky.land Zc.steady frames hfrm sky fun ha fly upA => ?_
    have K1 : Inv X pins σ1 H1 { s1 with heap := ha } := J.landed inB fly.1 (upS.trans upA) eos bare
    obtain ⟨oa, fa, ga, za, da⟩ := fly.there
    have offFrames : e ∉ frs (X.env :: X.outer) := fun hmem => by
      obtain ⟨_, o', g', hno⟩ := fly.2.2.1.mem hmem
      rw [ga] at g'
      cases g'
      exact hno _ da
    have offL : e ≠ X.env.locals := fun z => offFrames (List.mem_filterMap.mpr ⟨X.env, List.mem_cons_self, by rw [hfrm, z]⟩)
    have offF : e ∉ X.fs := fun hmem => by
      obtain ⟨v, hv, q⟩ := List.mem_filterMap.mp hmem
      exact offFrames (List.mem_filterMap.mpr ⟨v, List.mem_cons_of_mem _ hv, q⟩)
    have offStack : e ∉ frs X.stack := by rw [hst]; exact offFrames
    have nowhere : sI.heap.get? e = none := by
      cases q : sI.heap.get? e with
      | none => rfl
      | some o => exact absurd (inB e o q offStack) (by rw [gone]; intro z; cases z)
    have fresh : X.s_0.heap.get? e = none := by
      cases q : X.s_0.heap.get? e with
      | none => rfl
      | some o =>
        obtain ⟨o', q'⟩ := J.base.there e o q (by rw [hex]; intro z; cases z)
        rw [nowhere] at q'
        cases q'
    have offPins : ∀ p ∈ X.pn ++ pins, p.1 ≠ e := fun p hp z => by
      have q := (J.pin p hp).1
      rw [z, nowhere] at q
      cases q
    have S1 := K1.suite ga da ne offL offF
    refine wpAny_handleBy_cons (codeAny_handlers_test ?_) (by intro z; cases z)
    have isOf : PySem.W.Looks (model X.prog X.w) ha (typeOf (.ref e)) cls := fun A Q E t k q => wpAny_typeOf_ref (k _ _ ga) (by rw [za.1]; exact q)
    have takesIt := PySem.W.exm_one (M := model X.prog X.w) K1.kIn isOf hm
    have named : ∀ {Q E : Value → Shared → Prop}, Q c { s1 with heap := ha } → wpAny (model X.prog X.w) (X.A.mark (some (.ref e))) (eval (.Name x q1) X.env) Q E { s1 with heap := ha } := by
      intro Q E q
      obtain ⟨g1, g2, g3⟩ := hc
      rcases g3 with m | ⟨m, v, nn⟩
      · exact ld_glob (X := X.suite e ((e, oa) :: (X.pn ++ pins))) S1 g1 m q g2
      · exact ld_blt (X := X.suite e ((e, oa) :: (X.pn ++ pins))) S1 g1 m v q nn g2
    refine named (takesIt.here (codeAny_handlers_suite_as (HandSPX.lands_againZ fly fun hb flyB upB => ?_)))
    have K2 : Inv X pins σ1 H1 { s1 with heap := hb } := J.landed inB flyB.1 ((upS.trans upA).trans upB) eos bare
    obtain ⟨ob, fb, gb, zb, db⟩ := flyB.there
    have S2 := K2.suite gb db ne offL offF
    refine store_ok (X := X.suite e ((e, ob) :: (X.pn ++ pins))) (v := .ref e) S2 hnd hi (.inl hl) rfl (fun s5 S5 => ?_) (.inr hl)
    refine wpAny_mono ((hsuite e ob cls d (X.pn ++ pins) zb ⟨_, db⟩).run [] s5 _ H1 _ S5 (wish e ne)) (fun fl s6 sp => ?_) (fun _ _ z => z.elim)
    cases fl with
    | next =>
      obtain ⟨σ6, H6, S6, q6⟩ := sp
      obtain ⟨g6, n6, _, _, _⟩ := S6.pin (e, ob) (List.mem_append_left _ List.mem_cons_self)
      have offCells : ∀ y k, X.env.cells.lookup y = some k → k ≠ e := fun y k q z => by
        obtain ⟨v, o, go, dq⟩ := S6.cell y k q
        rw [z, g6] at go
        cases go
        rw [db] at dq
        cases dq
      have T6 : Inv X pins σ6 (upd H6 e (ErrO cls d e)) s6 := inv_told (S6.unsuite OK) n6 fresh (errO_ok g6 zb db) offL offCells offPins
      exact gone_ok T6 hnd hi hl fun s7 T7 => ⟨_, _, T7, q6⟩
    | brk =>
      obtain ⟨_, _, _, z⟩ := sp
      exact z.elim
    | cont =>
      obtain ⟨_, _, _, z⟩ := sp
      exact z.elim
    | ret v =>
      obtain ⟨_, _, _, _, _, z⟩ := sp
      exact z.elim
  refine wpAny_mono run (fun fl s1 sp => ?_) (fun _ _ z => z)
  cases fl with
  | next =>
    obtain ⟨σ', H', J, q⟩ := sp
    exact wpAny_execs_nil ⟨σ', H', J.ofTry OK, q⟩
  | brk =>
    obtain ⟨σ', H', J, q⟩ := sp
    exact ⟨σ', H', J.ofTry OK, q⟩
  | cont =>
    obtain ⟨σ', H', J, q⟩ := sp
    exact ⟨σ', H', J.ofTry OK, q⟩
  | ret v =>
    obtain ⟨y, σ', H', J, r, q⟩ := sp
    exact ⟨y, σ', H', J.ofTry OK, r, q⟩
end

/-! ### the helper: found = None; try: action(); except CLASS as error: found = error; return found -/
/-- its names -/
def cauN : List Str := ["action", "found", "error"]
def cauScope (cl : Str) : Scope :=
  { kind := .function, names := [("action", .local), ("found", .local), ("error", .local), (cl, .globalImplicit)], isGenerator := false, isCoroutine := false, more := [] }
/-- what it hands back: None behind a call that raises nothing, else the error, told of at its address -/
def TCau (K : PySem.W.Frag) (CS : Addr) : (XK → Hp → VK → Prop) → Hp → VK → Prop := fun tl H Q =>
  tl (fun cls d H' => PySem.W.exmOne K cls (.ref CS) = some true ∧ ∀ e, H' e = none → Q (.ref e) (upd H' e (ErrO cls d e))) H fun _ H' => Q .non H'
/-- a wish need not speak of frames of another length -/
theorem takes_len {X : Cx} {W : WX} (tk : Takes X W) : Takes X (fun cls d σ H => σ.length = X.N.length → W cls d σ H) := by
  rintro u s1 ⟨e, B, sI, pins, σ, H, cls, d, a1, I, a2, a3, a4, a5, a6, a7, w⟩
  exact tk u s1 ⟨e, B, sI, pins, σ, H, cls, d, a1, I, a2, a3, a4, a5, a6, a7, w I.len⟩
section
variable {X : Cx} {x q cl : Str} {g CS : Addr} {cdg : Value} {p1 p2 p3 p4 p5 p6 p7 p8 p9 p10 p11 p12 p13 p14 : Pos} {j : Nat}
theorem cau_gives (hme : X.mg cl = some (.ref CS)) (hdb : (cl == ("__debug__" : Str)) = false) (h3 : (cauScope cl).names.lookup cl = some .globalImplicit) :
    LamX.GivesTo X cauN x (cauScope cl) g cdg
      [.Assign [.Name "found" p1] (.Constant .none j p2) p3,
        .Try [.Expr (.Call (.Name "action" p4) [] [] p5) p6] [.ExceptHandler (some (.Name cl p7)) (some "error") [.Assign [.Name "found" p8] (.Name "error" p9) p10] p11] [] [] p12,
        .Return (some (.Name "found" p13)) p14] "action" q (TCau X.K CS) := by
  intro f c' s H Q tl act hc h
  have nd : cauN.Nodup := by decide +kernel
  have go : (cxOf C8.CX0 X.prog X.w X.K X.mg X.base cauN x (cauScope cl) g cdg X.A X.stack s H C8.E0).nox.mg cl = some (.ref CS) := hme
  have gl : Gl (cxOf C8.CX0 X.prog X.w X.K X.mg X.base cauN x (cauScope cl) g cdg X.A X.stack s H C8.E0).nox cl := h3
  refine ⟨_, pss_cons (ps_set (i := 1) nd rfl (.inl rfl) pe_non)
    (pss_cons (ps_tryTell (X := (cxOf C8.CX0 X.prog X.w X.K X.mg X.base cauN x (cauScope cl) g cdg X.A X.stack s H C8.E0).nox) (c := .ref CS) (i := 2)
        (tb := fun W D σ H => ∃ E : XK, (∀ cls d (σ' : L2.St) H', E cls d H' → σ'.length = 3 → W cls d σ' H') ∧ σ[0]? = some (some (.ref f)) ∧ H c' = some (LamX.CodeO c' q) ∧ tl E H fun _ H' => D.nx σ H')
        rfl rfl nd rfl rfl ⟨gl, hdb, .inl go⟩ rfl (fun W pn xe tk => ?_)
        (fun e ob cls d pn _ _ => pss_one (ps_set (i := 1) nd rfl (.inl rfl) (pv 2))))
      (pss_one (ps_ret (pv 1)))), ?_⟩
  · constructor
    intro pins s' σ H' D I h'
    obtain ⟨E, hW, h1, h2, h3⟩ := h'
    exact (pss_one (ps_expr (pos := p6) (act _ pn xe E p4 p5 (takes_len tk) hW))).run pins s' σ H' D I ⟨h1, h2, h3⟩
  · refine ⟨fun cls d H' => PySem.W.exmOne X.K cls (.ref CS) = some true ∧ ∀ e, H' e = none → Q (.ref e) (upd H' e (ErrO cls d e)), fun cls d σ' H' z hl => ⟨z.1, fun e he => ?_⟩, rfl, hc, ?_⟩
    · match σ', hl with
      | [a0, a1, a2], _ => exact ⟨.ref e, rfl, .ref e, rfl, z.2 e he⟩
    · have e1 : (fun (_ : V) (H' : Hp) => Q .non H') = fun (_ : V) (H' : Hp) => ∃ v, ([some (.ref f), some .non, none] : L2.St)[1]? = some (some v) ∧ Q v H' := by
        funext _ H'
        exact propext ⟨fun z => ⟨.non, rfl, z⟩, fun ⟨v, a, z⟩ => by cases a; exact z⟩
      have h' := h
      unfold TCau at h'
      rw [e1] at h'
      exact h'
end

/-! ### isinstance of an error that is told of -/
def rIsErr (K : PySem.W.Frag) (D : Addr) : List V → Hp → VK → Prop := fun xs H Q =>
  ∃ (e : Addr) (c : V) (cv : Value) (b : Bool), xs = [.ref e, c] ∧ H e = some (ErrO (.ref D) none e) ∧ (∀ u, RelV c u → u = cv) ∧ PySem.W.kitOne K (.ref D) cv = some b ∧ Q (.bl b) H
theorem call_isErr {X : Cx} {D : Addr} (C : ExcC X.K D) : CallR X (.builtin "isinstance") (rIsErr X.K D) := by
  intro pins s σ H xs us Q I r ⟨e, c, cv, b, hx, he, hcv, hb, q⟩
  subst hx
  obtain ⟨u1, u2, hu, r1, r2⟩ := vals2 r
  subst hu
  cases (show u1 = Value.ref e from r1)
  cases hcv _ r2
  obtain ⟨⟨⟨oc, od, oda, osl⟩, fs, g, z, hf⟩, _⟩ := I.hok e _ he
  obtain ⟨z1, z2⟩ := z
  simp only at z1 z2 hf
  subst z1 z2 hf
  have at_ : PySem.W.InstAt s.heap e _ D none := ⟨g, rfl, rfl, trivial⟩
  exact PySem.W.kia_one (PySem.W.handS_kitx_exc C.hg C.hk C.hs C.hd C.ha C.hn C.ht C.hm) I.kIn at_ hb (fun z => nomatch z) fun tk => ⟨.bl b, H, I.tok tk, rfl, q⟩

/-! ### a def called by keywords alone -/
def tKw (m : Nat) (sp : Sp) (gV : List V → List V → List V) (E : XK) (tk : TA) : TE := fun σ H Q => tk σ H fun zs H1 => zs.length = m ∧ sp (gV [] zs) H1 Q E
section
variable {X : Cx} {CX : CXT} {k : Nat} {f : Addr} {fd : FuncData} {ps ks : List Str} {sp : Sp} {E : XK} {x : Str} {p pos : Pos} {kws : List Keyword} {tk : TA} {g : List Value → List Value → List Value} {gV : List V → List V → List V}
theorem pe_kw (F : FnOk X.prog X.w X.K X.mg X.base CX k f fd ps sp) (hr : Room k X.A) (hg : Gl X x) (hm : X.mg x = some (.ref f)) (hk : PySem.W.keepIn X.K (.ref f) = true) (hb : KBn X.K fd ps 0 ks g gV) (hx : Passes CX X E) (hkw : PK X kws tk)
    (h1 : (backToKw pos (keywordEach kws X.env)).all (·.1.isSome) = true := by rfl) (h2 : (backToKw pos (keywordEach kws X.env)).filterMap (·.1) = ks := by rfl) (h3 : (x == ("__debug__" : Str)) = false := by decide)
    (h4 : ((backTo pos (starEach [] X.env)).any (·.1) || (backToKw pos (keywordEach kws X.env)).any (·.1.isNone)) = false := by rfl) :
    PE X (.Call (.Name x p) [] kws pos) (tKw ks.length sp gV E tk) := by
  constructor
  intro pins s σ H Q I h
  apply wpAny_Call_Name_kw
  apply ld_glob I hg hm _ h3
  apply PySem.W.callWith_KW0 (h₀ := X.base) I.ok.mod.kin hk h1 _ h4
  refine thn (hkw.run pos pins s σ H _ I h) fun ws s1 hws => ?_
  obtain ⟨zs, H1, I1, rz, hl, q⟩ := hws
  refine ⟨I1.kIn, ?_⟩
  rw [h2]
  exact run_fnN (n := 0) F hr hb hx I1 .nil rz rfl hl q
end
/-! ### math.isqrt of great ints, by the name under which the module has it -/
def rRoot : List V → Hp → VK → Prop := fun vs H Q => ∃ n : Int, vs = [.int n] ∧ 0 ≤ n ∧ n < 2 ^ 250 ∧ ∀ d : Int, 0 ≤ d → d * d ≤ n → n < (d + 1) * (d + 1) → Q (.int d) H
theorem cr_isqrt {X : Cx} : CallR X (.builtin "math.isqrt") rRoot := by
  intro pins s σ H vs us Q I r ⟨n, hv, h0, h1, q⟩
  subst hv
  obtain ⟨u, hu, ru⟩ := r.one
  subst hu
  obtain ⟨t, rfl⟩ := ru
  have hl : n.toNat.log2 ≤ 249 := PySem.W.mg_log (by
    have e : (n.toNat : Int) = n := Int.toNat_of_nonneg h0
    have h2 : (n.toNat : Int) < ((2 ^ 250 : Nat) : Int) := by rw [e]; exact_mod_cast h1
    exact Int.ofNat_lt.mp h2)
  have sp := PySem.Float64.isqrt_spec n.toNat
  have e : (n.toNat : Int) = n := Int.toNat_of_nonneg h0
  refine call_function_meets PySem.W.MGF.kind_isqrt PySem.W.MGF.plain_isqrt PySem.W.MGF.entry_isqrt (PySem.W.MGF.args_isqrt _) (PySem.W.mg_run_isqrt n t (by omega) (by omega) (by omega)).meets ?_
  refine ⟨.int _, H, I.tok _, ⟨_, rfl⟩, q _ (Int.natCast_nonneg _) ?_ ?_⟩
  · rw [← e]
    exact_mod_cast sp.1
  · rw [← e]
    exact_mod_cast sp.2

/-! ### the end of a law row, with the tables of the code objects of the defs xs -/
theorem walk_tabs {l : PySem.W.OpenLaw} {n k : Nat} {q : Program} {loose : List Str} {XP : (Str → Option Value) → Heap → Prop} {YP : World → Heap → Prop} {d : DefRec} {K : PySem.Params → PySem.W.Frag} {CX : World → CXT} {x : Str} {xs : List Str}
    (h1 : l.most = some n) (h2 : n ≤ sizeLine) (h3 : d.params.defaults = []) (hr : Room k callerA) (hrec : (xs.all fun x => (recsOf q).any fun e => e.name == x) = true) (hY : ∀ (w : World) (h : Heap), YP w h → (K w.params).In h)
    (F : ∀ (w : World) (mg : Str → Option Value) (fa : Addr) (h : Heap), YP w h → (K w.params).In h → h.Ns mainGlobals mg → mg d.name = some (.ref fa) →
      (∀ x ∈ xs, ∀ c P : Addr, PySem.W.tabIn (K w.params) x = some (c, P) → PySem.W.CodeHd h c P ∧ h.get? P = some { cls := .none, data := .fields #[] }) → LamX.LawAtS l w (K w.params) (CX w) k n x mg fa h)
    (hCX : ∀ (w : World) (H : Hp) (s : Shared) (e : Value) (s' : Shared), CX w [] H s (fun _ _ _ => False) e s' → False) :
    PySem.W.WalkO q loose XP YP l.row.toRowW d [] (fun f vs => PySem.call f vs) := by
  apply Att.attach_callB h1 h3
  intro w s₀ s₁ mg mb fa o pm cd doc a vs ns G Y ho hd hcd hmg hobj hints hlen hbits hg
  have KX := hY w _ Y
  have tabs : ∀ x ∈ xs, ∀ c P : Addr, PySem.W.tabIn (K w.params) x = some (c, P) → PySem.W.CodeHd s₁.heap c P ∧ s₁.heap.get? P = some { cls := .none, data := .fields #[] } := by
    intro x hx c P ht
    have hany := List.all_eq_true.mp hrec x hx
    have hsome : ((recsOf q).find? fun e => e.name == x).isSome = true := by rw [List.find?_isSome]; exact List.any_eq_true.mp hany
    obtain ⟨dr, hdr⟩ := Option.isSome_iff_exists.mp hsome
    exact PySem.W.tab_of G.T KX hdr ht
  obtain ⟨fd, cs, sp, hT, nT, C, hb, hsp, hF⟩ := F w mg fa _ Y KX G.T.g hmg tabs
  exact LamX.law_callTs KX G.T.g G.T.b G.T.builtins G.T.nolimit hg hT nT C G.T.bmain hobj hints (Nat.le_trans hlen h2) hr hF hb (fun H hH hS => hsp H a ns hlen hbits hH hS) fun H e s' => hCX w H s₁ e s'
end Cau

set_option Elab.async false
set_option linter.all false
set_option maxRecDepth 100000
set_option maxHeartbeats 2000000
namespace Dr
open PySem PySem.Spec PyProof.Rows L2 Cau
def topS (i : Nat) : Stmt := PySem.Challenge.pw_rulerchest_k53_greatest_squares_first.main.body.getD i (.Pass ⟨0, 0, 0, 0⟩)
abbrev sBegun : Stmt := topS 11
abbrev sStirred : Stmt := topS 12
abbrev sDraw : Stmt := topS 13
abbrev sPick : Stmt := topS 14
/-! ### heaps -/
theorem same_upd {H : Hp} {p : Addr} {o : HO} (h : H p = none) : Same H (upd H p o) := fun b x e => by
  rw [upd_ne (ne_of_none e h)]
  exact e
/-! ### lists of ints as data -/
theorem canLay_ints : ∀ ns : List Int, PyData.canLayAll0 (ns.map PyData.int) = true
  | [] => by simp [PyData.canLayAll0]
  | n :: r => by simp [PyData.canLayAll0, PyData.canLay0, canLay_ints r]
theorem depth_ints : ∀ ns : List Int, PyData.depthAll (ns.map PyData.int) = 0
  | [] => by simp [PyData.depthAll]
  | n :: r => by simp [PyData.depthAll, PyData.depth, depth_ints r]
theorem shaped_ints (ns : List Int) : SeqAt.shaped (.list (ns.map PyData.int)) = true := by
  unfold SeqAt.shaped
  simp only [PyData.canLay0, PyData.depth, canLay_ints, depth_ints]
  decide
theorem dpAll_ints {K : PySem.W.Frag} {H : Hp} : ∀ ns : List Int, DpAll K H (ns.map V.int) (ns.map PyData.int)
  | [] => .nil
  | n :: r => .cons (.int n) (dpAll_ints r)
theorem dp_ints {K : PySem.W.Frag} {H : Hp} {l : Addr} {ns : List Int} (h : SqL K H l (ns.map V.int)) : Dp K H (.ref l) (.list (ns.map PyData.int)) := .lst h (dpAll_ints ns)
theorem eqv_ints : ∀ xs ys : List Int, PyData.eqv (.list (xs.map PyData.int)) (.list (ys.map PyData.int)) = decide (xs = ys) := by
  have all : ∀ xs ys : List Int, PyData.eqvAll (xs.map PyData.int) (ys.map PyData.int) = decide (xs = ys) := by
    intro xs
    induction xs with
    | nil => intro ys; cases ys <;> simp [PyData.eqvAll]
    | cons x xs ih =>
      intro ys
      cases ys with
      | nil => simp [PyData.eqvAll]
      | cons y ys =>
        simp only [List.map_cons, PyData.eqvAll, PyData.eqv, ih]
        by_cases h1 : x = y <;> by_cases h2 : xs = ys <;> simp [h1, h2]
  intro xs ys
  simp only [PyData.eqv]
  exact all xs ys
/-! ### the state of the draws -/
def stK (w c : Addr) (r t : Int) : List (Key × V) := [(.inr "wide", .ref w), (.inr "cells", .ref c), (.inr "rest", .int r), (.inr "turn", .int t)]
theorem pow18 : CPow 10 18 := ⟨by decide, by decide, by decide⟩
theorem stK_new (w c : Addr) (r t : Int) : mergeK [] (stK w c r t) = stK w c r t := by
  with_unfolding_all rfl
/-- T: at most so many times it was stirred -/
def St (H : Hp) (a w c : Addr) (T : Nat) : Prop := c ≠ w ∧ ∃ (ws cs : List Int) (r t : Int), H a = some (.dK (stK w c r t)) ∧ H w = some (.lst (ws.map V.int)) ∧ H c = some (.lst (cs.map V.int)) ∧ ws.length ≤ 63 ∧ cs.length ≤ 63 ∧ 0 ≤ t ∧ t ≤ T
section
variable {H : Hp} {a w c : Addr} {r t v : Int}
theorem get_wide (h : H a = some (.dK (stK w c r t))) : DGet H a (.str "wide") (some (.ref w)) := by
  have e : valV (stK w c r t) (.inr "wide" : Key) = some (.ref w) := by with_unfolding_all rfl
  exact e ▸ DGet.k (k := (.inr "wide" : Key)) h
theorem get_cells (h : H a = some (.dK (stK w c r t))) : DGet H a (.str "cells") (some (.ref c)) := by
  have e : valV (stK w c r t) (.inr "cells" : Key) = some (.ref c) := by with_unfolding_all rfl
  exact e ▸ DGet.k (k := (.inr "cells" : Key)) h
theorem get_rest (h : H a = some (.dK (stK w c r t))) : DGet H a (.str "rest") (some (.int r)) := by
  have e : valV (stK w c r t) (.inr "rest" : Key) = some (.int r) := by with_unfolding_all rfl
  exact e ▸ DGet.k (k := (.inr "rest" : Key)) h
theorem get_turn (h : H a = some (.dK (stK w c r t))) : DGet H a (.str "turn") (some (.int t)) := by
  have e : valV (stK w c r t) (.inr "turn" : Key) = some (.int t) := by with_unfolding_all rfl
  exact e ▸ DGet.k (k := (.inr "turn" : Key)) h
theorem put_rest (h : H a = some (.dK (stK w c r t))) : DPut H a (.str "rest") (.int v) (upd H a (.dK (stK w c v t))) := by
  have e : putK (stK w c r t) (.inr "rest" : Key) (.int v) = stK w c v t := by with_unfolding_all rfl
  exact e ▸ DPut.k (k := (.inr "rest" : Key)) (v := .int v) h (by show 4 < sizeLine; decide)
theorem put_turn (h : H a = some (.dK (stK w c r t))) : DPut H a (.str "turn") (.int v) (upd H a (.dK (stK w c r v))) := by
  have e : putK (stK w c r t) (.inr "turn" : Key) (.int v) = stK w c r v := by with_unfolding_all rfl
  exact e ▸ DPut.k (k := (.inr "turn" : Key)) (v := .int v) h (by show 4 < sizeLine; decide)
end
def spBegun (K : PySem.W.Frag) : Sp := fun vs H Q _ => ∃ (a : Addr) (ns : List Int), vs = [.ref a] ∧ SqL K H a (ns.map V.int) ∧ ns.length ≤ 63 ∧
  ∀ (H' : Hp) (p w c : Addr), Same H H' → H p = none → H w = none → H c = none → p ≠ w → p ≠ c → w ≠ c → St H' p w c 0 → Q (.ref p) H'
section
variable {P : Program} {w : World} {K : PySem.W.Frag} {mg : Str → Option Value} {base : Heap}
theorem scB : FnScope ["script", "wide", "cell"] ["script"] (defScope sBegun) := ⟨rfl, rfl, rfl, by decide +kernel, rfl, by decide +kernel, by decide +kernel⟩
theorem ok_begun {f : Addr} {fd : FuncData} (F : Fun K "_law_begun" "_law_begun" sBegun f fd) (mabs : mg "abs" = none) : FnOk P w K mg base CX0 1 f fd ["script"] (spBegun K) := by
  refine F.ok scB (fun vs H Q E h => ?_) (fun cdv A outer s H vs Q E hr h => ?_)
  · obtain ⟨a, ns, rfl, _⟩ := h
    rfl
  · obtain ⟨a, ns, rfl, hS, hlen, q⟩ := h
    refine ⟨_, pss_cons (ps_setLc (i := 1) (own := [("cell", 2)]) (g := gName 2) rfl scB.nd rfl rfl (sw_true rfl rfl rfl (by decide +kernel)) (pi_list (pv 0))
        (blkOk_by (own := [("cell", 2)]) (N := ["script", "wide", "cell"]) (sc := defScope sBegun) (by decide +kernel))
        (fun _ _ _ _ _ => pg_name (i := 2) scB.nd rfl (.inl rfl))
        (fun _ _ _ _ _ => pts_one (pt_cmpR op_ge (pe_callB call_abs (by rfl) mabs (by decide +kernel) (pa_cons (pv 2) pa_nil)) (pe_op op_pow pe_int pe_int) (nomark _)))
        (fun _ _ _ _ _ => pe_op op_sub (pe_callB call_abs (by rfl) mabs (by decide +kernel) (pa_cons (pv 2) pa_nil)) (pe_op op_pow pe_int pe_int)))
      (pss_one (ps_ret (pe_disp (pps_cons pe_str (pv 1) (pps_cons pe_str
          (pe_lc (own := [("cell", 2)]) (g := gName 2) (tt := tYes) rfl scB.nd (pi_list (pv 0))
            (blkOk_by (own := [("cell", 2)]) (N := ["script", "wide", "cell"]) (sc := defScope sBegun) (by decide +kernel))
            (fun _ _ _ _ _ => pg_name (i := 2) scB.nd rfl (.inl rfl)) (fun _ _ _ _ _ => pts_nil)
            (fun _ _ _ _ _ => pe_callB call_abs (by rfl) mabs (by decide +kernel) (pa_cons (pv 2) pa_nil)))
          (pps_cons pe_str pe_int (pps_cons pe_str pe_int pps_nil)))) (by rfl) (by rfl) (fun z => by cases z) (by decide)))), ?_⟩
    refine ⟨.ref a, rfl, a, rfl, ⟨_, hS⟩, fun w nw => ?_⟩
    have get : ∀ (i : Nat) (x : V), (ns.map V.int)[i]? = some x → ∃ n, x = V.int n := fun i x hx => by
      rw [List.getElem?_map] at hx
      cases e : ns[i]? with
      | none => rw [e] at hx; cases hx
      | some z => rw [e] at hx; exact ⟨z, (Option.some.inj hx).symm⟩
    refine lc_list (K := K) (a := a) (xs := ns.map V.int) (fun i H1 => ∃ ws : List Int, H1 = upd H w (.lst (ws.map V.int)) ∧ ws.length ≤ i) ⟨[], rfl, Nat.le_refl _⟩ ?_ ?_ ?_
    · rintro i H1 _ ⟨ws, rfl, _⟩
      exact (same_upd nw).seq hS
    · rintro i x H1 hx ⟨ws, rfl, hl⟩
      obtain ⟨n, rfl⟩ := get i x hx
      have hi : i < ns.length := by
        have := (List.getElem?_eq_some_iff.mp hx).1
        rwa [List.length_map] at this
      refine ⟨rfl, .int n, rfl, n, rfl, 10, 18, rfl, rfl, pow18, _, _, rfl, rfl, _, rfl, ?_⟩
      refine ite2 (fun _ => ?_) (fun _ => ⟨ws, rfl, by omega⟩)
      refine ⟨.int n, rfl, n, rfl, 10, 18, rfl, rfl, pow18, _, _, rfl, rfl, _, upd_same, ?_, ?_⟩
      · rw [List.length_map]; exact small1000 (by omega)
      · exact ⟨ws ++ [(if n < 0 then -n else n) - 10 ^ 18], by rw [upd_upd, List.map_append]; rfl, by rw [List.length_append]; simp; omega⟩
    · rintro H1 ⟨ws, rfl, hl⟩
      rw [List.length_map] at hl
      intro p np
      have npw : p ≠ w := fun z => by rw [z, upd_same] at np; cases np
      have s1 : Same H (upd H w (.lst (ws.map V.int))) := same_upd nw
      have s2 : Same H (upd (upd H w (.lst (ws.map V.int))) p (.dK [])) := s1.trans (same_upd np)
      refine ⟨.ref w, rfl, .ref a, rfl, a, rfl, ⟨_, s2.seq hS⟩, fun c nc => ?_⟩
      refine lc_list (K := K) (a := a) (xs := ns.map V.int) (fun i H1 => ∃ cs : List Int, H1 = upd (upd (upd H w (.lst (ws.map V.int))) p (.dK [])) c (.lst (cs.map V.int)) ∧ cs.length ≤ i) ⟨[], rfl, Nat.le_refl _⟩ ?_ ?_ ?_
      · rintro i H1 _ ⟨cs, rfl, _⟩
        exact (s2.trans (same_upd nc)).seq hS
      · rintro i x H1 hx ⟨cs, rfl, hl⟩
        obtain ⟨n, rfl⟩ := get i x hx
        have hi : i < ns.length := by
          have := (List.getElem?_eq_some_iff.mp hx).1
          rwa [List.length_map] at this
        refine ⟨rfl, .int n, rfl, n, rfl, _, upd_same, ?_, ?_⟩
        · rw [List.length_map]; exact small1000 (by omega)
        · exact ⟨cs ++ [(if n < 0 then -n else n)], by rw [upd_upd, List.map_append]; rfl, by rw [List.length_append]; simp; omega⟩
      · rintro H1 ⟨cs, rfl, hl2⟩
        rw [List.length_map] at hl2
        have ncp : c ≠ p := fun z => by rw [z, upd_same] at nc; cases nc
        have ncw : c ≠ w := fun z => by rw [z, upd_ne npw.symm, upd_same] at nc; cases nc
        have nc0 : H c = none := by rw [upd_ne ncp, upd_ne ncw] at nc; exact nc
        have np0 : H p = none := by rw [upd_ne npw] at np; exact np
        refine ⟨by rw [upd_ne ncp.symm, upd_same], stK w c 0 0, rfl, by show 4 ≤ 15; decide, ?_⟩
        refine q _ p w c (fun b o e => ?_) np0 nw nc0 npw ncp.symm ncw.symm ⟨ncw, ws, cs, 0, 0, ?_, ?_, ?_, by omega, by omega, by omega, by omega⟩
        · rw [upd_ne (ne_of_none e np0), upd_ne (ne_of_none e nc0), upd_ne (ne_of_none e np0), upd_ne (ne_of_none e nw)]
          exact e
        · rw [upd_same, stK_new]
        · rw [upd_ne npw.symm, upd_ne ncw.symm, upd_ne npw.symm, upd_same]
        · rw [upd_ne ncp, upd_same]
/-- but the state and its list nothing is changed -/
def Kept (a w : Addr) (H H' : Hp) : Prop := ∀ b o, H b = some o → b ≠ a → b ≠ w → H' b = some o
theorem Kept.trans {a w : Addr} {H H1 H2 : Hp} (x : Kept a w H H1) (y : Kept a w H1 H2) : Kept a w H H2 := fun b o e h1 h2 => y b o (x b o e h1 h2) h1 h2
def spStirred : Sp := fun vs H Q _ => ∃ (a w c : Addr) (T : Nat), vs = [.ref a] ∧ St H a w c T ∧ T ≤ 1000000 ∧
  ∀ (H' : Hp) (d : Int), (∀ b o, H b = some o → b ≠ a → H' b = some o) → St H' a w c (T + 1) → (∀ r t, H a = some (.dK (stK w c r t)) → ∃ t', H' a = some (.dK (stK w c r t'))) → Q (.int d) H'
theorem scS : FnScope ["state", "turn", "found", "prime", "blend", "cell"] ["state"] (defScope sStirred) := ⟨rfl, rfl, rfl, by decide +kernel, rfl, by decide +kernel, by decide +kernel⟩
def primes : List Int := [2147483647, 2147483629, 2147483587, 2147483579]
theorem ok_stirred {f : Addr} {fd : FuncData} (F : Fun K "_law_stirred" "_law_stirred" sStirred f fd) (mint : mg "int" = none) : FnOk P w K mg base CX0 1 f fd ["state"] spStirred := by
  refine F.ok scS (fun vs H Q E h => ?_) (fun cdv A outer s H vs Q E hr h => ?_)
  · obtain ⟨a, w, c, T, rfl, _⟩ := h
    rfl
  · obtain ⟨a, w, c, T, rfl, hSt, hT, q⟩ := h
    have hu := hu_of hr
    refine ⟨_, pss_cons (ps_par (i := 1) (j := 2) rfl scS.nd rfl rfl (by decide) rfl rfl (pa_cons (pe_op op_add (pe_dget hu (pv 0) pe_str (fun _ _ => rfl)) pe_int) (pa_cons pe_int pa_nil)) (by rfl))
      (pss_cons (ps_dput hu (pv 0) pe_str (pv 1) rfl)
      (pss_cons (ps_for PassesOwn.never rfl (pi_list (pe_lst (pa_cons pe_int (pa_cons pe_int (pa_cons pe_int (pa_cons pe_int pa_nil)))))) (pg_name (i := 3) scS.nd rfl (.inl rfl))
        (pss_cons (ps_set (i := 4) scS.nd rfl (.inl rfl) (pe_op op_add (pe_op op_mul pe_int (pv 1)) (pe_op op_fdiv (pv 3) pe_int)))
        (pss_cons (ps_for PassesOwn.never rfl (pi_list (pe_dget hu (pv 0) pe_str (fun _ _ => rfl))) (pg_name (i := 5) scS.nd rfl (.inl rfl))
          (pss_one (ps_set (i := 4) scS.nd rfl (.inl rfl) (pe_op op_modN (pe_callTy call_int1 (by rfl) mint (by decide +kernel) (pa_cons (pe_op op_add (pe_op op_add (pe_op op_mul (pv 4) pe_int) (pv 5)) (pv 1)) pa_nil)) (pv 3)))))
        (pss_one (ps_set (i := 2) scS.nd rfl (.inl rfl) (pe_op op_add (pe_op op_mul (pv 2) pe_int) (pe_op op_modN (pe_callTy call_int1 (by rfl) mint (by decide +kernel) (pa_cons (pe_op op_pow (pv 4) pe_int) pa_nil)) (pv 3))))))))
      (pss_one (ps_ret (pv 2))))), ?_⟩
    obtain ⟨ncw, ws, cs, r, t, hA, hW, hC, hwl, hcl, ht0, htT⟩ := hSt
    refine ⟨.ref a, rfl, a, _, rfl, get_turn hA, t, 1, rfl, rfl, _, _, rfl, ?_⟩
    refine ⟨_, rfl, .ref a, rfl, a, _, rfl, put_turn hA, ?_⟩
    refine ⟨by show 4 ≤ sizeLine; decide, fun l nl => ?_⟩
    have nla : a ≠ l := fun z => by rw [← z, upd_same] at nl; cases nl
    have nlc : c ≠ l := fun z => by rw [← z, upd_ne, hC] at nl
                                    · cases nl
                                    · exact ne_of hC hA (by intro z; cases z)
    have nlw : w ≠ l := fun z => by rw [← z, upd_ne, hW] at nl
                                    · cases nl
                                    · exact ne_of hW hA (by intro z; cases z)
    have nca : c ≠ a := ne_of hC hA (by intro z; cases z)
    have nwa : w ≠ a := ne_of hW hA (by intro z; cases z)
    obtain ⟨H2, hH2⟩ : ∃ H2, H2 = upd (upd H a (.dK (stK w c r (t + 1)))) l (.lst (primes.map V.int)) := ⟨_, rfl⟩
    have A2 : H2 a = some (.dK (stK w c r (t + 1))) := by rw [hH2, upd_ne nla, upd_same]
    have W2 : H2 w = some (.lst (ws.map V.int)) := by rw [hH2, upd_ne nlw, upd_ne nwa]; exact hW
    have C2 : H2 c = some (.lst (cs.map V.int)) := by rw [hH2, upd_ne nlc, upd_ne nca]; exact hC
    have L2' : H2 l = some (.lst (primes.map V.int)) := by rw [hH2, upd_same]
    refine ⟨l, rfl, ⟨_, .inl (.inl upd_same)⟩, for_list (K := K) (a := l) (xs := primes.map V.int) (fun i σ H3 => ∃ (fd : Int) (y3 y4 y5 : Option V), σ = [some (.ref a), some (.int (t + 1)), some (.int fd), y3, y4, y5] ∧ H2 = H3) ⟨0, none, none, none, rfl, hH2⟩ ?_ ?_ ?_⟩
    · rintro i σ H3 _ ⟨_, _, _, _, _, rfl⟩
      exact .inl (.inl L2')
    · rintro i x σ H3 hx ⟨fd, y3, y4, y5, rfl, rfl⟩
      obtain ⟨pr, rfl, hp0, hp1⟩ : ∃ pr : Int, x = V.int pr ∧ 0 < pr ∧ pr < 2147483648 := by
        rw [List.getElem?_map] at hx
        cases e : primes[i]? with
        | none => rw [e] at hx; cases hx
        | some z =>
          rw [e] at hx
          have hm := List.mem_of_getElem? e
          have all : ∀ z ∈ primes, 0 < z ∧ z < 2147483648 := by decide
          exact ⟨z, (Option.some.inj hx).symm, all z hm⟩
      refine ⟨_, rfl, 48271, t + 1, rfl, rfl, .inl ⟨by decide, by decide⟩, _, rfl, _, 37, rfl, rfl, ⟨by decide, by decide⟩, _, _, rfl, rfl, ?_⟩
      refine ⟨.ref a, rfl, a, _, rfl, get_cells A2, c, rfl, ⟨_, .inl (.inl C2)⟩, for_list (K := K) (a := c) (xs := cs.map V.int) (fun i σ H3 => ∃ (bl : Int) (y5 : Option V), σ = [some (.ref a), some (.int (t + 1)), some (.int fd), some (.int pr), some (.int bl), y5] ∧ H2 = H3 ∧ bl.natAbs < 2 ^ 40) ⟨_, y5, rfl, rfl, ?_⟩ ?_ ?_ ?_⟩
      · show (48271 * (t + 1) + pr / 37).natAbs < 1099511627776
        omega
      · rintro i σ H3 _ ⟨_, _, _, rfl, _⟩
        exact .inl (.inl C2)
      · rintro i x σ H3 hx ⟨bl, y5, rfl, rfl, hbl⟩
        obtain ⟨n, rfl⟩ : ∃ n, x = V.int n := by
          rw [List.getElem?_map] at hx
          cases e : cs[i]? with
          | none => rw [e] at hx; cases hx
          | some z => rw [e] at hx; exact ⟨z, (Option.some.inj hx).symm⟩
        refine ⟨_, rfl, bl, 69621, rfl, rfl, .inr ⟨by decide, by decide⟩, _, rfl, _, n, rfl, rfl, _, rfl, _, t + 1, rfl, rfl, .inl ⟨_, rfl, ?_⟩⟩
        have hm1 : 0 ≤ (bl * 69621 + n + (t + 1)).fmod pr := Int.fmod_nonneg_of_pos _ hp0
        have hm2 : (bl * 69621 + n + (t + 1)).fmod pr < pr := Int.fmod_lt_of_pos _ hp0
        refine ⟨_, rfl, _, pr, rfl, rfl, by omega, _, some (.int n), rfl, rfl, ?_⟩
        show _ < 1099511627776
        omega
      · rintro σ H3 ⟨bl, y5, rfl, rfl, hbl⟩
        have hbl' : bl.natAbs < 1099511627776 := hbl
        refine ⟨_, rfl, fd, 2147483563, rfl, rfl, .inr ⟨by decide, by decide⟩, _, rfl, bl, 5, rfl, rfl, ⟨by decide, by decide, ?_⟩, .inl ⟨_, rfl, _, rfl, _, pr, rfl, rfl, by omega, _, _, rfl, rfl, ?_⟩⟩
        · show bl.natAbs < 18446744073709551616
          omega
        · exact ⟨_, _, _, _, rfl, rfl⟩
    · rintro σ H3 ⟨fd, y3, y4, y5, rfl, rfl⟩
      refine ⟨_, rfl, q H2 fd (fun b o e hb => ?_) ⟨ncw, ws, cs, r, t + 1, A2, W2, C2, hwl, hcl, by omega, by omega⟩ fun r' t' e => ?_⟩
      · have hbl : b ≠ l := fun z => by
          rw [z] at e hb
          rw [upd_ne hb, e] at nl
          cases nl
        rw [hH2, upd_ne hbl, upd_ne hb]
        exact e
      · rw [hA] at e
        obtain ⟨e1, e2⟩ : r = r' ∧ t = t' := by
          have e := HO.dK.inj (Option.some.inj e)
          unfold stK at e
          simp at e
          exact e
        exact ⟨t + 1, by rw [← e1]; exact A2⟩
/-- a draw: some d, 0 ≤ d < z -/
def spDraw : Sp := fun vs H Q _ => ∃ (a w c : Addr) (T : Nat) (z : Int), vs = [.ref a, .int z] ∧ St H a w c T ∧ T ≤ 1000000 ∧ 0 < z ∧ z.natAbs < 2 ^ 1000 ∧
  ∀ (H' : Hp) (d : Int), 0 ≤ d → d < z → Kept a w H H' → St H' a w c (T + 1) → Q (.int d) H'
theorem scD : FnScope ["state", "size", "found"] ["state", "size"] (defScope sDraw) := ⟨rfl, rfl, rfl, by decide +kernel, rfl, by decide +kernel, by decide +kernel⟩
theorem ok_draw {f fS : Addr} {fd fdS : FuncData} (F : Fun K "_law_draw" "_law_draw" sDraw f fd) (FS : Fun K "_law_stirred" "_law_stirred" sStirred fS fdS) (bS : Binds K fdS ["state"] []) (gS : mg "_law_stirred" = some (.ref fS)) (mint : mg "int" = none) :
    FnOk P w K mg base CX0 2 f fd ["state", "size"] spDraw := by
  have GS : FnOk P w K mg base CX0 1 fS fdS ["state"] spStirred := ok_stirred FS mint
  refine F.ok scD (fun vs H Q E h => ?_) (fun cdv A outer s H vs Q E hr h => ?_)
  · obtain ⟨a, w, c, T, z, rfl, _⟩ := h
    rfl
  · obtain ⟨a, w, c, T, z, rfl, hSt, hT, hz, hzb, q⟩ := h
    have hu := hu_of hr
    refine ⟨_, pss_cons (ps_if (pt_cmpR op_eq (pe_dget hu (pv 0) pe_str (fun _ _ => rfl)) pe_int (nomark _))
        (pss_one (ps_dput hu (pv 0) pe_str (pe_ifExp (pt_cmpR (op_neD hr.units) (pe_dget hu (pv 0) pe_str (fun _ _ => rfl)) (pe_lst pa_nil) (nomark _))
          (pe_bm PySem.F.plainAttrs_list PySem.F.slot_list_pop PySem.F.type_list_pop mt_popAt (pe_dget hu (pv 0) pe_str (fun _ _ => rfl)) (pa_cons pe_int pa_nil))
          (pe_call GS hr (by rfl) gS FS.kp bS .nil pass0 (pa_cons (pv 0) pa_nil))) rfl)) pss_nil)
      (pss_cons (ps_set (i := 2) scD.nd rfl (.inl rfl) (pe_op op_modN (pe_callTy call_int1 (by rfl) mint (by decide +kernel) (pa_cons (pe_dget hu (pv 0) pe_str (fun _ _ => rfl)) pa_nil)) (pv 1)))
      (pss_cons (ps_dput hu (pv 0) pe_str (pe_op op_fdivW (pe_dget hu (pv 0) pe_str (fun _ _ => rfl)) (pv 1)) rfl)
      (pss_one (ps_ret (pv 2))))), ?_⟩
    obtain ⟨ncw, ws, cs, r, t, hA, hW, hC, hwl, hcl, ht0, htT⟩ := hSt
    have nca : c ≠ a := ne_of hC hA (by intro z; cases z)
    have nwa : w ≠ a := ne_of hW hA (by intro z; cases z)
    have zdiv : CDivW r z → True := fun _ => trivial
    have cdiv : ∀ r1 : Int, CDivW r1 z := fun r1 => wide_div hz hzb (by decide) (by decide)
    have fin : ∀ (H1 : Hp) (ws1 : List Int) (r1 t1 : Int), H1 a = some (.dK (stK w c r1 t1)) → H1 w = some (.lst (ws1.map V.int)) → H1 c = some (.lst (cs.map V.int)) → ws1.length ≤ 63 → 0 ≤ t1 → t1 ≤ (T + 1 : Nat) → Kept a w H H1 →
        Q (.int (r1.fmod z)) (upd H1 a (.dK (stK w c (r1 / z) t1))) := fun H1 ws1 r1 t1 h1 h2 h3 h4 h5 h6 h7 =>
      q _ _ (Int.fmod_nonneg_of_pos _ hz) (Int.fmod_lt_of_pos _ hz) (fun b o e n1 n2 => by rw [upd_ne n1]; exact h7 b o e n1 n2)
        ⟨ncw, ws1, cs, r1 / z, t1, upd_same, by rw [upd_ne nwa]; exact h2, by rw [upd_ne nca]; exact h3, h4, hcl, h5, h6⟩
    refine ⟨.ref a, rfl, a, _, rfl, get_rest hA, rfl, _, rfl, ite2 (fun _ => ?_) (fun _ => ?_)⟩
    · refine ⟨.ref a, rfl, a, _, rfl, get_wide hA, Nat.zero_le _, fun l nl => ?_⟩
      have nal : a ≠ l := ne_of_none hA nl
      have nwl : w ≠ l := ne_of_none hW nl
      have ncl : c ≠ l := ne_of_none hC nl
      have A1 : (upd H l (.lst [])) a = some (.dK (stK w c r t)) := by rw [upd_ne nal]; exact hA
      have W1 : (upd H l (.lst [])) w = some (.lst (ws.map V.int)) := by rw [upd_ne nwl]; exact hW
      have C1 : (upd H l (.lst [])) c = some (.lst (cs.map V.int)) := by rw [upd_ne ncl]; exact hC
      have K1 : Kept a w H (upd H l (.lst [])) := fun b o e _ _ => by rw [upd_ne (ne_of_none e nl)]; exact e
      refine ⟨_, _, dp_ints (.inl (.inl W1)), dp_ints (ns := []) (.inl (.inl upd_same)), shaped_ints ws, shaped_ints [], _, rfl, ?_⟩
      rw [eqv_ints ws []]
      cases ws with
      | nil =>
        refine iteF ?_
        refine ⟨.ref a, rfl, a, w, c, T, rfl, ⟨ncw, [], cs, r, t, A1, W1, C1, hwl, hcl, ht0, htT⟩, hT, fun H2 d k2 s2 _ => ?_⟩
        obtain ⟨_, ws2, cs2, r2, t2, A2, W2, C2, hwl2, hcl2, ht2, htT2⟩ := s2
        have W2' : H2 w = some (.lst (([] : List Int).map V.int)) := k2 w _ W1 nwa
        have C2' : H2 c = some (.lst (cs.map V.int)) := k2 c _ C1 nca
        refine ⟨.ref a, rfl, a, _, rfl, put_rest A2, ?_⟩
        refine ⟨.ref a, rfl, a, _, rfl, get_rest upd_same, .inl ⟨_, rfl, _, rfl, d, z, rfl, rfl, by omega, ?_⟩⟩
        refine ⟨.ref a, rfl, a, _, rfl, get_rest upd_same, _, rfl, d, z, rfl, rfl, cdiv d, .ref a, rfl, a, _, rfl, put_rest upd_same, _, rfl, ?_⟩
        refine fin _ [] d t2 upd_same (by rw [upd_ne nwa]; exact W2') (by rw [upd_ne nca]; exact C2') (by simp) ht2 htT2 fun b o e n1 n2 => ?_
        rw [upd_ne n1]
        exact k2 b o (K1 b o e n1 n2) n1
      | cons n ws =>
        refine iteT ?_
        refine ⟨.ref a, rfl, a, _, rfl, get_wide A1, .inl ⟨rfl, _, .inl (.inl W1)⟩, ?_⟩
        refine ⟨w, _, 0, 0, .int n, rfl, rfl, W1, by decide, by decide, by simp [seqIndex?], rfl, ?_⟩
        have A2 : (upd (upd H l (.lst [])) w (.lst (ws.map V.int))) a = some (.dK (stK w c r t)) := by rw [upd_ne nwa.symm]; exact A1
        refine ⟨.ref a, rfl, a, _, rfl, put_rest A2, ?_⟩
        refine ⟨.ref a, rfl, a, _, rfl, get_rest upd_same, .inl ⟨_, rfl, _, rfl, n, z, rfl, rfl, by omega, ?_⟩⟩
        refine ⟨.ref a, rfl, a, _, rfl, get_rest upd_same, _, rfl, n, z, rfl, rfl, cdiv n, .ref a, rfl, a, _, rfl, put_rest upd_same, _, rfl, ?_⟩
        refine fin _ ws n t upd_same (by rw [upd_ne nwa]; exact upd_same) (by rw [upd_ne nca, upd_ne ncw]; exact C1) (by simp at hwl; omega) ht0 (by omega) fun b o e n1 n2 => ?_
        rw [upd_ne n1, upd_ne n2]
        exact K1 b o e n1 n2
    · refine ⟨.ref a, rfl, a, _, rfl, get_rest hA, .inl ⟨_, rfl, _, rfl, r, z, rfl, rfl, by omega, ?_⟩⟩
      refine ⟨.ref a, rfl, a, _, rfl, get_rest hA, _, rfl, r, z, rfl, rfl, cdiv r, .ref a, rfl, a, _, rfl, put_rest hA, _, rfl, ?_⟩
      exact fin _ ws r t hA hW hC hwl ht0 (by omega) fun b o e _ _ => e
end
end Dr

/-! Greatest squares first: the mathematics -/
namespace Sq
/-- each item from 1 on, the greatest whose square is at most what is left; nothing is left -/
def Fall : Int → List Int → Prop
  | n, [] => n = 0
  | n, d :: r => 1 ≤ d ∧ d * d ≤ n ∧ n < (d + 1) * (d + 1) ∧ Fall (n - d * d) r
/-- the least with c items -/
def low : Nat → Int
  | 0 => 0
  | 1 => 1
  | c + 2 => low (c + 1) + ((low (c + 1) + 1) / 2) * ((low (c + 1) + 1) / 2)
theorem low_pos : ∀ c, 1 ≤ low (c + 1)
  | 0 => by decide
  | c + 1 => by
    have h := low_pos c
    show 1 ≤ low (c + 1) + ((low (c + 1) + 1) / 2) * ((low (c + 1) + 1) / 2)
    have h2 : 0 ≤ ((low (c + 1) + 1) / 2) * ((low (c + 1) + 1) / 2) := Int.mul_nonneg (by omega) (by omega)
    omega
theorem sq_mono {a b : Int} (h0 : 0 ≤ a) (h : a ≤ b) : a * a ≤ b * b := Int.mul_le_mul h h h0 (by omega)
/-- what is left behind the greatest square has fewer items -/
theorem step {n d : Int} {c : Nat} (h1 : 1 ≤ d) (h2 : d * d ≤ n) (h3 : n < (d + 1) * (d + 1)) (hn : n < low (c + 2)) : n - d * d < low (c + 1) := by
  have e : (d + 1) * (d + 1) = d * d + 2 * d + 1 := by rw [Int.add_mul, Int.mul_add]; omega
  rw [e] at h3
  have hp := low_pos c
  have hn' : n < low (c + 1) + ((low (c + 1) + 1) / 2) * ((low (c + 1) + 1) / 2) := hn
  by_cases h : n - d * d < low (c + 1)
  · exact h
  · exfalso
    have hd : (low (c + 1) + 1) / 2 ≤ d := by omega
    have := sq_mono (a := (low (c + 1) + 1) / 2) (b := d) (by omega) hd
    omega
theorem fall_len : ∀ (ds : List Int) (n : Int) (c : Nat), Fall n ds → n < low c → ds.length < c
  | [], n, c, h, hn => by
    cases c with
    | zero =>
      have h : n = 0 := h
      have hn : n < 0 := hn
      omega
    | succ c => simp
  | d :: r, n, c, h, hn => by
    obtain ⟨h1, h2, h3, h4⟩ := h
    have hn1 : 1 ≤ n := by
      have := sq_mono (a := 1) (b := d) (by omega) h1
      omega
    match c, hn with
    | 0, hn => exact absurd (show n < 0 from hn) (by omega)
    | 1, hn => exact absurd (show n < 1 from hn) (by omega)
    | c + 2, hn =>
      have := fall_len r (n - d * d) (c + 1) h4 (step h1 h2 h3 hn)
      simp
      omega
theorem fall_same : ∀ (ds es : List Int) (n : Int), Fall n ds → Fall n es → ds = es
  | [], [], _, _, _ => rfl
  | [], e :: r, n, h, g => by
    have h : n = 0 := h
    have := sq_mono (a := 1) (b := e) (by omega) g.1
    have := g.2.1
    omega
  | d :: r, [], n, h, g => by
    have g : n = 0 := g
    have := sq_mono (a := 1) (b := d) (by omega) h.1
    have := h.2.1
    omega
  | d :: r, e :: q, n, h, g => by
    obtain ⟨h1, h2, h3, h4⟩ := h
    obtain ⟨g1, g2, g3, g4⟩ := g
    have a1 : ¬ d + 1 ≤ e := fun z => by have := sq_mono (a := d + 1) (b := e) (by omega) z; omega
    have a2 : ¬ e + 1 ≤ d := fun z => by have := sq_mono (a := e + 1) (b := d) (by omega) z; omega
    have e1 : d = e := by omega
    subst e1
    rw [fall_same r q _ h4 g4]
/-- the items of low c -/
def itemsOf (c : Nat) : List Int :=
  match c with
  | 0 => []
  | 1 => [1]
  | 2 => [1, 1]
  | 3 => [1, 1, 1]
  | 4 => [2, 1, 1, 1]
  | 5 => [4, 2, 1, 1, 1]
  | 6 => [12, 4, 2, 1, 1, 1]
  | 7 => [84, 12, 4, 2, 1, 1, 1]
  | 8 => [3612, 84, 12, 4, 2, 1, 1, 1]
  | 9 => [6526884, 3612, 84, 12, 4, 2, 1, 1, 1]
  | 10 => [21300113901612, 6526884, 3612, 84, 12, 4, 2, 1, 1, 1]
  | _ => []
instance : ∀ (ds : List Int) (n : Int), Decidable (Fall n ds)
  | [], n => inferInstanceAs (Decidable (n = 0))
  | d :: r, n => by
    have := instDecidableFall r (n - d * d)
    exact inferInstanceAs (Decidable (1 ≤ d ∧ d * d ≤ n ∧ n < (d + 1) * (d + 1) ∧ Fall (n - d * d) r))
theorem items_fall : ∀ c, c < 11 → Fall (low c) (itemsOf c) ∧ (itemsOf c).length = c := by decide +kernel
/-- the least ones have just so many items -/
theorem low_len {c : Nat} {ds : List Int} (hc : c < 11) (h : Fall (low c) ds) : ds.length = c := by
  obtain ⟨h1, h2⟩ := items_fall c hc
  rw [fall_same _ _ _ h h1, h2]
theorem lows : (List.range 11).map low = [0, 1, 2, 3, 7, 23, 167, 7223, 13053767, 42600227803223, 453694852221687377444001767] := by decide +kernel
theorem low11 : (2 : Int) ^ 120 < low 11 := by decide +kernel
/-- while the squares are taken: what is left of n, and how many items there can be -/
structure Going (n : Int) (ds : List Int) (m : Int) : Prop where
  rest : ∀ r, Fall m r → Fall n (ds ++ r)
  few : ∃ c, m < low c ∧ ds.length + c ≤ 11
  pos : 0 ≤ m
  le : m ≤ n
theorem going0 {n : Int} (h0 : 0 ≤ n) (h : n < 2 ^ 120) : Going n [] n := ⟨fun r h => h, ⟨11, Int.lt_trans h low11, by simp⟩, h0, Int.le_refl _⟩
theorem going1 {n m d : Int} {ds : List Int} (g : Going n ds m) (hm : 0 < m) (h0 : 0 ≤ d) (h2 : d * d ≤ m) (h3 : m < (d + 1) * (d + 1)) : Going n (ds ++ [d]) (m - d * d) ∧ m - d * d < m := by
  have h1 : 1 ≤ d := by
    by_cases z : d = 0
    · subst z
      simp at h3
      omega
    · omega
  have hsq := sq_mono (a := 1) (b := d) (by omega) h1
  refine ⟨⟨fun r hr => ?_, ?_, by omega, by have := g.le; omega⟩, by omega⟩
  · rw [List.append_assoc]
    exact g.rest (d :: r) ⟨h1, h2, h3, hr⟩
  · obtain ⟨c, hc, hl⟩ := g.few
    match c, hc, hl with
    | 0, hc, _ => exact absurd (show m < 0 from hc) (by omega)
    | 1, hc, _ => exact absurd (show m < 1 from hc) (by omega)
    | c + 2, hc, hl => exact ⟨c + 1, step h1 h2 h3 hc, by simp; omega⟩
theorem going_end {n : Int} {ds : List Int} (g : Going n ds 0) : Fall n ds := by
  have := g.rest [] rfl
  rwa [List.append_nil] at this
theorem going_few {n m : Int} {ds : List Int} (g : Going n ds m) : ds.length ≤ 11 := by
  obtain ⟨c, _, hl⟩ := g.few
  omega
theorem root_small {d n : Int} (h0 : 0 ≤ d) (h : d * d ≤ n) (hn : n < 2 ^ 120) : d < 2 ^ 60 := by
  by_cases z : d < 2 ^ 60
  · exact z
  · have := sq_mono (a := 2 ^ 60) (b := d) (by decide) (by omega)
    have e : ((2 : Int) ^ 60) * 2 ^ 60 = 2 ^ 120 := by decide
    omega
end Sq

set_option Elab.async false
set_option linter.all false
set_option maxRecDepth 100000
set_option maxHeartbeats 2000000
namespace K1
open PySem PySem.Spec PyProof.Rows L2 Cau Dr
abbrev sWhole : Stmt := topS 5
abbrev sDown : Stmt := topS 8
abbrev sLeast : Stmt := topS 9
abbrev sCaught : Stmt := topS 15
abbrev sLWhole : Stmt := topS 16
abbrev sFalls : Stmt := topS 17
abbrev sLows : Stmt := topS 18
abbrev sSome : Stmt := topS 19
abbrev sLaw : Stmt := topS 20
/-! ### any value: whether it is a whole -/
def Kd (K : PySem.W.Frag) (H : Hp) (x : V) (b : Bool) : Prop :=
  (∃ i, x = .int i ∧ b = true) ∨ (∃ c, x = .bl c ∧ b = false) ∨ (b = false ∧ ∃ t, TyX K H x (.type t) ∧ kitB t "int" = some false)
def spWhole (K : PySem.W.Frag) : Sp := fun vs H Q _ => ∃ (x : V) (b : Bool), vs = [x] ∧ Kd K H x b ∧ Q (.bl b) H
theorem seqL_kept {K : PySem.W.Frag} {H H' : Hp} {a w p : Addr} {xs : List V} (h : SqL K H p xs) (k : Kept a w H H') (h1 : p ≠ a) (h2 : p ≠ w) : SqL K H' p xs := by
  rcases h with (h | ⟨o, h⟩) | h
  · exact .inl (.inl (k _ _ h h1 h2))
  · exact .inl (.inr ⟨o, k _ _ h h1 h2⟩)
  · exact .inr h
theorem St.mono {H : Hp} {a w c : Addr} {T T' : Nat} (h : St H a w c T) (l : T ≤ T') : St H a w c T' := by
  obtain ⟨h0, ws, cs, r, t, h1, h2, h3, h4, h5, h6, h7⟩ := h
  exact ⟨h0, ws, cs, r, t, h1, h2, h3, h4, h5, h6, by omega⟩
/-- but for new objects -/
theorem St.same {H H' : Hp} {a w c : Addr} {T : Nat} (h : St H a w c T) (k : Same H H') : St H' a w c T := by
  obtain ⟨h0, ws, cs, r, t, h1, h2, h3, h4⟩ := h
  exact ⟨h0, ws, cs, r, t, k _ _ h1, k _ _ h2, k _ _ h3, h4⟩
theorem Kept.of {a w : Addr} {H H' : Hp} (k : Same H H') : Kept a w H H' := fun b o e _ _ => k b o e
def spPick (K : PySem.W.Frag) : Sp := fun vs H Q _ => ∃ (a w c p : Addr) (T : Nat) (xs : List V), vs = [.ref a, .ref p] ∧ St H a w c T ∧ T ≤ 1000000 ∧ SqL K H p xs ∧ p ≠ a ∧ p ≠ w ∧ 0 < xs.length ∧ xs.length ≤ 1000 ∧
  ∀ (H' : Hp) (x : V), x ∈ xs → Kept a w H H' → St H' a w c (T + 1) → Q x H'
section
variable {P : Program} {w : World} {K : PySem.W.Frag} {mg : Str → Option Value} {base : Heap}
theorem scP : FnScope ["state", "some"] ["state", "some"] (defScope sPick) := ⟨rfl, rfl, rfl, by decide +kernel, rfl, by decide +kernel, by decide +kernel⟩
theorem ok_pick {f fD : Addr} {fd fdD : FuncData} (F : Fun K "_law_pick" "_law_pick" sPick f fd) (FD : Fun K "_law_draw" "_law_draw" sDraw fD fdD) (GD : FnOk P w K mg base CX0 2 fD fdD ["state", "size"] spDraw) (bD : Binds K fdD ["state", "size"] []) (gD : mg "_law_draw" = some (.ref fD)) (mlen : mg "len" = none) :
    FnOk P w K mg base CX0 3 f fd ["state", "some"] (spPick K) := by
  refine F.ok scP (fun vs H Q E h => ?_) (fun cdv A outer s H vs Q E hr h => ?_)
  · obtain ⟨a, w, c, p, T, xs, rfl, _⟩ := h
    rfl
  · obtain ⟨a, w, c, p, T, xs, rfl, hSt, hT, hS, npa, npw, hl0, hl1, q⟩ := h
    refine ⟨_, pss_one (ps_ret (pe_ix ix_list (pv 1) (pe_call GD hr (by rfl) gD FD.kp bD .nil pass0 (pa_cons (pv 0) (pa_cons (pe_callB call_len_seq (by rfl) mlen PySem.boot_len (pa_cons (pv 1) pa_nil)) pa_nil))) (fun _ _ => rfl))), ?_⟩
    refine ⟨_, rfl, _, rfl, _, rfl, p, xs, rfl, .inl hS, a, w, c, T, _, rfl, hSt, hT, by omega, ?_, fun H' d h0 h1 k s' => ?_⟩
    · exact Nat.lt_of_lt_of_le (show (xs.length : Int).natAbs < 2 ^ 10 by omega) (Nat.pow_le_pow_right (by decide) (by decide))
    · obtain ⟨j, rfl⟩ : ∃ j : Nat, d = (j : Int) := ⟨d.toNat, by omega⟩
      have hd : j < xs.length := by omega
      exact ⟨p, xs, j, xs[j], rfl, rfl, seqL_kept hS k npa npw, atI_nat (List.getElem?_eq_getElem hd), q H' _ (List.getElem_mem _) k s'⟩
theorem scW : FnScope ["value"] ["value"] (defScope sWhole) := ⟨rfl, rfl, rfl, by decide +kernel, rfl, by decide +kernel, by decide +kernel⟩
theorem ok_whole {f : Addr} {fd : FuncData} (F : Fun K "is_whole" "is_whole" sWhole f fd) (mi : mg "isinstance" = none) (mint : mg "int" = none) (mb : mg "bool" = none) : FnOk P w K mg base CX0 1 f fd ["value"] (spWhole K) := by
  refine F.ok scW (fun vs H Q E h => ?_) (fun cdv A outer s H vs Q E hr h => ?_)
  · obtain ⟨x, b, rfl, _⟩ := h
    rfl
  · obtain ⟨x, b, rfl, hk, q⟩ := h
    refine ⟨_, pss_one (ps_ret (pe_and (pe_callB call_isi (by rfl) mi (by decide +kernel) (pa_cons (pv 0) (pa_cons (pe_bltn (v := .ty "int") (by rfl) mint (by decide +kernel) rfl) pa_nil)))
      (pe_one (pe_not (pe_callB call_isi (by rfl) mi (by decide +kernel) (pa_cons (pv 0) (pa_cons (pe_bltn (v := .ty "bool") (by rfl) mb (by decide +kernel) rfl) pa_nil))))))), ?_⟩
    rcases hk with ⟨i, rfl, rfl⟩ | ⟨c, rfl, rfl⟩ | ⟨rfl, t, ht, hb⟩
    · refine ⟨_, rfl, .int i, .ty "int", .type "int", .type "int", true, rfl, .ty _, .base (.int i), kit_ty (by decide +kernel), true, rfl, iteT ?_⟩
      refine ⟨_, rfl, .int i, .ty "bool", .type "int", .type "bool", false, rfl, .ty _, .base (.int i), kit_ty (by decide +kernel), false, rfl, q⟩
    · refine ⟨_, rfl, .bl c, .ty "int", .type "bool", .type "int", true, rfl, .ty _, .base (.bl c), kit_ty (by decide +kernel), true, rfl, iteT ?_⟩
      refine ⟨_, rfl, .bl c, .ty "bool", .type "bool", .type "bool", true, rfl, .ty _, .base (.bl c), kit_ty (by decide +kernel), true, rfl, q⟩
    · exact ⟨_, rfl, x, .ty "int", .type t, .type "int", false, rfl, .ty _, ht, kit_ty hb, false, rfl, iteF q⟩
/-! ### the program -/
/-- greatest squares first; or BadCount -/
def NotCount (K : PySem.W.Frag) (H : Hp) (x : V) : Prop := (∃ i, x = .int i ∧ i < 0) ∨ Kd K H x false
def spDown (K : PySem.W.Frag) (C : Addr) : Sp := fun vs H Q E =>
  (∃ n : Int, vs = [.int n] ∧ 0 ≤ n ∧ n < 2 ^ 120 ∧ ∀ (H' : Hp) (p : Addr) (ds : List Int), Same H H' → H p = none → H' p = some (.lst (ds.map V.int)) → Sq.Fall n ds → ds.length ≤ 11 → Q (.ref p) H') ∨
  (∃ x, vs = [x] ∧ NotCount K H x ∧ E (.ref C) none H)
/-- what the top has written of BadCount -/
structure TxtE (K : PySem.W.Frag) (mg : Str → Option Value) (C : Addr) : Prop where
  g : mg "BadCount" = some (.ref C)
  x : PySem.W.excIn K C [.type "ValueError", .type "Exception", .type "BaseException", .type "object"] "ValueError.__new__" = true
  k : PySem.W.keepIn K (.ref C) = true
  b : PySem.W.subIn K (.ref C) (.type "BaseException") = some true
  t : PySem.W.typeIn K (.ref C) = some (.type "type")
theorem scDo : FnScope ["n", "items", "item"] ["n"] (defScope sDown) := ⟨rfl, rfl, rfl, by decide +kernel, rfl, by decide +kernel, by decide +kernel⟩
theorem ok_down {f fW C : Addr} {fd fdW : FuncData} (F : Fun K "downsquares" "downsquares" sDown f fd) (FW : Fun K "is_whole" "is_whole" sWhole fW fdW) (GW : FnOk P w K mg base CX0 1 fW fdW ["value"] (spWhole K)) (bW : Binds K fdW ["value"] [])
    (gW : mg "is_whole" = some (.ref fW)) (T : TxtE K mg C) (gR : mg "isqrt" = some (.builtin "math.isqrt")) : FnOk P w K mg base (L2.CX P w) 2 f fd ["n"] (spDown K C) := by
  refine F.okX scDo (fun vs H Q E h => ?_) (fun cdv A outer s H vs Q E hr h => ?_)
  · rcases h with ⟨n, rfl, _⟩ | ⟨x, rfl, _⟩ <;> rfl
  · refine ⟨_, pss_cons (ps_if (PW.pt (pw_or (pt_not (pt_val (pe_call GW hr (by rfl) gW FW.kp bW .nil pass0 (pa_cons (pv 0) pa_nil)))) (pw_or1 (pt_cmpR op_lt (pv 0) pe_int (nomark _)))))
        (pss_one (ps_raise rfl (takes_of rfl rfl rfl rfl) (pmk_own PySem.F.excBase_ValueError T.x T.g T.k (raises_own T.b T.t) rfl))) pss_nil)
      (pss_cons (ps_set (i := 1) scDo.nd rfl (.inl rfl) (pe_lst pa_nil))
      (pss_cons (ps_while (passes_of rfl) (pt_cmpR op_gt (pv 0) pe_int (nomark _))
        (pss_cons (ps_set (i := 2) scDo.nd rfl (.inl rfl) (pe_callBfun cr_isqrt (by rfl) gR (pa_cons (pv 0) pa_nil)))
        (pss_cons (ps_expr (pe_bm PySem.F.plainAttrs_list PySem.F.slot_list_append PySem.F.type_list_append mt_append (pv 1) (pa_cons (pv 2) pa_nil)))
        (pss_one (ps_set (i := 0) scDo.nd rfl (.inl rfl) (pe_op op_sub (pv 0) (pe_op op_mul (pv 2) (pv 2))))))))
      (pss_one (ps_ret (pv 1))))), ?_⟩
    rcases h with ⟨n, rfl, h0, h1, q⟩ | ⟨x, rfl, hx, q⟩
    · refine ⟨_, rfl, .int n, true, rfl, .inl ⟨n, rfl, rfl⟩, true, rfl, iteF ⟨_, rfl, _, _, rfl, rfl, _, rfl, ?_⟩⟩
      rw [decide_eq_false (show ¬ n < 0 by omega)]
      refine iteF ?_
      refine ⟨Nat.zero_le _, fun l nl => ?_⟩
      have s1 : Same H (upd H l (.lst [])) := same_upd nl
      refine ⟨fun k σ H' => ∃ (m : Int) (ds : List Int) (y2 : Option V), k = m.toNat ∧ σ = [some (.int m), some (.ref l), y2] ∧ Same H H' ∧ H' l = some (.lst (ds.map V.int)) ∧ Sq.Going n ds m,
        ⟨_, n, [], none, rfl, rfl, s1, upd_same, Sq.going0 h0 h1⟩, ?_⟩
      rintro k σ H' ⟨m, ds, y2, rfl, rfl, s2, hl, g⟩
      refine ⟨_, rfl, _, _, rfl, rfl, _, rfl, ite2 (fun hm => ?_) (fun hm => ?_)⟩
      · have hm : 0 < m := of_decide_eq_true hm
        have hmb : m < 2 ^ 120 := Int.lt_of_le_of_lt g.le h1
        refine ⟨_, fun _ _ z => z, _, rfl, m, rfl, by omega, Int.lt_trans hmb (by decide), fun d hd0 hd1 hd2 => ?_⟩
        have hds : d < 2 ^ 60 := Sq.root_small hd0 hd1 hmb
        obtain ⟨g', lt'⟩ := Sq.going1 g hm hd0 hd1 hd2
        refine ⟨_, rfl, .inl ⟨rfl, _, .inl (.inl hl)⟩, _, rfl, l, _, _, rfl, rfl, hl, ?_, ?_⟩
        · rw [List.length_map]
          exact small1000 (by have := Sq.going_few g; omega)
        · refine ⟨_, rfl, _, rfl, _, rfl, d, d, rfl, rfl, .inl ⟨by omega, by omega⟩, m, d * d, rfl, rfl, (m - d * d).toNat, by omega, m - d * d, ds ++ [d], _, rfl, rfl, fun b o e => ?_, ?_, g'⟩
          · rw [upd_ne (ne_of_none e nl)]
            exact s2 b o e
          · rw [upd_same, List.map_append]
            rfl
      · have hm : ¬ 0 < m := fun z => hm (decide_eq_true z)
        have e0 : m = 0 := by have := g.pos; omega
        subst e0
        exact ⟨_, rfl, q H' l ds s2 nl hl (Sq.going_end g) (Sq.going_few g)⟩
    · rcases hx with ⟨i, rfl, hi⟩ | hk
      · refine ⟨_, rfl, .int i, true, rfl, .inl ⟨i, rfl, rfl⟩, true, rfl, iteF ⟨_, rfl, _, _, rfl, rfl, _, rfl, ?_⟩⟩
        rw [decide_eq_true hi]
        exact iteT q
      · exact ⟨_, rfl, x, false, rfl, hk, false, rfl, iteT (iteT q)⟩
end
end K1

set_option Elab.async false
set_option linter.all false
set_option maxRecDepth 100000
set_option maxHeartbeats 2000000
namespace K2
open PySem PySem.Spec PyProof.Rows L2 Cau Dr K1
def spLeast (K : PySem.W.Frag) (C : Addr) : Sp := fun vs H Q E =>
  (∃ c : Nat, vs = [.int c] ∧ c ≤ 10 ∧ ∀ H', Same H H' → Q (.int (Sq.low c)) H') ∨
  (∃ x, vs = [x] ∧ ((∃ i, x = .int i ∧ (i < 0 ∨ 10 < i)) ∨ Kd K H x false) ∧ E (.ref C) none H)
section
variable {P : Program} {w : World} {K : PySem.W.Frag} {mg : Str → Option Value} {base : Heap}
theorem ints_at {ns : List Int} {i : Nat} {x : V} (hx : (ns.map V.int)[i]? = some x) : ∃ n, x = V.int n ∧ ns[i]? = some n := by
  rw [List.getElem?_map] at hx
  cases e : ns[i]? with
  | none => rw [e] at hx; cases hx
  | some z => rw [e] at hx; exact ⟨z, (Option.some.inj hx).symm, rfl⟩
theorem scLW : FnScope ["value"] ["value"] (defScope sLWhole) := ⟨rfl, rfl, rfl, by decide +kernel, rfl, by decide +kernel, by decide +kernel⟩
theorem ok_lwhole {f : Addr} {fd : FuncData} (F : Fun K "_law_is_whole" "_law_is_whole" sLWhole f fd) (mi : mg "isinstance" = none) (mint : mg "int" = none) (mb : mg "bool" = none) : FnOk P w K mg base CX0 1 f fd ["value"] (spWhole K) := by
  refine F.ok scLW (fun vs H Q E h => ?_) (fun cdv A outer s H vs Q E hr h => ?_)
  · obtain ⟨x, b, rfl, _⟩ := h
    rfl
  · obtain ⟨x, b, rfl, hk, q⟩ := h
    refine ⟨_, pss_one (ps_ret (pe_and (pe_callB call_isi (by rfl) mi (by decide +kernel) (pa_cons (pv 0) (pa_cons (pe_bltn (v := .ty "int") (by rfl) mint (by decide +kernel) rfl) pa_nil)))
      (pe_one (pe_not (pe_callB call_isi (by rfl) mi (by decide +kernel) (pa_cons (pv 0) (pa_cons (pe_bltn (v := .ty "bool") (by rfl) mb (by decide +kernel) rfl) pa_nil))))))), ?_⟩
    rcases hk with ⟨i, rfl, rfl⟩ | ⟨c, rfl, rfl⟩ | ⟨rfl, t, ht, hb⟩
    · refine ⟨_, rfl, .int i, .ty "int", .type "int", .type "int", true, rfl, .ty _, .base (.int i), kit_ty (by decide +kernel), true, rfl, iteT ?_⟩
      refine ⟨_, rfl, .int i, .ty "bool", .type "int", .type "bool", false, rfl, .ty _, .base (.int i), kit_ty (by decide +kernel), false, rfl, q⟩
    · refine ⟨_, rfl, .bl c, .ty "int", .type "bool", .type "int", true, rfl, .ty _, .base (.bl c), kit_ty (by decide +kernel), true, rfl, iteT ?_⟩
      refine ⟨_, rfl, .bl c, .ty "bool", .type "bool", .type "bool", true, rfl, .ty _, .base (.bl c), kit_ty (by decide +kernel), true, rfl, q⟩
    · exact ⟨_, rfl, x, .ty "int", .type t, .type "int", false, rfl, .ty _, ht, kit_ty hb, false, rfl, iteF q⟩
/-! ### the items are right -/
def spFalls : Sp := fun vs H Q _ => ∃ (n : Int) (p : Addr) (ds : List Int), vs = [.int n, .ref p] ∧ H p = some (.lst (ds.map V.int)) ∧ Sq.Fall n ds ∧ n < 2 ^ 120 ∧ Q (.bl true) H
theorem scF : FnScope ["n", "items", "rest", "item"] ["n", "items"] (defScope sFalls) := ⟨rfl, rfl, rfl, by decide +kernel, rfl, by decide +kernel, by decide +kernel⟩
theorem ok_falls {f fW : Addr} {fd fdW : FuncData} (F : Fun K "_law_falls" "_law_falls" sFalls f fd) (FW : Fun K "_law_is_whole" "_law_is_whole" sLWhole fW fdW) (GW : FnOk P w K mg base CX0 1 fW fdW ["value"] (spWhole K)) (bW : Binds K fdW ["value"] [])
    (gW : mg "_law_is_whole" = some (.ref fW)) (mi : mg "isinstance" = none) (ml : mg "list" = none) : FnOk P w K mg base CX0 2 f fd ["n", "items"] spFalls := by
  refine F.ok scF (fun vs H Q E h => ?_) (fun cdv A outer s H vs Q E hr h => ?_)
  · obtain ⟨n, p, ds, rfl, _⟩ := h
    rfl
  · obtain ⟨n, p, ds, rfl, hp, hf, hn, q⟩ := h
    refine ⟨_, pss_cons (ps_if (pt_not (pt_val (pe_callB call_isi (by rfl) mi (by decide +kernel) (pa_cons (pv 1) (pa_cons (pe_bltn (v := .ty "list") (by rfl) ml (by decide +kernel) rfl) pa_nil))))) (pss_one (ps_ret pe_bl)) pss_nil)
      (pss_cons (ps_set (i := 2) scF.nd rfl (.inl rfl) (pv 0))
      (pss_cons (ps_for PassesOwn.never rfl (pi_list (pv 1)) (pg_name (i := 3) scF.nd rfl (.inl rfl))
        (pss_cons (ps_if (PW.pt (pw_or (pt_not (pt_val (pe_call GW hr (by rfl) gW FW.kp bW .nil pass0 (pa_cons (pv 3) pa_nil)))) (pw_or1 (pt_cmpR op_lt (pv 3) pe_int (nomark _))))) (pss_one (ps_ret pe_bl)) pss_nil)
        (pss_cons (ps_if (PW.pt (pw_or (pt_cmpR op_gt (pe_op op_mul (pv 3) (pv 3)) (pv 2) (nomark _)) (pw_or1 (pt_cmpR op_le (pe_op op_mul (pe_op op_add (pv 3) pe_int) (pe_op op_add (pv 3) pe_int)) (pv 2) (nomark _))))) (pss_one (ps_ret pe_bl)) pss_nil)
        (pss_one (ps_set (i := 2) scF.nd rfl (.inl rfl) (pe_op op_sub (pv 2) (pe_op op_mul (pv 3) (pv 3))))))))
      (pss_one (ps_ret (pe_cmpR op_eq (pv 2) pe_int (nomark _)))))), ?_⟩
    refine ⟨_, rfl, .ref p, .ty "list", .type "list", .type "list", true, rfl, .ty _, .base (.lst hp), kit_ty (by decide +kernel), true, rfl, iteF ?_⟩
    refine ⟨_, rfl, _, rfl, p, rfl, ⟨_, .inl (.inl hp)⟩, for_list (K := K) (a := p) (xs := ds.map V.int) (fun i σ H' => ∃ (m : Int) (y : Option V), σ = [some (.int n), some (.ref p), some (.int m), y] ∧ H = H' ∧ Sq.Fall m (ds.drop i) ∧ m < 2 ^ 120) ⟨n, none, rfl, rfl, hf, hn⟩ ?_ ?_ ?_⟩
    · rintro i σ H' _ ⟨_, _, _, rfl, _⟩
      exact .inl (.inl hp)
    · rintro i x σ H' hx ⟨m, y, rfl, rfl, hfm, hm⟩
      obtain ⟨d, rfl, hd⟩ := ints_at hx
      have hdr : ds.drop i = d :: ds.drop (i + 1) := by
        have hi := (List.getElem?_eq_some_iff.mp hd).1
        rw [List.drop_eq_getElem_cons hi, (List.getElem?_eq_some_iff.mp hd).2]
      rw [hdr] at hfm
      obtain ⟨h1, h2, h3, h4⟩ := hfm
      have hds : d < 2 ^ 60 := Sq.root_small (by omega) h2 hm
      have hdp : 0 ≤ d * d := Int.mul_nonneg (by omega) (by omega)
      refine ⟨_, rfl, .int d, true, rfl, .inl ⟨d, rfl, rfl⟩, true, rfl, iteF ⟨_, rfl, _, _, rfl, rfl, _, rfl, ?_⟩⟩
      rw [decide_eq_false (show ¬ d < 1 by omega)]
      refine iteF ?_
      refine ⟨_, rfl, _, rfl, d, d, rfl, rfl, .inl ⟨by omega, by omega⟩, _, rfl, d * d, m, rfl, rfl, _, rfl, ?_⟩
      rw [decide_eq_false (show ¬ m < d * d by omega)]
      refine iteF ?_
      refine ⟨_, rfl, _, _, rfl, rfl, _, rfl, _, _, rfl, rfl, d + 1, d + 1, rfl, rfl, .inl ⟨by omega, by omega⟩, _, rfl, _, m, rfl, rfl, _, rfl, ?_⟩
      rw [decide_eq_false (show ¬ (d + 1) * (d + 1) ≤ m by omega)]
      refine iteF ?_
      exact ⟨_, rfl, _, rfl, _, rfl, d, d, rfl, rfl, .inl ⟨by omega, by omega⟩, m, d * d, rfl, rfl, _, _, rfl, rfl, h4, by omega⟩
    · rintro σ H' ⟨m, y, rfl, rfl, hfm, hm⟩
      rw [List.length_map, List.drop_length] at hfm
      have e0 : m = 0 := hfm
      subst e0
      exact ⟨_, rfl, rfl, q⟩
/-! ### the least ones -/
def lowsL : List Int := [0, 1, 2, 3, 7, 23, 167, 7223, 13053767, 42600227803223, 453694852221687377444001767]
theorem lowsL_at : ∀ c, c < 11 → lowsL[c]? = some (Sq.low c) := by decide +kernel
def spLows : Sp := fun vs H Q _ => vs = [] ∧ ∀ H' p, Same H H' → H p = none → H' p = some (.lst (lowsL.map V.int)) → Q (.ref p) H'
theorem scLo : FnScope ["lows", "turn", "half"] [] (defScope sLows) := ⟨rfl, rfl, rfl, by decide +kernel, rfl, by decide +kernel, by decide +kernel⟩
theorem lows_step : ∀ i, i < 7 → ∃ z, (lowsL.take (4 + i))[3 + i]? = some z ∧ 0 ≤ z ∧ ((z + 1) / 2).natAbs < 2 ^ 60 ∧ lowsL.take (4 + (i + 1)) = lowsL.take (4 + i) ++ [z + (z + 1) / 2 * ((z + 1) / 2)] ∧ (lowsL.take (4 + i)).length = 4 + i := by
  intro i hi
  match i, hi with
  | 0, _ => exact ⟨3, by decide +kernel⟩
  | 1, _ => exact ⟨7, by decide +kernel⟩
  | 2, _ => exact ⟨23, by decide +kernel⟩
  | 3, _ => exact ⟨167, by decide +kernel⟩
  | 4, _ => exact ⟨7223, by decide +kernel⟩
  | 5, _ => exact ⟨13053767, by decide +kernel⟩
  | 6, _ => exact ⟨42600227803223, by decide +kernel⟩
theorem ok_lows {f : Addr} {fd : FuncData} (F : Fun K "_law_lows" "_law_lows" sLows f fd) (mr : mg "range" = none) (mlen : mg "len" = none) : FnOk P w K mg base CX0 1 f fd [] spLows := by
  refine F.ok scLo (fun vs H Q E h => ?_) (fun cdv A outer s H vs Q E hr h => ?_)
  · obtain ⟨rfl, _⟩ := h
    rfl
  · obtain ⟨rfl, q⟩ := h
    refine ⟨_, pss_cons (ps_set (i := 0) scLo.nd rfl (.inl rfl) (pe_lst (pa_cons pe_int (pa_cons pe_int (pa_cons pe_int (pa_cons pe_int pa_nil))))))
      (pss_cons (ps_for PassesOwn.never rfl (pi_range1 rfl mr (pa_cons pe_int pa_nil)) (pg_name (i := 1) scLo.nd rfl (.inl rfl))
        (pss_cons (ps_set (i := 2) scLo.nd rfl (.inl rfl) (pe_op op_fdiv (pe_op op_add (pe_ix ix_list (pv 0) (pe_op op_sub (pe_callB call_len_seq (by rfl) mlen PySem.boot_len (pa_cons (pv 0) pa_nil)) pe_int) (fun _ _ => rfl)) pe_int) pe_int))
        (pss_one (ps_expr (pe_bm PySem.F.plainAttrs_list PySem.F.slot_list_append PySem.F.type_list_append mt_append (pv 0) (pa_cons
          (pe_op op_add (pe_ix ix_list (pv 0) (pe_op op_sub (pe_callB call_len_seq (by rfl) mlen PySem.boot_len (pa_cons (pv 0) pa_nil)) pe_int) (fun _ _ => rfl)) (pe_op op_mul (pv 2) (pv 2))) pa_nil))))))
      (pss_one (ps_ret (pv 0)))), ?_⟩
    refine ⟨by show 4 ≤ sizeLine; decide, fun p np => ?_⟩
    refine ⟨7, rfl, by decide, by decide, for_range (lo := 0) (n := 7) (fun i σ H' => ∃ y1 y2 : Option V, σ = [some (.ref p), y1, y2] ∧ Same H H' ∧ H' p = some (.lst ((lowsL.take (4 + i)).map V.int))) ⟨none, none, rfl, same_upd np, upd_same⟩ ?_ ?_⟩
    · rintro i σ H' hi ⟨y1, y2, rfl, sm, hp⟩
      obtain ⟨z, hz, h0, hb, e, el⟩ := lows_step i hi
      have ez : ((lowsL.take (4 + i)).map V.int)[3 + i]? = some (.int z) := by rw [List.getElem?_map, hz]; rfl
      have at_ : atI ((lowsL.take (4 + i)).map V.int) (((lowsL.take (4 + i)).map V.int).length - 1) = some (.int z) := by
        have e1 : ((((lowsL.take (4 + i)).map V.int).length : Int) - 1) = ((3 + i : Nat) : Int) := by rw [List.length_map, el]; omega
        rw [e1]
        exact atI_nat ez
      refine ⟨_, rfl, _, rfl, p, _, rfl, .inl (.inl (.inl hp)), _, 1, rfl, rfl, p, _, _, .int z, rfl, rfl, .inl (.inl hp), at_, z, 1, rfl, rfl, _, _, rfl, rfl, ⟨by decide, by decide⟩, ?_⟩
      refine ⟨_, rfl, .inl ⟨rfl, _, .inl (.inl hp)⟩, _, rfl, _, rfl, p, _, rfl, .inl (.inl (.inl hp)), _, 1, rfl, rfl, p, _, _, .int z, rfl, rfl, .inl (.inl hp), at_, _, rfl, _, rfl, (z + 1) / 2, (z + 1) / 2, rfl, rfl, ?_, _, _, rfl, rfl, p, _, _, rfl, rfl, hp, ?_, ?_⟩
      · have hb' : ((z + 1) / 2).natAbs < 1152921504606846976 := hb
        exact .inl ⟨by omega, by omega⟩
      · rw [List.length_map]
        exact small1000 (by omega)
      · refine ⟨_, _, rfl, fun b o e2 => ?_, ?_⟩
        · rw [upd_ne (ne_of_none e2 np)]
          exact sm b o e2
        · rw [upd_same, e, List.map_append]
          rfl
    · rintro σ H' ⟨y1, y2, rfl, sm, hp⟩
      exact ⟨_, rfl, q H' p sm np hp⟩
end
end K2

set_option Elab.async false
set_option linter.all false
set_option maxRecDepth 100000
set_option maxHeartbeats 2000000
namespace K3
open PySem PySem.Spec PyProof.Rows L2 Cau Dr K1 K2
def spSome (K : PySem.W.Frag) : Sp := fun vs H Q _ => ∃ (a w c p : Addr) (T : Nat), vs = [.ref a, .ref p] ∧ St H a w c T ∧ T ≤ 900000 ∧ SqL K H p (lowsL.map V.int) ∧ p ≠ a ∧ p ≠ w ∧
  ∀ (H' : Hp) (n : Int), 0 ≤ n → n < 2 ^ 120 → Kept a w H H' → St H' a w c (T + 20) → Q (.int n) H'
section
variable {P : Program} {w : World} {K : PySem.W.Frag} {mg : Str → Option Value} {base : Heap}
theorem scSo : FnScope ["state", "lows", "way", "found", "turn", "root"] ["state", "lows"] (defScope sSome) := ⟨rfl, rfl, rfl, by decide +kernel, rfl, by decide +kernel, by decide +kernel⟩
theorem pow15 : CPow 10 15 := ⟨by decide, by decide, by decide⟩
theorem small_draw {z : Int} (h0 : 0 ≤ z) (h : z ≤ 1000) : z.natAbs < 2 ^ 1000 := Nat.lt_of_lt_of_le (show z.natAbs < 2 ^ 10 by omega) (Nat.pow_le_pow_right (by decide) (by decide))
theorem ok_some {f fD fP : Addr} {fd fdD fdP : FuncData} (F : Fun K "_law_some_whole" "_law_some_whole" sSome f fd) (FD : Fun K "_law_draw" "_law_draw" sDraw fD fdD) (GD : FnOk P w K mg base CX0 2 fD fdD ["state", "size"] spDraw) (bD : Binds K fdD ["state", "size"] []) (gD : mg "_law_draw" = some (.ref fD))
    (FP : Fun K "_law_pick" "_law_pick" sPick fP fdP) (GP : FnOk P w K mg base CX0 3 fP fdP ["state", "some"] (spPick K)) (bP : Binds K fdP ["state", "some"] []) (gP : mg "_law_pick" = some (.ref fP)) (mr : mg "range" = none) (mm : mg "max" = none) :
    FnOk P w K mg base CX0 4 f fd ["state", "lows"] (spSome K) := by
  refine F.ok scSo (fun vs H Q E h => ?_) (fun cdv A outer s H vs Q E hr h => ?_)
  · obtain ⟨a, w, c, p, T, rfl, _⟩ := h
    rfl
  · obtain ⟨a, w, c, p, T, rfl, hSt, hT, hp, npa, npw, q⟩ := h
    have hrD : Room 2 _ := hr.mono (by decide)
    refine ⟨_, pss_cons (ps_set (i := 2) scSo.nd rfl (.inl rfl) (pe_call GD hrD (by rfl) gD FD.kp bD .nil pass0 (pa_cons (pv 0) (pa_cons pe_int pa_nil))))
      (pss_cons (ps_if (pt_cmpR op_eq (pv 2) pe_int (nomark _))
        (pss_one (ps_ret (pe_callB (call_max2 rfl) (by rfl) mm (by decide +kernel) (pa_cons pe_int (pa_cons
          (pe_op op_sub (pe_op op_add (pe_call GP hr (by rfl) gP FP.kp bP .nil pass0 (pa_cons (pv 0) (pa_cons (pv 1) pa_nil))) (pe_call GD hrD (by rfl) gD FD.kp bD .nil pass0 (pa_cons (pv 0) (pa_cons pe_int pa_nil)))) pe_int) pa_nil))))) pss_nil)
      (pss_cons (ps_set (i := 3) scSo.nd rfl (.inl rfl) pe_int)
      (pss_cons (ps_for PassesOwn.never rfl (pi_range1 rfl mr (pa_cons (pe_op op_add pe_int (pe_call GD hrD (by rfl) gD FD.kp bD .nil pass0 (pa_cons (pv 0) (pa_cons pe_int pa_nil)))) pa_nil)) (pg_name (i := 4) scSo.nd rfl (.inl rfl))
        (pss_one (ps_set (i := 3) scSo.nd rfl (.inl rfl) (pe_op op_add (pe_op op_mul (pv 3) pe_int) (pe_call GD hrD (by rfl) gD FD.kp bD .nil pass0 (pa_cons (pv 0) (pa_cons pe_int pa_nil)))))))
      (pss_cons (ps_if (pt_cmpR op_eq (pv 2) pe_int (nomark _))
        (pss_cons (ps_set (i := 5) scSo.nd rfl (.inl rfl) (pe_op op_fdivW (pv 3) (pe_op op_pow pe_int pe_int)))
        (pss_one (ps_ret (pe_callB (call_max2 rfl) (by rfl) mm (by decide +kernel) (pa_cons pe_int (pa_cons
          (pe_op op_sub (pe_op op_add (pe_op op_mul (pv 5) (pv 5)) (pe_call GD hrD (by rfl) gD FD.kp bD .nil pass0 (pa_cons (pv 0) (pa_cons pe_int pa_nil)))) pe_int) pa_nil)))))) pss_nil)
      (pss_one (ps_ret (pv 3))))))), ?_⟩
    refine ⟨_, rfl, a, w, c, T, 4, rfl, hSt, by omega, by decide, small_draw (by decide) (by decide), fun H1 way hw0 hw1 k1 s1 => ?_⟩
    refine ⟨_, rfl, rfl, _, rfl, ite2 (fun _ => ?_) (fun _ => ?_)⟩
    · refine ⟨_, rfl, _, rfl, a, w, c, p, T + 1, _, rfl, s1, by omega, seqL_kept hp k1 npa npw, npa, npw, by decide, by decide, fun H2 x hx k2 s2 => ?_⟩
      obtain ⟨z, hz, rfl⟩ : ∃ z, z ∈ lowsL ∧ V.int z = x := List.mem_map.mp hx
      have hz2 : 0 ≤ z ∧ z < 2 ^ 100 := by
        have all : ∀ z ∈ lowsL, 0 ≤ z ∧ z < 2 ^ 100 := by decide +kernel
        exact all z hz
      refine ⟨_, rfl, a, w, c, T + 2, 3, rfl, s2, by omega, by decide, small_draw (by decide) (by decide), fun H3 d hd0 hd1 k3 s3 => ?_⟩
      refine ⟨_, _, rfl, rfl, _, _, rfl, rfl, _, _, rfl, ?_⟩
      refine q H3 _ ?_ ?_ (k1.trans (k2.trans k3)) (St.mono s3 (by omega))
      · split <;> omega
      · have e : (2 : Int) ^ 120 = 2 ^ 100 * 1048576 := by decide
        split <;> omega
    · refine ⟨_, rfl, a, w, c, T + 1, 10, rfl, s1, by omega, by decide, small_draw (by decide) (by decide), fun H2 m hm0 hm1 k2 s2 => ?_⟩
      refine ⟨_, _, rfl, rfl, _, rfl, ?_, ?_, for_range (lo := 0) (n := (1 + m).toNat) (fun i σ H' => ∃ (fo : Int) (y4 : Option V), σ = [some (.ref a), some (.ref p), some (.int way), some (.int fo), y4, none] ∧ Kept a w H H' ∧ St H' a w c (T + 2 + i) ∧ 0 ≤ fo ∧ fo < 1000 ^ i)
        ⟨0, none, rfl, k1.trans k2, s2, by omega, by decide⟩ ?_ ?_⟩
      · show (-4611686018427387904 : Int) ≤ 1 + m
        omega
      · show 1 + m < 4611686018427387904
        omega
      · rintro i σ H' hi ⟨fo, y4, rfl, k3, s3, hf0, hf1⟩
        refine ⟨_, rfl, fo, 1000, rfl, rfl, .inr ⟨by decide, by decide⟩, _, rfl, a, w, c, T + 2 + i, 1000, rfl, s3, by omega, by decide, small_draw (by decide) (by decide), fun H4 d hd0 hd1 k4 s4 => ?_⟩
        refine ⟨_, _, rfl, rfl, _, _, rfl, k3.trans k4, s4, by omega, ?_⟩
        have e : (1000 : Int) ^ (i + 1) = 1000 ^ i * 1000 := Int.pow_succ _ _
        rw [e]
        omega
      · rintro σ H' ⟨fo, y4, rfl, k3, s3, hf0, hf1⟩
        have hfb : fo < 10 ^ 30 := by
          have hn : (1 + m).toNat ≤ 10 := by omega
          have all : ∀ k : Nat, k ≤ 10 → (1000 : Int) ^ k ≤ 10 ^ 30 := by decide
          exact Int.lt_of_lt_of_le hf1 (all _ hn)
        have hft : (1 + m).toNat ≤ 10 := by omega
        have e120 : (10 : Int) ^ 30 + 10 < 2 ^ 120 := by decide
        refine ⟨_, rfl, rfl, _, rfl, ite2 (fun _ => ?_) (fun _ => ?_)⟩
        · have hr0 : 0 ≤ fo / 10 ^ 15 := Int.ediv_nonneg hf0 (by decide)
          have hr1 : fo / 10 ^ 15 < 10 ^ 15 := Int.ediv_lt_of_lt_mul (by decide) (by have e : (10 : Int) ^ 15 * 10 ^ 15 = 10 ^ 30 := by decide
                                                                                     omega)
          have hsq0 : 0 ≤ fo / 10 ^ 15 * (fo / 10 ^ 15) := Int.mul_nonneg hr0 hr0
          have hsq1 : fo / 10 ^ 15 * (fo / 10 ^ 15) ≤ 10 ^ 30 := by
            have := Int.mul_le_mul (Int.le_of_lt hr1) (Int.le_of_lt hr1) hr0 (by decide)
            have e : (10 : Int) ^ 15 * 10 ^ 15 = 10 ^ 30 := by decide
            omega
          obtain ⟨ro, hro⟩ : ∃ ro, ro = fo / 10 ^ 15 := ⟨_, rfl⟩
          rw [← hro] at hr0 hr1 hsq0 hsq1
          refine ⟨_, rfl, 10, 15, rfl, rfl, pow15, fo, 10 ^ 15, rfl, rfl, wide_div (b := 60) (by decide) (by decide) (by decide) (by decide), ?_⟩
          have hro' : V.int (fo / 10 ^ 15) = V.int ro := by rw [hro]
          refine ⟨_, rfl, _, rfl, fo / 10 ^ 15, fo / 10 ^ 15, rfl, rfl, .inl ⟨?_, ?_⟩, _, rfl, a, w, c, _, 3, rfl, s3, by omega, by decide, small_draw (by decide) (by decide), fun H5 d hd0 hd1 k5 s5 => ?_⟩
          · rw [← hro]
            have e : (2 : Int) ^ 64 = 18446744073709551616 := by decide
            omega
          · rw [← hro]
            have e : (10 : Int) ^ 15 < 2 ^ 64 := by decide
            omega
          · refine ⟨_, _, rfl, rfl, _, _, rfl, rfl, _, _, rfl, ?_⟩
            rw [← hro]
            refine q H5 _ ?_ ?_ (k3.trans k5) (St.mono s5 (by omega))
            · split <;> omega
            · split <;> omega
        · exact ⟨_, rfl, q H' fo hf0 (by omega) k3 (St.mono s3 (by omega))⟩
end
end K3

set_option Elab.async false
set_option linter.all false
set_option maxRecDepth 100000
set_option maxHeartbeats 2000000
namespace K4
open PySem PySem.Spec PyProof.Rows L2 Cau Dr K1 K2 K3
theorem cau_here {X : Cx} {q : Str} {g CS : Addr} {cdg : Value} (hme : X.mg "RulerError" = some (.ref CS)) : LamX.GivesTo X cauN "_law_caught" (defScope sCaught) g cdg (defBody sCaught) "action" q (TCau X.K CS) :=
  cau_gives hme (by decide +kernel) rfl
theorem scCau : FnScope cauN ["action"] (defScope sCaught) := ⟨rfl, rfl, rfl, by decide +kernel, rfl, by decide +kernel, by decide +kernel⟩
def lawN : List Str := ["script", "state", "lows", "count", "least", "some", "n", "items", "odd", "worse", "turn"]
theorem scL : FnScope lawN ["script"] (defScope sLaw) := ⟨rfl, rfl, rfl, by decide +kernel, rfl, by decide +kernel, by decide +kernel⟩
def spLaw (K : PySem.W.Frag) (Pt : Addr) : Sp := fun vs H Q _ => ∃ (a : Addr) (ns : List Int), vs = [.ref a] ∧ SqL K H a (ns.map V.int) ∧ ns.length ≤ 63 ∧ H Pt = some (.tbl #[]) ∧ ∀ H', Q (.bl true) H'
section
variable {P : Program} {w : World} {K : PySem.W.Frag} {mg : Str → Option Value} {base : Heap}
theorem passN {X : Cx} : Passes (L2.CX X.prog X.w) X E0 := passes_call (W := fun _ _ _ _ => False) takes0 (fun _ _ _ _ h => h)
theorem St_upd {H : Hp} {a w c p : Addr} {T : Nat} {o : HO} (h : St H a w c T) (n : H p = none ∨ (p ≠ a ∧ p ≠ w ∧ p ≠ c)) : St (upd H p o) a w c T := by
  obtain ⟨h0, ws, cs, r, t, h1, h2, h3, h4⟩ := h
  have ne : ∀ b u, H b = some u → p ≠ a ∧ p ≠ w ∧ p ≠ c → b = a ∨ b = w ∨ b = c → upd H p o b = some u := fun b u e nn hb => by
    rw [upd_ne]
    · exact e
    · rintro rfl
      rcases hb with rfl | rfl | rfl
      · exact nn.1 rfl
      · exact nn.2.1 rfl
      · exact nn.2.2 rfl
  have nn : p ≠ a ∧ p ≠ w ∧ p ≠ c := by
    rcases n with n | n
    · exact ⟨(ne_of_none h1 n).symm, (ne_of_none h2 n).symm, (ne_of_none h3 n).symm⟩
    · exact n
  exact ⟨h0, ws, cs, r, t, ne _ _ h1 nn (.inl rfl), ne _ _ h2 nn (.inr (.inl rfl)), ne _ _ h3 nn (.inr (.inr rfl)), h4⟩
theorem St_nes {H : Hp} {a w c p : Addr} {T : Nat} (h : St H a w c T) (n : H p = none) : p ≠ a ∧ p ≠ w ∧ p ≠ c := by
  obtain ⟨h0, ws, cs, r, t, h1, h2, h3, h4⟩ := h
  exact ⟨(ne_of_none h1 n).symm, (ne_of_none h2 n).symm, (ne_of_none h3 n).symm⟩
/-- what is no count, in the law's words -/
def Odd (H : Hp) (x : V) : Prop := (∃ i, x = .int i ∧ i < 0) ∨ (∃ c, x = .bl c) ∨ x = .non ∨ (∃ z, x = .str z) ∨ (∃ p xs, x = .ref p ∧ (H p = some (.lst xs) ∨ H p = some (.tup xs))) ∨ (∃ p kvs, x = .ref p ∧ H p = some (.dK kvs))
theorem odd_ext {H H' : Hp} {x : V} (h : Odd H x) (k : LamX.ExtN H H') : Odd H' x := by
  rcases h with h | h | h | h | ⟨p, xs, e, h | h⟩ | ⟨p, kvs, e, h⟩
  · exact .inl h
  · exact .inr (.inl h)
  · exact .inr (.inr (.inl h))
  · exact .inr (.inr (.inr (.inl h)))
  · exact .inr (.inr (.inr (.inr (.inl ⟨p, xs, e, .inl (k _ _ h fun _ z => by cases z)⟩))))
  · exact .inr (.inr (.inr (.inr (.inl ⟨p, xs, e, .inr (k _ _ h fun _ z => by cases z)⟩))))
  · exact .inr (.inr (.inr (.inr (.inr ⟨p, kvs, e, k _ _ h fun _ z => by cases z⟩))))
theorem odd_not {K : PySem.W.Frag} {H : Hp} {x : V} (h : Odd H x) : NotCount K H x := by
  rcases h with h | ⟨c, rfl⟩ | rfl | ⟨z, rfl⟩ | ⟨p, xs, rfl, h | h⟩ | ⟨p, kvs, rfl, h⟩
  · exact .inl h
  · exact .inr (.inr (.inl ⟨c, rfl, rfl⟩))
  · exact .inr (.inr (.inr ⟨rfl, "NoneType", .base .non, by decide +kernel⟩))
  · exact .inr (.inr (.inr ⟨rfl, "str", .base (.str z), by decide +kernel⟩))
  · exact .inr (.inr (.inr ⟨rfl, "list", .base (.lst h), by decide +kernel⟩))
  · exact .inr (.inr (.inr ⟨rfl, "tuple", .base (.tup h), by decide +kernel⟩))
  · exact .inr (.inr (.inr ⟨rfl, "dict", .base (.dK h), by decide +kernel⟩))
/-- _law_caught(lambda: body) -/
theorem pe_cau {X : Cx} {fC CR c Pt : Addr} {k : Nat} {odC anC : Option Addr} {oslC : Array (Option Value)} {kVC docC pmC ctC ocC cdvC dVC : Value} {params : Arguments} {body : Expr} {scope : Scope} {p lpos pos : Pos} {t : XK → TE}
    (lkC : X.K.lookup fC = some ⟨ocC, odC, .func (PySem.W.fnOf "_law_caught" "_law_caught" (defArgs sCaught) (defBody sCaught) (defScope sCaught) dVC kVC docC pmC anC cdvC ctC), oslC⟩) (hcdC : PySem.W.codeIn X.K cdvC "_law_caught" = true) (kC : PySem.W.keepIn X.K (.ref fC) = true)
    (bC : Binds X.K (PySem.W.fnOf "_law_caught" "_law_caught" (defArgs sCaught) (defBody sCaught) (defScope sCaught) dVC kVC docC pmC anC cdvC ctC) ["action"] []) (gC : X.mg "_law_caught" = some (.ref fC)) (gRE : X.mg "RulerError" = some (.ref CR))
    (TB : LamX.TabB X.base X.mg c Pt) (hcode : X.env.code = .ref c) (hr : Room (k + 2) X.A) (hg : Gl X "_law_caught") (L : LamX.LamS X.env.scope scope) (hdef : defaultsOf params X.env = ([], []))
    (hbind : ∀ (q : Str) (cl : List (Str × Addr)) (pm cv ctv : Value), bindArgs (PySem.W.kla_fn "<lambda>" q params body scope cl pm cv ctv) ⟨[], []⟩ = pure [])
    (hbody : ∀ (A : Around) (outer : List Env) (s : Shared) (H : Hp) (E : XK) (f c' : Addr), Room k (A.deeper (LamX.lamEnv X scope s.heap.objs.size f c')) → PE (LamX.lamCx X A outer s H E scope f c') body (t E)) :
    PE X (.Call (.Name "_law_caught" p) [.Lambda params body scope lpos] [] pos) (LamX.tLam [(Pt, X.env.qual ++ "<lambda>")] (TCau X.K CR) t) :=
  LamX.pe_lamcall hg gC kC lkC hcdC bC scCau rfl (.inl rfl) (cau_here gRE) TB hcode (List.mem_singleton.mpr rfl) (fun q hq _ => by cases List.mem_singleton.mp hq; rfl) hr L hdef hbind hbody
theorem ok_law {f fB fL fDn fLe fS fF fP fC C CR c Pt : Addr} {fdB fdL fdDn fdLe fdS fdF fdP : FuncData}
    {od an odC anC : Option Addr} {osl oslC : Array (Option Value)} {kV doc pm ct oc kVC docC pmC ctC ocC cdvC dVC : Value}
    (lk : K.lookup f = some ⟨oc, od, .func (PySem.W.fnOf "law" "law" (defArgs sLaw) (defBody sLaw) (defScope sLaw) .none kV doc pm an (.ref c) ct), osl⟩) (hcd : PySem.W.codeIn K (.ref c) "law" = true)
    (TB : LamX.TabB base mg c Pt)
    (FB : Fun K "_law_begun" "_law_begun" sBegun fB fdB) (GB : FnOk P w K mg base CX0 1 fB fdB ["script"] (spBegun K)) (bB : Binds K fdB ["script"] []) (gB : mg "_law_begun" = some (.ref fB))
    (FL : Fun K "_law_lows" "_law_lows" sLows fL fdL) (GL : FnOk P w K mg base CX0 1 fL fdL [] spLows) (bL : Binds K fdL [] []) (gL : mg "_law_lows" = some (.ref fL))
    (FDn : Fun K "downsquares" "downsquares" sDown fDn fdDn) (GDn : FnOk P w K mg base (L2.CX P w) 2 fDn fdDn ["n"] (spDown K C)) (bDn : Binds K fdDn ["n"] []) (gDn : mg "downsquares" = some (.ref fDn)) (kDn : KBn K fdDn ["n"] 0 ["n"] (fun _ ws => ws) (fun _ zs => zs))
    (FLe : Fun K "least_with" "least_with" sLeast fLe fdLe) (GLe : FnOk P w K mg base (L2.CX P w) 2 fLe fdLe ["count"] (spLeast K C)) (gLe : mg "least_with" = some (.ref fLe)) (kLe : KBn K fdLe ["count"] 0 ["count"] (fun _ ws => ws) (fun _ zs => zs))
    (FS : Fun K "_law_some_whole" "_law_some_whole" sSome fS fdS) (GS : FnOk P w K mg base CX0 4 fS fdS ["state", "lows"] (spSome K)) (bS : Binds K fdS ["state", "lows"] []) (gS : mg "_law_some_whole" = some (.ref fS))
    (FF : Fun K "_law_falls" "_law_falls" sFalls fF fdF) (GF : FnOk P w K mg base CX0 2 fF fdF ["n", "items"] spFalls) (bF : Binds K fdF ["n", "items"] []) (gF : mg "_law_falls" = some (.ref fF))
    (FP : Fun K "_law_pick" "_law_pick" sPick fP fdP) (GP : FnOk P w K mg base CX0 3 fP fdP ["state", "some"] (spPick K)) (bP : Binds K fdP ["state", "some"] []) (gP : mg "_law_pick" = some (.ref fP))
    (lkC : K.lookup fC = some ⟨ocC, odC, .func (PySem.W.fnOf "_law_caught" "_law_caught" (defArgs sCaught) (defBody sCaught) (defScope sCaught) dVC kVC docC pmC anC cdvC ctC), oslC⟩) (hcdC : PySem.W.codeIn K cdvC "_law_caught" = true) (kC : PySem.W.keepIn K (.ref fC) = true)
    (bC : Binds K (PySem.W.fnOf "_law_caught" "_law_caught" (defArgs sCaught) (defBody sCaught) (defScope sCaught) dVC kVC docC pmC anC cdvC ctC) ["action"] []) (gC : mg "_law_caught" = some (.ref fC))
    (gRE : mg "RulerError" = some (.ref CR)) (gBC : mg "BadCount" = some (.ref C)) (exm : PySem.W.exmOne K (.ref C) (.ref CR) = some true) (kit : PySem.W.kitOne K (.ref C) (.ref C) = some true) (EC : ExcC K C)
    (me : mg "enumerate" = none) (mlen : mg "len" = none) (mli : mg "list" = none) (mr : mg "range" = none) (mmin : mg "min" = none) (mi : mg "isinstance" = none) :
    FnOk P w K mg base CX0 9 f (PySem.W.fnOf "law" "law" (defArgs sLaw) (defBody sLaw) (defScope sLaw) .none kV doc pm an (.ref c) ct) ["script"] (spLaw K Pt) := by
  refine fn_of lk hcd scL (fun vs H Q E h => ?_) (fun A outer s H vs Q E hr h => ?_)
  · obtain ⟨a, ns, rfl, _⟩ := h
    rfl
  · obtain ⟨a, ns, rfl, hS, hlen, hPt, q⟩ := h
    have hr1 : Room 1 _ := hr.mono (by decide)
    have hr2 : Room 2 _ := hr.mono (by decide)
    have hr3 : Room 3 _ := hr.mono (by decide)
    have hr4 : Room 4 _ := hr.mono (by decide)
    suffices hh : ∃ t, PSs (cxOf CX0 P w K mg base lawN "law" (defScope sLaw) f (.ref c) A outer s H E).nox (defBody sLaw) t ∧ t { nx := fun _ H' => Q .non H', rt := Q } (L2.start lawN [.ref a]) H by
      obtain ⟨t, h1, h2⟩ := hh
      exact ⟨t, h1.nox, h2⟩
    refine ⟨_, pss_cons (ps_asg (pe_tup (pa_cons (pe_call GB hr1 (by rfl) gB FB.kp bB .nil pass0 (pa_cons (pv 0) pa_nil)) (pa_cons (pe_call0 GL hr1 (by rfl) gL FL.kp bL .nil pass0) pa_nil)))
          (pg_tup (by rfl) (pgs_cons (pg_name (i := 1) scL.nd rfl (.inr rfl)) (pgs_cons (pg_name (i := 2) scL.nd rfl (.inr rfl)) pgs_nil))))
      (pss_cons (ps_for PassesOwn.never rfl (pi_enum (by rfl) me (pa_cons (pv 2) pa_nil)) (pg_tup (by rfl) (pgs_cons (pg_name (i := 3) scL.nd rfl (.inl rfl)) (pgs_cons (pg_name (i := 4) scL.nd rfl (.inl rfl)) pgs_nil)))
        (pss_one (ps_if (PW.pt (pw_or (pt_cmpR op_ne (pe_kw GLe hr2 (by rfl) gLe FLe.kp kLe passN (pk_cons (pv 3) pk_nil)) (pv 4) (nomark _))
            (pw_or1 (pt_cmpR op_ne (pe_callB call_len_seq (by rfl) mlen PySem.boot_len (pa_cons (pe_call GDn hr2 (by rfl) gDn FDn.kp bDn .nil passN (pa_cons (pv 4) pa_nil)) pa_nil)) (pv 3) (nomark _))))) (pss_one (ps_ret pe_bl)) pss_nil)))
      (pss_cons (ps_set (i := 5) scL.nd rfl (.inl rfl) (pe_op op_cat (pe_listRg rfl (by rfl) mli (prg_1 (by rfl) mr pe_int))
        (pe_lc (own := [("turn", 10)]) (g := gName 10) (tt := tYes) rfl scL.nd (pi_range1 rfl mr (pa_cons (pe_op op_add pe_int (pe_callB (call_min2 rfl) (by rfl) mmin (by decide +kernel) (pa_cons (pe_callB call_len_seq (by rfl) mlen PySem.boot_len (pa_cons (pv 0) pa_nil)) (pa_cons pe_int pa_nil)))) pa_nil))
          (blkOk_by (own := [("turn", 10)]) (N := lawN) (sc := defScope sLaw) (by decide +kernel)) (fun _ _ _ _ _ => pg_name (i := 10) scL.nd rfl (.inl rfl)) (fun _ _ _ _ _ => pts_nil)
          (fun _ _ _ _ _ => pe_call GS (hr4.mono (by decide)) (by rfl) gS FS.kp bS .nil pass0 (pa_cons (pv 1) (pa_cons (pv 2) pa_nil))))))
      (pss_cons (ps_for PassesOwn.never rfl (pi_list (pv 5)) (pg_name (i := 6) scL.nd rfl (.inr rfl))
        (pss_cons (ps_set (i := 7) scL.nd rfl (.inr rfl) (pe_kw GDn hr2 (by rfl) gDn FDn.kp kDn passN (pk_cons (pv 6) pk_nil)))
        (pss_cons (ps_if (pt_not (pt_val (pe_call GF hr2 (by rfl) gF FF.kp bF .nil pass0 (pa_cons (pv 6) (pa_cons (pv 7) pa_nil))))) (pss_one (ps_ret pe_bl)) pss_nil)
        (pss_one (ps_if (pt_cmpR (op_neD hr.units)
          (pe_lc (own := [("count", 3), ("least", 4)]) (g := gTup K 2 (gCons (gName 3) (gCons (gName 4) gNil))) rfl scL.nd (pi_enum (by rfl) me (pa_cons (pv 2) pa_nil))
            (blkOk_by (own := [("count", 3), ("least", 4)]) (N := lawN) (sc := defScope sLaw) (by decide +kernel))
            (fun _ _ _ _ _ => pg_tup (by rfl) (pgs_cons (pg_name (i := 3) scL.nd rfl (.inl rfl)) (pgs_cons (pg_name (i := 4) scL.nd rfl (.inl rfl)) pgs_nil)))
            (fun _ _ _ _ _ => pts_one (PW.pt (pw_and (pt_cmpR op_lt (pv 6) (pv 4) (nomark _)) (pw_and1 (pt_cmpR op_ge (pe_callB (show CallR _ (.builtin "len") (fun xs H Q => ∃ p ys, xs = [V.ref p] ∧ (SqL K H p ys ∨ SqT K H p ys) ∧ Q (V.int ys.length) H) from call_len_seq) (by rfl) mlen PySem.boot_len (pa_cons (pv 7) pa_nil)) (pv 3) (nomark _))))))
            (fun _ _ _ _ _ => pv 4)) (pe_lst pa_nil) (nomark _)) (pss_one (ps_ret pe_bl)) pss_nil)))))
      (pss_cons (ps_set (i := 8) scL.nd rfl (.inr rfl) (pe_call GP hr3 (by rfl) gP FP.kp bP .nil pass0 (pa_cons (pv 1) (pa_cons (pe_lst
        (pa_cons pe_non (pa_cons pe_bl (pa_cons pe_bl (pa_cons (pe_un un_neg pe_int) (pa_cons (pe_un un_neg pe_int) (pa_cons pe_str (pa_cons (pe_lst (pa_cons pe_int pa_nil)) (pa_cons (pe_tup (pa_cons pe_int pa_nil)) (pa_cons pe_dnewK (pa_cons (pe_lst pa_nil) (pa_cons (pe_tup pa_nil) (pa_cons pe_str pa_nil))))))))))))) pa_nil))))
      (pss_cons (ps_if (pt_not (pt_val (pe_callB (call_isErr EC) (by rfl) mi (by decide +kernel) (pa_cons
          (pe_cau lkC hcdC kC bC gC gRE TB rfl (hr.mono (by decide) : Room (2 + 2) _) (by rfl) (show LamX.LamS (defScope sLaw) _ from LamX.lamS_by (by decide +kernel)) rfl (fun _ _ _ _ _ => rfl)
            (fun A o s H E f c' hrl => pe_call GDn hrl (by rfl) gDn FDn.kp bDn .nil (passes_call (takes_of rfl rfl rfl rfl) (fun _ _ _ _ h => h)) (pa_cons (pv 8) pa_nil)))
          (pa_cons (pe_glob (v := .ref C) (by rfl) gBC rfl) pa_nil))))) (pss_one (ps_ret pe_bl)) pss_nil)
      (pss_cons (ps_for PassesOwn.never rfl (pi_list (pe_lst (pa_cons (pv 8) (pa_cons pe_int (pa_cons (pe_un un_neg pe_int) (pa_cons pe_non pa_nil)))))) (pg_name (i := 9) scL.nd rfl (.inr rfl))
        (pss_one (ps_if (pt_not (pt_val (pe_callB (call_isErr EC) (by rfl) mi (by decide +kernel) (pa_cons
          (pe_cau lkC hcdC kC bC gC gRE TB rfl (hr.mono (by decide) : Room (2 + 2) _) (by rfl) (show LamX.LamS (defScope sLaw) _ from LamX.lamS_by (by decide +kernel)) rfl (fun _ _ _ _ _ => rfl)
            (fun A o s H E f c' hrl => pe_kw GLe hrl (by rfl) gLe FLe.kp kLe (passes_call (takes_of rfl rfl rfl rfl) (fun _ _ _ _ h => h)) (pk_cons (pv 9) pk_nil)))
          (pa_cons (pe_glob (v := .ref C) (by rfl) gBC rfl) pa_nil))))) (pss_one (ps_ret pe_bl)) pss_nil)))
      (pss_one (ps_ret (pe_callB (call_isErr EC) (by rfl) mi (by decide +kernel) (pa_cons
          (pe_cau lkC hcdC kC bC gC gRE TB rfl (hr.mono (by decide) : Room (2 + 2) _) (by rfl) (show LamX.LamS (defScope sLaw) _ from LamX.lamS_by (by decide +kernel)) rfl (fun _ _ _ _ _ => rfl)
            (fun A o s H E f c' hrl => pe_kw GDn hrl (by rfl) gDn FDn.kp kDn (passes_call (takes_of rfl rfl rfl rfl) (fun _ _ _ _ h => h)) (pk_cons (pe_un un_neg pe_int) pk_nil)))
          (pa_cons (pe_glob (v := .ref C) (by rfl) gBC rfl) pa_nil))))))))))), ?_⟩
    -- state, lows
    refine ⟨_, rfl, a, ns, rfl, hS, hlen, fun H1 sa sw sc sm1 nsa nsw nsc nsaw nsac nswc st1 => ?_⟩
    refine ⟨rfl, fun H2 ll sm2 nll hll => ?_⟩
    refine ⟨by show 2 ≤ sizeLine; decide, fun tp ntp => ?_⟩
    refine ⟨tp, _, rfl, .inl (.inl upd_same), rfl, _, _, rfl, _, _, rfl, rfl, ?_⟩
    obtain ⟨H3, hH3⟩ : ∃ H3, H3 = upd H2 tp (.tup [.ref sa, .ref ll]) := ⟨_, rfl⟩
    have sm3 : Same H2 H3 := by rw [hH3]; exact same_upd ntp
    have L3 : H3 ll = some (.lst (lowsL.map V.int)) := sm3 _ _ hll
    have S3 : St H3 sa sw sc 0 := St.same (St.same st1 sm2) sm3
    have P3 : H3 Pt = some (.tbl #[]) := sm3 _ _ (sm2 _ _ (sm1 _ _ hPt))
    have hS3 : SqL K H3 a (ns.map V.int) := sm3.seq (sm2.seq (sm1.seq hS))
    have nlla : ll ≠ sa := by
      obtain ⟨_, ws, cs, r, t, h1, _⟩ := st1
      exact (ne_of_none h1 nll).symm
    have nllw : ll ≠ sw := by
      obtain ⟨_, ws, cs, r, t, _, h1, _⟩ := st1
      exact (ne_of_none h1 nll).symm
    rw [← hH3]
    clear hH3
    -- the least ones
    refine ⟨_, rfl, ll, lowsL.map V.int, rfl, .inl (.inl L3), for_it (walk_enum (K := K) (a := ll) (xs := lowsL.map V.int)) (fun i σ H' => ∃ y3 y4 : Option V, σ = [some (.ref a), some (.ref sa), some (.ref ll), y3, y4, none, none, none, none, none, none] ∧ Same H3 H')
      ⟨none, none, rfl, fun _ _ e => e⟩ ?_ ?_ ?_⟩
    · rintro i σ H' _ ⟨_, _, _, sm⟩
      exact sm.seq (.inl (.inl L3))
    · rintro i x σ H4 H5 hi ⟨y3, y4, rfl, sm⟩ ⟨T, x1, x2, rfl, nT, rfl, e1, e2⟩
      have e1 : V.int (i : Nat) = x1 := Option.some.inj e1
      subst e1
      obtain ⟨z, rfl, hz⟩ := ints_at e2
      have hi11 : i < 11 := hi
      have hz' : z = Sq.low i := Option.some.inj (hz.symm.trans (lowsL_at i hi11))
      subst hz'
      refine ⟨T, _, rfl, .inl (.inl upd_same), rfl, _, _, rfl, _, _, rfl, rfl, ?_⟩
      refine ⟨_, rfl, rfl, .inl ⟨i, rfl, by omega, fun H6 sm6 => ?_⟩⟩
      have small : 0 ≤ Sq.low i ∧ Sq.low i < 2 ^ 120 := by
        have all : ∀ i, i < 11 → 0 ≤ Sq.low i ∧ Sq.low i < 2 ^ 120 := by decide +kernel
        exact all i hi11
      refine ⟨_, rfl, rfl, _, rfl, iteNS rfl ?_⟩
      refine ⟨_, rfl, .inl ⟨Sq.low i, rfl, small.1, small.2, fun H7 p ds sm7 np hp hf hl => ?_⟩⟩
      refine ⟨p, _, rfl, .inl (.inl (.inl hp)), _, rfl, rfl, _, rfl, iteNS (by rw [List.length_map, Sq.low_len hi11 hf]) ?_⟩
      exact ⟨_, _, rfl, fun b o e => sm7 _ _ (sm6 _ _ (same_upd nT _ _ (sm _ _ e)))⟩
    · rintro σ H4 ⟨y3, y4, rfl, sm4⟩
      have L4 := sm4 _ _ L3
      have S4 : St H4 sa sw sc 0 := St.same S3 sm4
      have P4 := sm4 _ _ P3
      have hS4 : SqL K H4 a (ns.map V.int) := sm4.seq hS3
      clear sm4 P3 S3 hS3 L3 sm3 ntp hll st1 sm2 sm1 hPt hS
      -- some
      refine ⟨170, rfl, RgOk.of_le (by decide) (by decide) (by decide) (by decide), fun r1 nr1 => ?_⟩
      have sm5 : Same H4 (upd H4 r1 (.lst (rgV 0 170))) := same_upd nr1
      refine ⟨.ref a, rfl, a, _, rfl, .inl (sm5.seq hS4), _, _, rfl, 4, _, rfl, rfl, ?_⟩
      obtain ⟨m, hm, hm0, hm1⟩ : ∃ m : Int, (4 + if (20 : Int) < (((ns.map V.int).length : Nat) : Int) then 20 else (((ns.map V.int).length : Nat) : Int)) = m ∧ 4 ≤ m ∧ m ≤ 24 := by
        refine ⟨_, rfl, ?_, ?_⟩ <;> split <;> omega
      have hr1 := St_nes S4 nr1
      have S5 := St.same S4 sm5
      have L5 := sm5 _ _ L4
      have P5 := sm5 _ _ P4
      have R5 : (upd H4 r1 (.lst (rgV 0 170))) r1 = some (.lst (rgV 0 170)) := upd_same
      obtain ⟨H5, hH5⟩ : ∃ H5, H5 = upd H4 r1 (.lst (rgV 0 170)) := ⟨_, rfl⟩
      rw [← hH5] at S5 L5 P5 R5 ⊢
      clear hH5 sm5 S4 L4 P4 hS4
      refine ⟨_, rfl, by show (-4611686018427387904 : Int) ≤ _; rw [hm]; omega, by show _ < (4611686018427387904 : Int); rw [hm]; omega, fun D nD => ?_⟩
      rw [hm]
      obtain ⟨nDa, nDw, nDc⟩ := St_nes S5 nD
      refine lc_range (lo := 0) (n := m.toNat) (fun i H' => ∃ es : List Int, H' D = some (.lst (es.map V.int)) ∧ es.length = i ∧ (∀ e ∈ es, 0 ≤ e ∧ e < 2 ^ 120) ∧ Kept sa sw H5 H' ∧ St H' sa sw sc (20 * i)) ⟨[], upd_same, rfl, fun e h => absurd h List.not_mem_nil, Kept.of (same_upd nD), St_upd S5 (.inl nD)⟩ ?_ ?_
      · rintro i H6 hi ⟨es, hD, hel, hes, k6, s6⟩
        refine ⟨rfl, _, rfl, _, rfl, sa, sw, sc, ll, 20 * i, rfl, s6, by omega, .inl (.inl (k6 _ _ L5 nlla nllw)), nlla, nllw, fun H7 n h0 h1 k7 s7 => ⟨es.map V.int, k7 _ _ hD nDa nDw, ?_, es ++ [n], ?_, ?_, ?_, ?_, ?_⟩⟩
        · rw [List.length_map]; exact small1000 (by omega)
        · rw [upd_same, List.map_append]; rfl
        · rw [List.length_append, hel]; rfl
        · intro e he
          rcases List.mem_append.mp he with he | he
          · exact hes e he
          · cases List.mem_singleton.mp he
            exact ⟨h0, h1⟩
        · intro b o e n1 n2
          rw [upd_ne (ne_of_none e nD)]
          exact k7 _ _ (k6 b o e n1 n2) n1 n2
        · exact St_upd (St.mono s7 (by omega)) (.inr ⟨nDa, nDw, nDc⟩)
      · rintro H6 ⟨es, hD, hel, hes, k6, s6⟩
        have R6 := k6 _ _ R5 hr1.1 hr1.2.1
        have L6 := k6 _ _ L5 nlla nllw
        have P6 : H6 Pt = some (.tbl #[]) := by
          obtain ⟨_, ws, cs, r, t, h1, h2, _⟩ := S5
          exact k6 _ _ P5 (ne_of P5 h1 (by intro z; cases z)) (ne_of P5 h2 (by intro z; cases z))
        obtain ⟨rs, hrs, hrb⟩ : ∃ rs : List Int, rgV 0 170 = rs.map V.int ∧ ∀ e ∈ rs, 0 ≤ e ∧ e < 2 ^ 120 := by
          refine ⟨(List.range 170).map fun (i : Nat) => (0 + (i : Int)), ?_, fun e he => ?_⟩
          · unfold rgV
            rw [List.map_map]
            rfl
          · obtain ⟨i, hi, rfl⟩ := List.mem_map.mp he
            have := List.mem_range.mp hi
            exact ⟨by omega, by omega⟩
        have hel24 : es.length ≤ 24 := by omega
        have hrl : rs.length = 170 := by
          have h3 := congrArg List.length hrs
          rw [rgV_length, List.length_map] at h3
          have h170 : ((170 : Int) - 0).toNat = 170 := by decide
          omega
        rw [hrs] at R6
        refine ⟨r1, D, _, _, rfl, rfl, R6, hD, ?_, fun sp nsp => ?_⟩
        · rw [List.length_map, List.length_map]
          exact Nat.le_of_lt (small1000 (by omega))
        · obtain ⟨H8, hH8⟩ : ∃ H8, H8 = upd H6 sp (.lst (rs.map V.int ++ es.map V.int)) := ⟨_, rfl⟩
          have sm8 : Same H6 H8 := by rw [hH8]; exact same_upd nsp
          have L8 := sm8 _ _ L6
          have P8 := sm8 _ _ P6
          have S8 : St H8 sa sw sc 480 := St.mono (St.same s6 sm8) (by omega)
          have M8 : H8 sp = some (.lst ((rs ++ es).map V.int)) := by rw [hH8, upd_same, List.map_append]
          have bnd : ∀ e ∈ rs ++ es, 0 ≤ e ∧ e < 2 ^ 120 := fun e he => (List.mem_append.mp he).elim (hrb e) (hes e)
          rw [← hH8]
          clear hH8 sm8 k6 s6 L6 P6 R6 hD S5 P5 L5 R5
          refine ⟨_, rfl, sp, rfl, ⟨_, .inl (.inl M8)⟩, for_list (K := K) (a := sp) (xs := (rs ++ es).map V.int) (fun i σ H' => ∃ y6 y7 : Option V, σ = [some (.ref a), some (.ref sa), some (.ref ll), y3, y4, some (.ref sp), y6, y7, none, none, none] ∧ Same H8 H')
            ⟨none, none, rfl, fun _ _ e => e⟩ ?_ ?_ ?_⟩
          · rintro i σ H' _ ⟨_, _, _, sm⟩
            exact .inl (.inl (sm _ _ M8))
          · rintro i x σ H' hx ⟨y6, y7, rfl, sm⟩
            obtain ⟨n, rfl, hn⟩ := ints_at hx
            obtain ⟨n0, n1⟩ := bnd n (List.mem_of_getElem? hn)
            refine ⟨_, rfl, rfl, .inl ⟨n, rfl, n0, n1, fun H9 p ds sm9 np hp hf hl => ?_⟩⟩
            refine ⟨_, rfl, _, rfl, n, p, ds, rfl, hp, hf, n1, true, rfl, iteF ?_⟩
            have L9 := sm9 _ _ (sm _ _ L8)
            refine ⟨_, rfl, ll, lowsL.map V.int, rfl, .inl (.inl L9), fun D2 nD2 => ?_⟩
            refine lc_it (walk_enum (K := K) (a := ll) (xs := lowsL.map V.int)) (fun i H' => H' D2 = some (.lst []) ∧ Same H9 H') ⟨upd_same, same_upd nD2⟩ ?_ ?_ ?_
            · rintro j Hj _ ⟨_, sj⟩
              exact .inl (.inl (sj _ _ L9))
            · rintro j x Ha Hb hj ⟨hd, sj⟩ ⟨T, x1, x2, rfl, nT, rfl, e1, e2⟩
              have e1 : V.int (j : Nat) = x1 := Option.some.inj e1
              subst e1
              obtain ⟨z, rfl, hz⟩ := ints_at e2
              have hj11 : j < 11 := hj
              have hz' : z = Sq.low j := Option.some.inj (hz.symm.trans (lowsL_at j hj11))
              subst hz'
              refine ⟨T, _, rfl, .inl (.inl upd_same), rfl, _, _, rfl, _, _, rfl, rfl, rfl, ?_⟩
              have nTD : T ≠ D2 := (ne_of_none hd nT).symm
              have hend : (upd Ha T (.tup [V.int j, V.int (Sq.low j)])) D2 = some (.lst []) ∧ Same H9 (upd Ha T (.tup [V.int j, V.int (Sq.low j)])) := ⟨by rw [upd_ne nTD.symm]; exact hd, sj.trans (same_upd nT)⟩
              refine ⟨_, rfl, _, rfl, n, Sq.low j, rfl, rfl, _, rfl, ite2 (fun hlt => ?_) (fun _ => hend)⟩
              have hlt : n < Sq.low j := of_decide_eq_true hlt
              have hlen2 := Sq.fall_len ds n j hf hlt
              refine ⟨_, rfl, p, _, rfl, .inl (.inl (.inl (hend.2 _ _ hp))), _, rfl, _, _, rfl, rfl, _, rfl, ?_⟩
              rw [decide_eq_false (show ¬ ((j : Nat) : Int) ≤ (((ds.map V.int).length : Nat) : Int) by rw [List.length_map]; omega)]
              exact hend
            · rintro Hj ⟨hd, sj⟩
              refine ⟨Nat.zero_le _, fun l2 nl2 => ?_⟩
              refine ⟨_, _, dp_ints (ns := []) (.inl (.inl (same_upd nl2 _ _ hd))), dp_ints (ns := []) (.inl (.inl upd_same)), shaped_ints [], shaped_ints [], _, rfl, ?_⟩
              rw [eqv_ints [] []]
              exact iteF ⟨_, _, rfl, fun b o e => same_upd nl2 _ _ (sj _ _ (sm9 _ _ (sm _ _ e)))⟩
          · rintro σ H' ⟨y6, y7, rfl, sm⟩
            have L10 := sm _ _ L8
            have P10 := sm _ _ P8
            have S10 : St H' sa sw sc 480 := St.same S8 sm
            clear sm S8 P8 L8 M8 nsp
            refine ⟨_, rfl, 1, rfl, 4, rfl, Nat.succ_le_of_lt (by decide), fun p1 n1 => ?_⟩
            refine ⟨by show 1 ≤ sizeLine; decide, fun p2 n2 => ?_⟩
            intro p3 n3
            refine ⟨Nat.zero_le _, fun p4 n4 => ⟨Nat.zero_le _, fun p5 n5 => ⟨by show 12 ≤ sizeLine; decide, fun pl npl => ?_⟩⟩⟩
            obtain ⟨Ha, hHa⟩ : ∃ Ha, Ha = upd (upd (upd (upd (upd H' p1 (.lst [.int 4])) p2 (.tup [.int 4])) p3 (.dK [])) p4 (.lst [])) p5 (.tup []) := ⟨_, rfl⟩
            obtain ⟨xs, hxs⟩ : ∃ xs : List V, xs = [.non, .bl true, .bl false, .int (-1), .int (-4), .str "4", .ref p1, .ref p2, .ref p3, .ref p4, .ref p5, .str ""] := ⟨_, rfl⟩
            have s1 := same_upd (o := .lst [.int 4]) n1
            have s2 := same_upd (o := .tup [.int 4]) n2
            have s3 := same_upd (o := .dK []) n3
            have s4 := same_upd (o := .lst []) n4
            have s5 := same_upd (o := .tup []) n5
            have o5 : Ha p5 = some (.tup []) := by rw [hHa, upd_same]
            have o4 : Ha p4 = some (.lst []) := by rw [hHa]; exact s5 _ _ upd_same
            have o3 : Ha p3 = some (.dK []) := by rw [hHa]; exact s5 _ _ (s4 _ _ upd_same)
            have o2 : Ha p2 = some (.tup [.int 4]) := by rw [hHa]; exact s5 _ _ (s4 _ _ (s3 _ _ upd_same))
            have o1 : Ha p1 = some (.lst [.int 4]) := by rw [hHa]; exact s5 _ _ (s4 _ _ (s3 _ _ (s2 _ _ upd_same)))
            have sma : Same H' Ha := by rw [hHa]; exact s1.trans (s2.trans (s3.trans (s4.trans s5)))
            have npl : Ha pl = none := by rw [hHa]; exact npl
            have odd : ∀ Ha : Hp, Ha p1 = some (.lst [.int 4]) → Ha p2 = some (.tup [.int 4]) → Ha p3 = some (.dK []) → Ha p4 = some (.lst []) → Ha p5 = some (.tup []) → ∀ x ∈ xs, Odd Ha x := by
              rw [hxs]
              intro Ha o1 o2 o3 o4 o5 x hx
              simp only [List.mem_cons, List.not_mem_nil, or_false] at hx
              rcases hx with rfl | rfl | rfl | rfl | rfl | rfl | rfl | rfl | rfl | rfl | rfl | rfl
              · exact .inr (.inr (.inl rfl))
              · exact .inr (.inl ⟨_, rfl⟩)
              · exact .inr (.inl ⟨_, rfl⟩)
              · exact .inl ⟨_, rfl, by decide⟩
              · exact .inl ⟨_, rfl, by decide⟩
              · exact .inr (.inr (.inr (.inl ⟨_, rfl⟩)))
              · exact .inr (.inr (.inr (.inr (.inl ⟨_, _, rfl, .inl o1⟩))))
              · exact .inr (.inr (.inr (.inr (.inl ⟨_, _, rfl, .inr o2⟩))))
              · exact .inr (.inr (.inr (.inr (.inr ⟨_, _, rfl, o3⟩))))
              · exact .inr (.inr (.inr (.inr (.inl ⟨_, _, rfl, .inl o4⟩))))
              · exact .inr (.inr (.inr (.inr (.inl ⟨_, _, rfl, .inr o5⟩))))
              · exact .inr (.inr (.inr (.inl ⟨_, rfl⟩)))
            have m1 := St_nes S10 n1
            have m2 := St_nes (St.same S10 s1) n2
            have m3 := St_nes (St.same S10 (s1.trans s2)) n3
            have m4 := St_nes (St.same S10 (s1.trans (s2.trans s3))) n4
            have m5 := St_nes (St.same S10 (s1.trans (s2.trans (s3.trans s4)))) n5
            have Sa := St.same S10 sma
            have smb : Same Ha (upd Ha pl (.lst xs)) := same_upd npl
            have nplS := St_nes Sa npl
            have nPt : Pt ≠ sa ∧ Pt ≠ sw := by
              obtain ⟨_, ws, cs, r, t, h1, h2, _⟩ := S10
              exact ⟨ne_of P10 h1 (by intro z; cases z), ne_of P10 h2 (by intro z; cases z)⟩
            have key : ∀ {Q' : VK} {E' : XK}, (∀ (Hc : Hp) (x : V), Odd Hc x → Hc Pt = some (.tbl #[]) → Q' x Hc) → spPick K [.ref sa, .ref pl] (upd Ha pl (.lst xs)) Q' E' := fun {Q' E'} hq => by
              refine ⟨sa, sw, sc, pl, 480, xs, rfl, St.same Sa smb, by decide, .inl (.inl upd_same), nplS.1, nplS.2.1, by rw [hxs]; simp, by rw [hxs]; simp, fun Hc x hx kc _ => hq Hc x ?_ ?_⟩
              · exact odd Hc (kc _ _ (smb _ _ o1) m1.1 m1.2.1) (kc _ _ (smb _ _ o2) m2.1 m2.2.1) (kc _ _ (smb _ _ o3) m3.1 m3.2.1) (kc _ _ (smb _ _ o4) m4.1 m4.2.1) (kc _ _ (smb _ _ o5) m5.1 m5.2.1) x hx
              · exact kc _ _ (smb _ _ (sma _ _ P10)) nPt.1 nPt.2
            rw [hHa, hxs] at key
            refine key (E' := L2.E0) fun Hc x ox Pc => ?_
            clear key smb Sa odd npl sma o1 o2 o3 o4 o5 m1 m2 m3 m4 m5 s1 s2 s3 s4 s5 n1 n2 n3 n4 n5
            have tabs : LamX.Tabs [(Pt, (cxOf CX0 P w K mg base lawN "law" (defScope sLaw) f (.ref c) A outer s H E).nox.env.qual ++ "<lambda>")] Hc := fun p hp => by
              cases List.mem_singleton.mp hp
              exact LamX.TabS.nil Pc
            refine ⟨tabs, fun Hd ext tabd => ⟨_, rfl, .inr ⟨x, rfl, odd_not (odd_ext ox ext), exm, fun e1 ne1 => ?_⟩⟩⟩
            refine ⟨e1, .ref C, .ref C, true, rfl, upd_same, fun u r => r, kit, true, rfl, iteF ?_⟩
            obtain ⟨Hf, hHf⟩ : ∃ Hf, Hf = upd Hd e1 (ErrO (.ref C) none e1) := ⟨_, rfl⟩
            have oxf : Odd Hf x := by rw [hHf]; exact odd_ext (odd_ext ox ext) (.of (same_upd ne1))
            have tabf := by have t := tabd.ext (same_upd (o := ErrO (.ref C) none e1) ne1); rw [← hHf] at t; exact t
            rw [← hHf]
            clear hHf tabd ext tabs ox Pc
            refine ⟨_, rfl, 1, rfl, by show 4 ≤ sizeLine; decide, fun wl nwl => ?_⟩
            obtain ⟨Hg, hHg⟩ : ∃ Hg, Hg = upd Hf wl (.lst [x, .int 11, .int (-1), .non]) := ⟨_, rfl⟩
            have W0 : Hg wl = some (.lst [x, .int 11, .int (-1), .non]) := by rw [hHg, upd_same]
            have oxg : Odd Hg x := by rw [hHg]; exact odd_ext oxf (.of (same_upd nwl))
            have tabg := by have t := tabf.ext (same_upd (o := .lst [x, .int 11, .int (-1), .non]) nwl); rw [← hHg] at t; exact t
            have hHg' : upd Hf wl (.lst [x, .int 11, .int (-1), .non]) = Hg := hHg.symm
            refine ⟨wl, rfl, ⟨[x, .int 11, .int (-1), .non], .inl (.inl upd_same)⟩, for_list (K := K) (a := wl) (xs := [x, .int 11, .int (-1), .non]) (fun i σ H' => ∃ y9 : Option V, σ = [some (.ref a), some (.ref sa), some (.ref ll), y3, y4, some (.ref sp), y6, y7, some x, y9, none] ∧ LamX.ExtN Hg H' ∧ LamX.Tabs _ H')
              ⟨none, rfl, by rw [hHg]; exact .refl _, by have t := tabg; rw [hHg] at t; exact t⟩ ?_ ?_ ?_⟩
            · rintro i σ H' _ ⟨_, _, ex, _⟩
              exact .inl (.inl (ex _ _ W0 fun _ z => by cases z))
            · rintro i y σ H' hx ⟨y9, rfl, ex, tb⟩
              have hy : ∀ H2, LamX.ExtN H' H2 → ((∃ i, y = .int i ∧ (i < 0 ∨ 10 < i)) ∨ Kd K H2 y false) := fun H2 e2 => by
                have hm := List.mem_of_getElem? hx
                simp only [List.mem_cons, List.not_mem_nil, or_false] at hm
                rcases hm with rfl | rfl | rfl | rfl
                · rcases odd_not (K := K) (odd_ext (odd_ext oxg ex) e2) with ⟨i, e, hi⟩ | h
                  · exact .inl ⟨i, e, .inl hi⟩
                  · exact .inr h
                · exact .inl ⟨11, rfl, .inr (by decide)⟩
                · exact .inl ⟨-1, rfl, .inl (by decide)⟩
                · exact .inr (.inr (.inr ⟨rfl, "NoneType", .base .non, by decide +kernel⟩))
              refine ⟨tb, fun H2 e2 t2 => ⟨_, rfl, rfl, .inr ⟨y, rfl, hy H2 e2, exm, fun e3 ne3 => ?_⟩⟩⟩
              refine ⟨e3, .ref C, .ref C, true, rfl, upd_same, fun u r => r, kit, true, rfl, iteF ?_⟩
              exact ⟨_, rfl, ex.trans (e2.trans (.of (same_upd ne3))), t2.ext (same_upd ne3)⟩
            · rintro σ H' ⟨y9, rfl, ex, tb⟩
              refine ⟨tb, fun H2 e2 t2 => ⟨1, rfl, rfl, .inr ⟨.int (-1), rfl, .inl ⟨-1, rfl, by decide⟩, exm, fun e3 ne3 => ?_⟩⟩⟩
              exact ⟨e3, .ref C, .ref C, true, rfl, upd_same, fun u r => r, kit, q _⟩
end
end K4

set_option Elab.async false
set_option linter.all false
set_option maxRecDepth 100000
set_option maxHeartbeats 2000000
namespace K5
open PySem PySem.Spec PyProof.Rows L2 Cau Dr K1 K2 K3 K4
section
variable {P : Program} {w : World} {K : PySem.W.Frag} {mg : Str → Option Value} {base : Heap}
theorem scLe : FnScope ["count", "n", "_", "half"] ["count"] (defScope sLeast) := ⟨rfl, rfl, rfl, by decide +kernel, rfl, by decide +kernel, by decide +kernel⟩
theorem low_next (c : Nat) : Sq.low (c + 4) = Sq.low (c + 3) + (Sq.low (c + 3) + 1) / 2 * ((Sq.low (c + 3) + 1) / 2) := rfl
theorem ok_least {f fW C : Addr} {fd fdW : FuncData} {t1 : Tok} (F : Fun K "least_with" "least_with" sLeast f fd) (FW : Fun K "is_whole" "is_whole" sWhole fW fdW) (GW : FnOk P w K mg base CX0 1 fW fdW ["value"] (spWhole K)) (bW : Binds K fdW ["value"] [])
    (gW : mg "is_whole" = some (.ref fW)) (T : TxtE K mg C) (gM : mg "MOST_ITEMS" = some (.int 10 t1)) (mr : mg "range" = none) : FnOk P w K mg base (L2.CX P w) 2 f fd ["count"] (spLeast K C) := by
  refine F.okX scLe (fun vs H Q E h => ?_) (fun cdv A outer s H vs Q E hr h => ?_)
  · rcases h with ⟨n, rfl, _⟩ | ⟨x, rfl, _⟩ <;> rfl
  · refine ⟨_, pss_cons (ps_if (PW.pt (pw_or (pt_not (pt_val (pe_call GW hr (by rfl) gW FW.kp bW .nil pass0 (pa_cons (pv 0) pa_nil)))) (pw_or1 (pt_not (pt_chain op_le op_le pe_int (pv 0) (pe_glob (v := .int 10) (by rfl) gM ⟨_, rfl⟩))))))
        (pss_one (ps_raise rfl (takes_of rfl rfl rfl rfl) (pmk_own PySem.F.excBase_ValueError T.x T.g T.k (raises_own T.b T.t) rfl))) pss_nil)
      (pss_cons (ps_if (pt_cmpR op_le (pv 0) pe_int (nomark _)) (pss_one (ps_ret (pv 0))) pss_nil)
      (pss_cons (ps_set (i := 1) scLe.nd rfl (.inl rfl) pe_int)
      (pss_cons (ps_for (passes_of rfl) rfl (pi_range1 rfl mr (pa_cons (pe_op op_sub (pv 0) pe_int) pa_nil)) (pg_name (i := 2) scLe.nd rfl (.inl rfl))
        (pss_cons (ps_set (i := 3) scLe.nd rfl (.inl rfl) (pe_op op_fdiv (pe_op op_add (pv 1) pe_int) pe_int))
        (pss_one (ps_set (i := 1) scLe.nd rfl (.inl rfl) (pe_op op_add (pv 1) (pe_op op_mul (pv 3) (pv 3)))))))
      (pss_one (ps_ret (pv 1)))))), ?_⟩
    rcases h with ⟨c, rfl, hc, q⟩ | ⟨x, rfl, hx, q⟩
    · refine ⟨_, rfl, .int c, true, rfl, .inl ⟨_, rfl, rfl⟩, true, rfl, iteF ?_⟩
      refine ⟨_, rfl, _, _, rfl, rfl, _, rfl, ite2 (fun _ => ?_) (fun z => absurd (decide_eq_true (show (0 : Int) ≤ (c : Nat) by omega)) z)⟩
      refine ⟨_, _, rfl, rfl, _, rfl, ?_⟩
      rw [decide_eq_true (show ((c : Nat) : Int) ≤ 10 by omega)]
      refine iteF ?_
      refine ⟨_, rfl, _, _, rfl, rfl, _, rfl, ite2 (fun h3 => ?_) (fun h3 => ?_)⟩
      · have h3 : ((c : Nat) : Int) ≤ 3 := of_decide_eq_true h3
        have e : Sq.low c = (c : Int) := by
          match c, h3 with
          | 0, _ => rfl
          | 1, _ => rfl
          | 2, _ => rfl
          | 3, _ => rfl
          | n + 4, h3 => omega
        refine ⟨_, rfl, ?_⟩
        rw [← e]
        exact q H fun _ _ z => z
      · have h3 : ¬ ((c : Nat) : Int) ≤ 3 := fun z => h3 (decide_eq_true z)
        refine ⟨_, rfl, _, _, rfl, rfl, _, rfl, ?_, ?_, for_range (lo := 0) (n := ((c : Int) - 3).toNat) (fun i σ H' => ∃ y2 y3 : Option V, σ = [some (.int c), some (.int (Sq.low (i + 3))), y2, y3] ∧ H = H') ⟨none, none, rfl, rfl⟩ ?_ ?_⟩
        · show (-4611686018427387904 : Int) ≤ _
          omega
        · show _ < (4611686018427387904 : Int)
          omega
        · rintro i σ H' hi ⟨y2, y3, rfl, rfl⟩
          have hi7 : i < 7 := by omega
          have hb : 0 ≤ (Sq.low (i + 3) + 1) / 2 ∧ (Sq.low (i + 3) + 1) / 2 < 2 ^ 60 := by
            have all : ∀ i, i < 7 → 0 ≤ (Sq.low (i + 3) + 1) / 2 ∧ (Sq.low (i + 3) + 1) / 2 < 2 ^ 60 := by decide +kernel
            exact all i hi7
          refine ⟨_, rfl, _, 1, rfl, rfl, _, 2, rfl, rfl, ⟨by decide, by decide⟩, _, rfl, _, rfl, _, rfl, (Sq.low (i + 3) + 1) / 2, (Sq.low (i + 3) + 1) / 2, rfl, rfl, .inl ⟨by omega, by omega⟩, _, _, rfl, rfl, _, _, rfl, rfl⟩
        · rintro σ H' ⟨y2, y3, rfl, rfl⟩
          have e : ((c : Int) - 3).toNat + 3 = c := by omega
          rw [e]
          exact ⟨_, rfl, q H fun _ _ z => z⟩
    · rcases hx with ⟨i, rfl, hi⟩ | hk
      · refine ⟨_, rfl, .int i, true, rfl, .inl ⟨i, rfl, rfl⟩, true, rfl, iteF ?_⟩
        refine ⟨_, rfl, _, _, rfl, rfl, _, rfl, ite2 (fun h0 => ?_) (fun h0 => ?_)⟩
        · have h0 : (0 : Int) ≤ i := of_decide_eq_true h0
          refine ⟨_, _, rfl, rfl, _, rfl, ?_⟩
          rw [decide_eq_false (show ¬ i ≤ 10 by omega)]
          exact iteT q
        · exact ⟨_, rfl, iteT q⟩
      · exact ⟨_, rfl, x, false, rfl, hk, false, rfl, iteT (iteT q)⟩
end
end K5

set_option Elab.async false
set_option linter.all false
set_option maxRecDepth 100000
set_option maxHeartbeats 2000000
namespace K6
open PySem PySem.Spec PyProof.Rows L2 Cau Dr K1 K2 K3 K4 K5
/-! ### what the top has written, and the law's own head -/
theorem all_mk {l : PySem.W.OpenLaw} {w : World} {K : PySem.W.Frag} {h : Heap} {mg : Str → Option Value} {fa : Addr} (X : K.In h) (G : h.Ns mainGlobals mg) (hfa : mg "law" = some (.ref fa))
    (own : ∀ x ∈ (["law"] : List Str), ∀ c P : Addr, PySem.W.tabIn K x = some (c, P) → PySem.W.CodeHd h c P ∧ h.get? P = some { cls := .none, data := .fields #[] })
    {f0 : Addr} {od0 an0 : Option Addr} {sl0 : Array (Option Value)} {oc0 kV0 dc0 pm0 ct0 cd0 : Value}
    {f1 : Addr} {od1 an1 : Option Addr} {sl1 : Array (Option Value)} {oc1 kV1 dc1 pm1 ct1 cd1 : Value}
    {f2 : Addr} {od2 an2 : Option Addr} {sl2 : Array (Option Value)} {oc2 kV2 dc2 pm2 ct2 cd2 : Value}
    {f3 : Addr} {od3 an3 : Option Addr} {sl3 : Array (Option Value)} {oc3 kV3 dc3 pm3 ct3 cd3 : Value}
    {f4 : Addr} {od4 an4 : Option Addr} {sl4 : Array (Option Value)} {oc4 kV4 dc4 pm4 ct4 cd4 : Value}
    {f5 : Addr} {od5 an5 : Option Addr} {sl5 : Array (Option Value)} {oc5 kV5 dc5 pm5 ct5 cd5 : Value}
    {f6 : Addr} {od6 an6 : Option Addr} {sl6 : Array (Option Value)} {oc6 kV6 dc6 pm6 ct6 cd6 : Value}
    {f7 : Addr} {od7 an7 : Option Addr} {sl7 : Array (Option Value)} {oc7 kV7 dc7 pm7 ct7 cd7 : Value}
    {f8 : Addr} {od8 an8 : Option Addr} {sl8 : Array (Option Value)} {oc8 kV8 dc8 pm8 ct8 cd8 : Value}
    {f9 : Addr} {od9 an9 : Option Addr} {sl9 : Array (Option Value)} {oc9 kV9 dc9 pm9 ct9 cd9 : Value}
    {f10 : Addr} {od10 an10 : Option Addr} {sl10 : Array (Option Value)} {oc10 kV10 dc10 pm10 ct10 cd10 : Value}
    {f11 : Addr} {od11 an11 : Option Addr} {sl11 : Array (Option Value)} {oc11 kV11 dc11 pm11 ct11 cd11 : Value}
    {f12 : Addr} {od12 an12 : Option Addr} {sl12 : Array (Option Value)} {oc12 kV12 dc12 pm12 ct12 : Value}
    {cO12 Pt12 : Addr} {co12 : Value} {cdd12 : Option Addr} {cvs12 : Array Value} {csl12 : Array (Option Value)}
    {C : Addr}
    {CR : Addr}
    {t1 : Tok}
    (a0 : PySem.W.nsIn K mainGlobals "is_whole" = some (some (.ref f0)))
    (l0 : K.lookup f0 = some ⟨oc0, od0, .func (PySem.W.fnOf "is_whole" "is_whole" (defArgs sWhole) (defBody sWhole) (defScope sWhole) .none kV0 dc0 pm0 an0 cd0 ct0), sl0⟩)
    (c0 : PySem.W.codeIn K cd0 "is_whole" = true)
    (k0 : PySem.W.keepIn K (.ref f0) = true)
    (a1 : PySem.W.nsIn K mainGlobals "downsquares" = some (some (.ref f1)))
    (l1 : K.lookup f1 = some ⟨oc1, od1, .func (PySem.W.fnOf "downsquares" "downsquares" (defArgs sDown) (defBody sDown) (defScope sDown) .none kV1 dc1 pm1 an1 cd1 ct1), sl1⟩)
    (c1 : PySem.W.codeIn K cd1 "downsquares" = true)
    (k1 : PySem.W.keepIn K (.ref f1) = true)
    (a2 : PySem.W.nsIn K mainGlobals "least_with" = some (some (.ref f2)))
    (l2 : K.lookup f2 = some ⟨oc2, od2, .func (PySem.W.fnOf "least_with" "least_with" (defArgs sLeast) (defBody sLeast) (defScope sLeast) .none kV2 dc2 pm2 an2 cd2 ct2), sl2⟩)
    (c2 : PySem.W.codeIn K cd2 "least_with" = true)
    (k2 : PySem.W.keepIn K (.ref f2) = true)
    (a3 : PySem.W.nsIn K mainGlobals "_law_begun" = some (some (.ref f3)))
    (l3 : K.lookup f3 = some ⟨oc3, od3, .func (PySem.W.fnOf "_law_begun" "_law_begun" (defArgs sBegun) (defBody sBegun) (defScope sBegun) .none kV3 dc3 pm3 an3 cd3 ct3), sl3⟩)
    (c3 : PySem.W.codeIn K cd3 "_law_begun" = true)
    (k3 : PySem.W.keepIn K (.ref f3) = true)
    (a4 : PySem.W.nsIn K mainGlobals "_law_stirred" = some (some (.ref f4)))
    (l4 : K.lookup f4 = some ⟨oc4, od4, .func (PySem.W.fnOf "_law_stirred" "_law_stirred" (defArgs sStirred) (defBody sStirred) (defScope sStirred) .none kV4 dc4 pm4 an4 cd4 ct4), sl4⟩)
    (c4 : PySem.W.codeIn K cd4 "_law_stirred" = true)
    (k4 : PySem.W.keepIn K (.ref f4) = true)
    (a5 : PySem.W.nsIn K mainGlobals "_law_draw" = some (some (.ref f5)))
    (l5 : K.lookup f5 = some ⟨oc5, od5, .func (PySem.W.fnOf "_law_draw" "_law_draw" (defArgs sDraw) (defBody sDraw) (defScope sDraw) .none kV5 dc5 pm5 an5 cd5 ct5), sl5⟩)
    (c5 : PySem.W.codeIn K cd5 "_law_draw" = true)
    (k5 : PySem.W.keepIn K (.ref f5) = true)
    (a6 : PySem.W.nsIn K mainGlobals "_law_pick" = some (some (.ref f6)))
    (l6 : K.lookup f6 = some ⟨oc6, od6, .func (PySem.W.fnOf "_law_pick" "_law_pick" (defArgs sPick) (defBody sPick) (defScope sPick) .none kV6 dc6 pm6 an6 cd6 ct6), sl6⟩)
    (c6 : PySem.W.codeIn K cd6 "_law_pick" = true)
    (k6 : PySem.W.keepIn K (.ref f6) = true)
    (a7 : PySem.W.nsIn K mainGlobals "_law_caught" = some (some (.ref f7)))
    (l7 : K.lookup f7 = some ⟨oc7, od7, .func (PySem.W.fnOf "_law_caught" "_law_caught" (defArgs sCaught) (defBody sCaught) (defScope sCaught) .none kV7 dc7 pm7 an7 cd7 ct7), sl7⟩)
    (c7 : PySem.W.codeIn K cd7 "_law_caught" = true)
    (k7 : PySem.W.keepIn K (.ref f7) = true)
    (a8 : PySem.W.nsIn K mainGlobals "_law_is_whole" = some (some (.ref f8)))
    (l8 : K.lookup f8 = some ⟨oc8, od8, .func (PySem.W.fnOf "_law_is_whole" "_law_is_whole" (defArgs sLWhole) (defBody sLWhole) (defScope sLWhole) .none kV8 dc8 pm8 an8 cd8 ct8), sl8⟩)
    (c8 : PySem.W.codeIn K cd8 "_law_is_whole" = true)
    (k8 : PySem.W.keepIn K (.ref f8) = true)
    (a9 : PySem.W.nsIn K mainGlobals "_law_falls" = some (some (.ref f9)))
    (l9 : K.lookup f9 = some ⟨oc9, od9, .func (PySem.W.fnOf "_law_falls" "_law_falls" (defArgs sFalls) (defBody sFalls) (defScope sFalls) .none kV9 dc9 pm9 an9 cd9 ct9), sl9⟩)
    (c9 : PySem.W.codeIn K cd9 "_law_falls" = true)
    (k9 : PySem.W.keepIn K (.ref f9) = true)
    (a10 : PySem.W.nsIn K mainGlobals "_law_lows" = some (some (.ref f10)))
    (l10 : K.lookup f10 = some ⟨oc10, od10, .func (PySem.W.fnOf "_law_lows" "_law_lows" (defArgs sLows) (defBody sLows) (defScope sLows) .none kV10 dc10 pm10 an10 cd10 ct10), sl10⟩)
    (c10 : PySem.W.codeIn K cd10 "_law_lows" = true)
    (k10 : PySem.W.keepIn K (.ref f10) = true)
    (a11 : PySem.W.nsIn K mainGlobals "_law_some_whole" = some (some (.ref f11)))
    (l11 : K.lookup f11 = some ⟨oc11, od11, .func (PySem.W.fnOf "_law_some_whole" "_law_some_whole" (defArgs sSome) (defBody sSome) (defScope sSome) .none kV11 dc11 pm11 an11 cd11 ct11), sl11⟩)
    (c11 : PySem.W.codeIn K cd11 "_law_some_whole" = true)
    (k11 : PySem.W.keepIn K (.ref f11) = true)
    (a12 : PySem.W.nsIn K mainGlobals "law" = some (some (.ref f12)))
    (l12 : K.lookup f12 = some ⟨oc12, od12, .func (PySem.W.fnOf "law" "law" (defArgs sLaw) (defBody sLaw) (defScope sLaw) .none kV12 dc12 pm12 an12 (.ref cO12) ct12), sl12⟩)
    (c12 : PySem.W.codeIn K (.ref cO12) "law" = true)
    (k12 : PySem.W.keepIn K (.ref f12) = true)
    (co12 : K.lookup cO12 = some ⟨co12, cdd12, .fields cvs12, csl12⟩)
    (cp12 : cvs12[11]? = some (.ref Pt12))
    (cn12 : K.lookup Pt12 = none)
    (gC : PySem.W.nsIn K mainGlobals "BadCount" = some (some (.ref C)))
    (eC : PySem.W.excIn K C [.type "ValueError", .type "Exception", .type "BaseException", .type "object"] "ValueError.__new__" = true)
    (kpC : PySem.W.keepIn K (.ref C) = true)
    (sbC : PySem.W.subIn K (.ref C) (.type "BaseException") = some true)
    (tyC : PySem.W.typeIn K (.ref C) = some (.type "type"))
    (gaC : PySem.W.findIn K (.ref C) "__getattribute__" = some (some (.builtin "BaseException.__getattribute__")))
    (gtC : PySem.W.findIn K (.ref C) "__getattr__" = some none)
    (hdC : PySem.W.hasDictIn K C = true)
    (clC : PySem.W.findIn K (.ref C) "__class__" = some (some (.builtin "object.__class__")))
    (mrC : PySem.W.mroIn K C (.type "object") = some true)
    (gCR : PySem.W.nsIn K mainGlobals "RulerError" = some (some (.ref CR)))
    (eCR : PySem.W.excIn K CR [.type "ValueError", .type "Exception", .type "BaseException", .type "object"] "ValueError.__new__" = true)
    (kpCR : PySem.W.keepIn K (.ref CR) = true)
    (sbCR : PySem.W.subIn K (.ref CR) (.type "BaseException") = some true)
    (tyCR : PySem.W.typeIn K (.ref CR) = some (.type "type"))
    (gaCR : PySem.W.findIn K (.ref CR) "__getattribute__" = some (some (.builtin "BaseException.__getattribute__")))
    (gtCR : PySem.W.findIn K (.ref CR) "__getattr__" = some none)
    (hdCR : PySem.W.hasDictIn K CR = true)
    (clCR : PySem.W.findIn K (.ref CR) "__class__" = some (some (.builtin "object.__class__")))
    (mrCR : PySem.W.mroIn K CR (.type "object") = some true)
    (sn : PySem.W.specialIn K (.builtin "object.__class__") "__get__" = some (some (.builtin "getset_descriptor.__get__")))
    (tk : PySem.W.takesIn K (.builtin "object.__class__") = some true)
    (sCR : PySem.W.subIn K (.ref C) (.ref CR) = some true)
    (n_t1 : PySem.W.nsIn K mainGlobals "MOST_ITEMS" = some (some (.int 10 t1)))
    (b_isqrt : PySem.W.nsIn K mainGlobals "isqrt" = some (some (.builtin "math.isqrt")))
    (z_isinstance : PySem.W.nsIn K mainGlobals "isinstance" = some none)
    (z_int : PySem.W.nsIn K mainGlobals "int" = some none)
    (z_bool : PySem.W.nsIn K mainGlobals "bool" = some none)
    (z_range : PySem.W.nsIn K mainGlobals "range" = some none)
    (z_abs : PySem.W.nsIn K mainGlobals "abs" = some none)
    (z_len : PySem.W.nsIn K mainGlobals "len" = some none)
    (z_max : PySem.W.nsIn K mainGlobals "max" = some none)
    (z_list : PySem.W.nsIn K mainGlobals "list" = some none)
    (z_enumerate : PySem.W.nsIn K mainGlobals "enumerate" = some none)
    (z_min : PySem.W.nsIn K mainGlobals "min" = some none)
    : LamX.LawAtS l w K L2.CX0 9 63 "script" mg fa h := by
  have e := hfa.symm.trans (PySem.W.mg_of X G a12)
  cases e
  have F0 := fun_mk (st := sWhole) l0 c0 k0
  have b0 := F0.binds (ps := ["value"]) fun _ _ _ _ _ _ us hl => match us, hl with | [_], _ => rfl
  have F1 := fun_mk (st := sDown) l1 c1 k1
  have b1 := F1.binds (ps := ["n"]) fun _ _ _ _ _ _ us hl => match us, hl with | [_], _ => rfl
  have F2 := fun_mk (st := sLeast) l2 c2 k2
  have b2 := F2.binds (ps := ["count"]) fun _ _ _ _ _ _ us hl => match us, hl with | [_], _ => rfl
  have F3 := fun_mk (st := sBegun) l3 c3 k3
  have b3 := F3.binds (ps := ["script"]) fun _ _ _ _ _ _ us hl => match us, hl with | [_], _ => rfl
  have F4 := fun_mk (st := sStirred) l4 c4 k4
  have b4 := F4.binds (ps := ["state"]) fun _ _ _ _ _ _ us hl => match us, hl with | [_], _ => rfl
  have F5 := fun_mk (st := sDraw) l5 c5 k5
  have b5 := F5.binds (ps := ["state", "size"]) fun _ _ _ _ _ _ us hl => match us, hl with | [_, _], _ => rfl
  have F6 := fun_mk (st := sPick) l6 c6 k6
  have b6 := F6.binds (ps := ["state", "some"]) fun _ _ _ _ _ _ us hl => match us, hl with | [_, _], _ => rfl
  have F7 := fun_mk (st := sCaught) l7 c7 k7
  have b7 := F7.binds (ps := ["action"]) fun _ _ _ _ _ _ us hl => match us, hl with | [_], _ => rfl
  have F8 := fun_mk (st := sLWhole) l8 c8 k8
  have b8 := F8.binds (ps := ["value"]) fun _ _ _ _ _ _ us hl => match us, hl with | [_], _ => rfl
  have F9 := fun_mk (st := sFalls) l9 c9 k9
  have b9 := F9.binds (ps := ["n", "items"]) fun _ _ _ _ _ _ us hl => match us, hl with | [_, _], _ => rfl
  have F10 := fun_mk (st := sLows) l10 c10 k10
  have b10 := F10.binds (ps := []) fun _ _ _ _ _ _ us hl => match us, hl with | [], _ => rfl
  have F11 := fun_mk (st := sSome) l11 c11 k11
  have b11 := F11.binds (ps := ["state", "lows"]) fun _ _ _ _ _ _ us hl => match us, hl with | [_, _], _ => rfl
  have F12 := fun_mk (st := sLaw) l12 c12 k12
  have b12 := F12.binds (ps := ["script"]) fun _ _ _ _ _ _ us hl => match us, hl with | [_], _ => rfl
  have tb12 : PySem.W.tabIn K "law" = some (cO12, Pt12) := by
    unfold PySem.W.tabIn
    simp only [a12, l12, co12, cp12, PySem.W.fnOf]
  have exm : PySem.W.exmOne K (.ref C) (.ref CR) = some true := PySem.W.exm_ref sbCR hdCR tyCR sCR
  have kit : PySem.W.kitOne K (.ref C) (.ref C) = some true := by unfold PySem.W.kitOne; rw [if_pos (beq_self_eq_true _)]
  have mg_ := fun {x : Str} {v : Value} (e : PySem.W.nsIn K mainGlobals x = some (some v)) => PySem.W.mg_of X G e
  have m0_ := fun {x : Str} (e : PySem.W.nsIn K mainGlobals x = some none) => PySem.W.mg_none_of X G e
  refine ⟨PySem.W.fnOf "law" "law" (defArgs sLaw) (defBody sLaw) (defScope sLaw) .none kV12 dc12 pm12 an12 (.ref cO12) ct12, [(cO12, Pt12)], spLaw K Pt12, fun p hp => ?_, fun p hp => ?_, fun p hp => ?_, fun s u => .of_eq rfl, fun H a ns hl _ hT hS => ?_, fun base hb hn hTB => ?_⟩
  · cases List.mem_singleton.mp hp
    exact (own "law" (List.mem_singleton.mpr rfl) cO12 Pt12 tb12).2
  · cases List.mem_singleton.mp hp
    exact cn12
  · cases List.mem_singleton.mp hp
    exact (own "law" (List.mem_singleton.mpr rfl) cO12 Pt12 tb12).1
  · exact ⟨a, ns, rfl, hS, hl, hT _ (List.mem_singleton.mpr rfl), fun _ => rfl⟩
  · have TE : TxtE K mg C := ⟨mg_ gC, eC, kpC, sbC, tyC⟩
    have GW : FnOk l.prog w K mg base CX0 1 f0 _ ["value"] (spWhole K) := ok_whole F0 (m0_ z_isinstance) (m0_ z_int) (m0_ z_bool)
    have GDn := ok_down (base := base) (P := l.prog) (w := w) F1 F0 GW b0 (mg_ a0) TE (mg_ b_isqrt)
    have GLe := ok_least (base := base) (P := l.prog) (w := w) F2 F0 GW b0 (mg_ a0) TE (mg_ n_t1) (m0_ z_range)
    have GB : FnOk l.prog w K mg base CX0 1 f3 _ ["script"] (spBegun K) := ok_begun F3 (m0_ z_abs)
    have GD := ok_draw (base := base) (P := l.prog) (w := w) F5 F4 b4 (mg_ a4) (m0_ z_int)
    have GP := ok_pick (base := base) (P := l.prog) (w := w) F6 F5 GD b5 (mg_ a5) (m0_ z_len)
    have GLW : FnOk l.prog w K mg base CX0 1 f8 _ ["value"] (spWhole K) := ok_lwhole F8 (m0_ z_isinstance) (m0_ z_int) (m0_ z_bool)
    have GF := ok_falls (base := base) (P := l.prog) (w := w) F9 F8 GLW b8 (mg_ a8) (m0_ z_isinstance) (m0_ z_list)
    have GL : FnOk l.prog w K mg base CX0 1 f10 _ [] spLows := ok_lows F10 (m0_ z_range) (m0_ z_len)
    have GS := ok_some (base := base) (P := l.prog) (w := w) F11 F5 GD b5 (mg_ a5) F6 GP b6 (mg_ a6) (m0_ z_range) (m0_ z_max)
    have kDn : KBn K (PySem.W.fnOf "downsquares" "downsquares" (defArgs sDown) (defBody sDown) (defScope sDown) .none kV1 dc1 pm1 an1 cd1 ct1) ["n"] 0 ["n"] (fun _ ws => ws) (fun _ zs => zs) := ⟨fun s us ws _ h0 h1 => match us, ws, h0, h1 with | [], [_], _, _ => .of_eq rfl, fun _ r => r⟩
    have kLe : KBn K (PySem.W.fnOf "least_with" "least_with" (defArgs sLeast) (defBody sLeast) (defScope sLeast) .none kV2 dc2 pm2 an2 cd2 ct2) ["count"] 0 ["count"] (fun _ ws => ws) (fun _ zs => zs) := ⟨fun s us ws _ h0 h1 => match us, ws, h0, h1 with | [], [_], _, _ => .of_eq rfl, fun _ r => r⟩
    exact ok_law l12 c12 (hTB _ (List.mem_singleton.mpr rfl)) F3 GB b3 (mg_ a3) F10 GL b10 (mg_ a10) F1 GDn b1 (mg_ a1) kDn F2 GLe (mg_ a2) kLe F11 GS b11 (mg_ a11) F9 GF b9 (mg_ a9) F6 GP b6 (mg_ a6)
      l7 c7 k7 b7 (mg_ a7) (mg_ gCR) (mg_ gC) exm kit ⟨gaC, gtC, sbC, hdC, clC, sn, tk, mrC⟩ (m0_ z_enumerate) (m0_ z_len) (m0_ z_list) (m0_ z_range) (m0_ z_min) (m0_ z_isinstance)
end K6
open PySem PySem.W PyProof.Rows
set_option maxRecDepth 100000 in
set_option maxHeartbeats 0 in
theorem PySem.Challenge.cw_rulerchest_k53_greatest_squares_first_holds : PySem.Challenge.rw_rulerchest_k53_greatest_squares_first.Holds := by
  w_on; o_law; k_head; (case hw => w_witness2)
  k_fill
  refine Cau.walk_tabs (l := PySem.Challenge.rw_rulerchest_k53_greatest_squares_first) (n := 63) (k := 9) (x := "script") (CX := fun _ => L2.CX0) (xs := (["law"] : List Str)) rfl (by decide) rfl ⟨rfl, by decide, by decide⟩ (by decide +kernel) (fun w h Y => PySem.W.km_in_of Y) ?F (fun _ _ _ _ _ z => z)
  case F =>
    intro w mg fa h Y KX G hmg own
    refine' K6.all_mk KX G hmg own ?a0 ?l0 ?c0 ?k0 ?a1 ?l1 ?c1 ?k1 ?a2 ?l2 ?c2 ?k2 ?a3 ?l3 ?c3 ?k3 ?a4 ?l4 ?c4 ?k4 ?a5 ?l5 ?c5 ?k5 ?a6 ?l6 ?c6 ?k6 ?a7 ?l7 ?c7 ?k7 ?a8 ?l8 ?c8 ?k8 ?a9 ?l9 ?c9 ?k9 ?a10 ?l10 ?c10 ?k10 ?a11 ?l11 ?c11 ?k11 ?a12 ?l12 ?c12 ?k12 ?co12 ?cp12 ?cn12 ?gC ?eC ?kpC ?sbC ?tyC ?gaC ?gtC ?hdC ?clC ?mrC ?gCR ?eCR ?kpCR ?sbCR ?tyCR ?gaCR ?gtCR ?hdCR ?clCR ?mrCR ?sn ?tk ?sCR ?n_t1 ?b_isqrt ?z_isinstance ?z_int ?z_bool ?z_range ?z_abs ?z_len ?z_max ?z_list ?z_enumerate ?z_min
    (case a0 => k_is)
    (case l0 => k_is)
    (case c0 => k_is)
    (case k0 => k_is)
    (case a1 => k_is)
    (case l1 => k_is)
    (case c1 => k_is)
    (case k1 => k_is)
    (case a2 => k_is)
    (case l2 => k_is)
    (case c2 => k_is)
    (case k2 => k_is)
    (case a3 => k_is)
    (case l3 => k_is)
    (case c3 => k_is)
    (case k3 => k_is)
    (case a4 => k_is)
    (case l4 => k_is)
    (case c4 => k_is)
    (case k4 => k_is)
    (case a5 => k_is)
    (case l5 => k_is)
    (case c5 => k_is)
    (case k5 => k_is)
    (case a6 => k_is)
    (case l6 => k_is)
    (case c6 => k_is)
    (case k6 => k_is)
    (case a7 => k_is)
    (case l7 => k_is)
    (case c7 => k_is)
    (case k7 => k_is)
    (case a8 => k_is)
    (case l8 => k_is)
    (case c8 => k_is)
    (case k8 => k_is)
    (case a9 => k_is)
    (case l9 => k_is)
    (case c9 => k_is)
    (case k9 => k_is)
    (case a10 => k_is)
    (case l10 => k_is)
    (case c10 => k_is)
    (case k10 => k_is)
    (case a11 => k_is)
    (case l11 => k_is)
    (case c11 => k_is)
    (case k11 => k_is)
    (case a12 => k_is)
    (case l12 => k_is)
    (case c12 => k_is)
    (case k12 => k_is)
    (case co12 => k_is)
    (case cp12 => exact rfl)
    (case cn12 => kernel_rfl)
    (case gC => k_is)
    (case eC => k_exc)
    (case kpC => k_is)
    (case sbC => k_is)
    (case tyC => k_is)
    (case gaC => k_is)
    (case gtC => k_is)
    (case hdC => k_is)
    (case clC => k_is)
    (case mrC => k_is)
    (case gCR => k_is)
    (case eCR => k_exc)
    (case kpCR => k_is)
    (case sbCR => k_is)
    (case tyCR => k_is)
    (case gaCR => k_is)
    (case gtCR => k_is)
    (case hdCR => k_is)
    (case clCR => k_is)
    (case mrCR => k_is)
    (case sn => k_is)
    (case tk => k_is)
    (case sCR => k_is)
    (case n_t1 => k_is)
    (case b_isqrt => k_is)
    (case z_isinstance => k_is)
    (case z_int => k_is)
    (case z_bool => k_is)
    (case z_range => k_is)
    (case z_abs => k_is)
    (case z_len => k_is)
    (case z_max => k_is)
    (case z_list => k_is)
    (case z_enumerate => k_is)
    (case z_min => k_is)
