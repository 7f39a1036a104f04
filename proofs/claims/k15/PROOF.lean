import PyProof.Rows.All
import Wide.All
import OpenK.AllK
import Wide.FinOn
import KE.KLam
import KE.KNest
import HandS.ForMost
import HandS.ForExc
import HandS.Codes
import HandS.Lambda
import HandS.EndTab
import HandS.ExcIs
import HandS.IsInst
import HandS.Defaults
import HandS.MakeKwOnly
import HandS.Gcd
import HandS.Walk
import HandS.Conv
import HandS.Wide
import HandS.Flow
import Flt.RightSqrt
import HandS.Words
import HandS.WordsExc
import HandS.RaiseMore
import PyProof.ReprRoads
import PyProof.CallFns
import HandS.Steps
import HandS.More
import HandS.TupAny
import HandS.DictComp
import HandS.Iter
import HandS.Set
import HandS.Strs
import HandS.SetFor
import HandS.TupSets
import HandS.SetKeys
import PyProof.Rows.SortStr
import PyProof.SetRoads
import HandS.ExcInit
import KE.KExcSuper
import HandS.ExcField
import HandS.Deep
import KE.SortData
import PySem.Challenge.RW_rulerchest_k15_all_chests_by_three_sets
set_option Elab.async false
set_option linter.all false
set_option maxRecDepth 100000
set_option maxHeartbeats 2000000
/-! An error that an except suite hands to a name of its own stays known behind the try; a helper that calls what it gets and hands the error back. -/
namespace Cau
open PySem PySem.Spec PyProof.Rows L2

/-- the error object at e, of the class c, its own dict d -/
def ErrO (c : Value) (d : Option Addr) (e : Addr) : HO :=
  .ext fun h => ∃ (ob : Obj) (fs : Array Value), h.get? e = some ob ∧ Zc c d ob ∧ ob.data = .fields fs
theorem errO_ok {P : Program} {w : World} {H : Hp} {h : Heap} {e : Addr} {c : Value} {d : Option Addr} {ob : Obj} {fs : Array Value}
    (g : h.get? e = some ob) (z : Zc c d ob) (hf : ob.data = .fields fs) : ObjOk P w H h e (ErrO c d e) :=
  ⟨⟨ob, fs, g, z, hf⟩, ⟨ob, g⟩, fun _ _ ⟨o, f, q, r⟩ k => ⟨o, f, k o q, r⟩⟩

section
variable {X : Cx} {pins : List (Addr × Obj)} {σ : L2.St} {H : Hp} {s : Shared}
/-- an object that was not there at the entry, and that nothing speaks of, is spoken of from now on -/
theorem inv_told {e : Addr} {u : HO} (I : Inv X pins σ H s) (hn : H e = none) (h0 : X.s_0.heap.get? e = none) (ok : ObjOk X.prog X.w (upd H e u) s.heap e u)
    (hL : e ≠ X.env.locals) (hC : ∀ x c, X.env.cells.lookup x = some c → c ≠ e) (hP : ∀ p ∈ X.pn ++ pins, p.1 ≠ e) : Inv X pins σ (upd H e u) s := by
  have more : ∀ b v, H b = some v → upd H e u b = some v := fun b v q => by
    rw [upd_ne (ne_of_none q hn)]; exact q
  have less : ∀ b, b ≠ e → H b = none → upd H e u b = none := fun b hb q => by rw [upd_ne hb]; exact q
  have un : Un X.fs X.ex X.H_0 (upd H e u) X.s_0.heap s.heap :=
    { keep := I.base.keep
      slot := I.base.slot
      free := fun b o q n hx => less b (fun z => by rw [z, h0] at q; cases q) (I.base.free b o q n hx)
      there := I.base.there
      tups := fun b xs q => more _ _ (I.base.tups b xs q)
      frzs := fun b o v q => more _ _ (I.base.frzs b o v q)
      tbls := fun b ps q => by
        obtain ⟨m, r⟩ := I.base.tbls b ps q
        exact ⟨m, more _ _ r⟩ }
  have hok : HOk X.prog X.w (upd H e u) s.heap := fun b v q => by
    by_cases hb : b = e
    · subst hb
      rw [upd_same] at q
      cases q
      exact ok
    · rw [upd_ne hb] at q
      exact (I.hok b v q).stay (fun _ _ _ r => r) (fun _ r => more _ _ r) fun _ _ r => more _ _ r
  exact
    { ok := I.ok, os := I.os, bare := I.bare, base := un, loc := I.loc, cell := I.cell
      free := less _ (Ne.symm hL) I.free
      freeC := fun x c q => less _ (hC x c q) (I.freeC x c q)
      pin := fun p hp => by
        obtain ⟨a1, a2, a3⟩ := I.pin p hp
        exact ⟨a1, less _ (hP p hp) a2, a3⟩
      hok := hok, len := I.len }
end

/-- what the clause «except x as n» (n in slot i) wishes of an error of the body that it always takes: the suite falls through, and behind it the error is told of at its address -/
def wTell (K : PySem.W.Frag) (c : Value) (i : Nat) (ts : Addr → Value → Option Addr → TS) (D : Ends) : WX := fun cls d σ H =>
  PySem.W.exmOne K cls c = some true ∧
    ∀ e, H e = none → ts e cls d { nx := fun σ' H' => D.nx (σ'.set i none) (upd H' e (ErrO cls d e)), rt := fun _ _ => False, bk := fun _ _ => False, ct := fun _ _ => False } (σ.set i (some (.ref e))) H
section
variable {X : Cx} {x n : Str} {c : Value} {i : Nat} {body suite : List Stmt} {st : Stmt} {q1 q2 q3 : Pos} {tb : WX → TS} {ts : Addr → Value → Option Addr → TS}
theorem ps_tryTell (hst : X.stack = X.env :: X.outer) (hfrm : X.env.frame = some X.env.locals) (hnd : X.N.Nodup) (hi : X.N[i]? = some n) (hl : X.env.kindOf n = some .local) (hc : Names X x c) (hex : X.ex = [])
    (hbody : ∀ (W : WX) (pn : List (Addr × Obj)) (xe : Value → Shared → Prop), Takes (X.tr pn xe) W → PSs (X.tr pn xe) body (tb W))
    (hsuite : ∀ (e : Addr) (ob : Obj) (cls : Value) (d : Option Addr) (pn : List (Addr × Obj)), Zc cls d ob → (∃ fs, ob.data = .fields fs) → PSs (X.suite e ((e, ob) :: pn)) (st :: suite) (ts e cls d)) :
    PS X (.Try body [.ExceptHandler (some (.Name x q1)) (some n) (st :: suite) q2] [] [] q3) (fun D σ H => tb (wTell X.K c i ts D) D σ H) := by
  constructor
  intro pins s σ H D I h
  have OK := I.ok
  have frames : X.A.frames = some (X.env :: X.outer) := OK.frames.trans (congrArg some hst)
  apply wpAny_Try_except
  have run := (hbody (wTell X.K c i ts D) (X.pn ++ pins) (fun e s₁ => wpAny (model X.prog X.w) X.A (noteFrame e X.env)
      (fun _ s₂ => wpAny (model X.prog X.w) X.A (setFlight e none)
        (fun _ s₃ => wpAny (model X.prog X.w) X.A (handleBy e X.env [.ExceptHandler (some (.Name x q1)) (some n) (st :: suite) q2]) (SP X pins D) X.xe s₃) X.xe s₂) X.xe s₁) ?takes).run [] s σ H D (I.toTry _) h
  case takes =>
    rintro u s1 ⟨e, B, sI, pins1, σ1, H1, cls, d, rfl, J1, inB, upS, sky, ne, eos, bare, hm, wish⟩
    have J := J1.ofTry OK
    rw [show (X.tr (X.pn ++ pins) _).stack = X.env :: X.outer from hst] at sky
    -- the error is new: it is no object of the ground
    have gone : B.get? e = none := by
      rcases sky with z | z | z
      · exact z.2.1
      · exact z.2.1
      · exact z.2.1
    refine Sky.land Zc.steady frames hfrm sky fun ha fly upA => ?_
    have K1 : Inv X pins σ1 H1 { s1 with heap := ha } := J.landed inB fly.1 (upS.trans upA) eos bare
    obtain ⟨oa, fa, ga, za, da⟩ := fly.there
    have offFrames : e ∉ frs (X.env :: X.outer) := fun hmem => by
      obtain ⟨_, o', g', hno⟩ := fly.2.2.1.mem hmem
      rw [ga] at g'
      cases g'
      exact hno _ da
    have offL : e ≠ X.env.locals := fun z => offFrames (List.mem_filterMap.mpr ⟨X.env, List.mem_cons_self, by rw [hfrm, z]⟩)
    have offF : e ∉ X.fs := fun hmem => by
      obtain ⟨v, hv, q⟩ := List.mem_filterMap.mp hmem
      exact offFrames (List.mem_filterMap.mpr ⟨v, List.mem_cons_of_mem _ hv, q⟩)
    have offStack : e ∉ frs X.stack := by rw [hst]; exact offFrames
    have nowhere : sI.heap.get? e = none := by
      cases q : sI.heap.get? e with
      | none => rfl
      | some o => exact absurd (inB e o q offStack) (by rw [gone]; intro z; cases z)
    have fresh : X.s_0.heap.get? e = none := by
      cases q : X.s_0.heap.get? e with
      | none => rfl
      | some o =>
        obtain ⟨o', q'⟩ := J.base.there e o q (by rw [hex]; intro z; cases z)
        rw [nowhere] at q'
        cases q'
    have offPins : ∀ p ∈ X.pn ++ pins, p.1 ≠ e := fun p hp z => by
      have q := (J.pin p hp).1
      rw [z, nowhere] at q
      cases q
    have S1 := K1.suite ga da ne offL offF
    refine wpAny_handleBy_cons (codeAny_handlers_test ?_) (by intro z; cases z)
    have isOf : PySem.W.Looks (model X.prog X.w) ha (typeOf (.ref e)) cls := fun A Q E t k q => wpAny_typeOf_ref (k _ _ ga) (by rw [za.1]; exact q)
    have takesIt := PySem.W.exm_one (M := model X.prog X.w) K1.kIn isOf hm
    have named : ∀ {Q E : Value → Shared → Prop}, Q c { s1 with heap := ha } → wpAny (model X.prog X.w) (X.A.mark (some (.ref e))) (eval (.Name x q1) X.env) Q E { s1 with heap := ha } := by
      intro Q E q
      obtain ⟨g1, g2, g3⟩ := hc
      rcases g3 with m | ⟨m, v, nn⟩
      · exact ld_glob (X := X.suite e ((e, oa) :: (X.pn ++ pins))) S1 g1 m q g2
      · exact ld_blt (X := X.suite e ((e, oa) :: (X.pn ++ pins))) S1 g1 m v q nn g2
    refine named (takesIt.here (codeAny_handlers_suite_as (HandSPX.lands_againZ fly fun hb flyB upB => ?_)))
    have K2 : Inv X pins σ1 H1 { s1 with heap := hb } := J.landed inB flyB.1 ((upS.trans upA).trans upB) eos bare
    obtain ⟨ob, fb, gb, zb, db⟩ := flyB.there
    have S2 := K2.suite gb db ne offL offF
    refine store_ok (X := X.suite e ((e, ob) :: (X.pn ++ pins))) (v := .ref e) S2 hnd hi (.inl hl) rfl (fun s5 S5 => ?_) (.inr hl)
    refine wpAny_mono ((hsuite e ob cls d (X.pn ++ pins) zb ⟨_, db⟩).run [] s5 _ H1 _ S5 (wish e ne)) (fun fl s6 sp => ?_) (fun _ _ z => z.elim)
    cases fl with
    | next =>
      obtain ⟨σ6, H6, S6, q6⟩ := sp
      obtain ⟨g6, n6, _, _, _⟩ := S6.pin (e, ob) (List.mem_append_left _ List.mem_cons_self)
      have offCells : ∀ y k, X.env.cells.lookup y = some k → k ≠ e := fun y k q z => by
        obtain ⟨v, o, go, dq⟩ := S6.cell y k q
        rw [z, g6] at go
        cases go
        rw [db] at dq
        cases dq
      have T6 : Inv X pins σ6 (upd H6 e (ErrO cls d e)) s6 := inv_told (S6.unsuite OK) n6 fresh (errO_ok g6 zb db) offL offCells offPins
      exact gone_ok T6 hnd hi hl fun s7 T7 => ⟨_, _, T7, q6⟩
    | brk =>
      obtain ⟨_, _, _, z⟩ := sp
      exact z.elim
    | cont =>
      obtain ⟨_, _, _, z⟩ := sp
      exact z.elim
    | ret v =>
      obtain ⟨_, _, _, _, _, z⟩ := sp
      exact z.elim
  refine wpAny_mono run (fun fl s1 sp => ?_) (fun _ _ z => z)
  cases fl with
  | next =>
    obtain ⟨σ', H', J, q⟩ := sp
    exact wpAny_execs_nil ⟨σ', H', J.ofTry OK, q⟩
  | brk =>
    obtain ⟨σ', H', J, q⟩ := sp
    exact ⟨σ', H', J.ofTry OK, q⟩
  | cont =>
    obtain ⟨σ', H', J, q⟩ := sp
    exact ⟨σ', H', J.ofTry OK, q⟩
  | ret v =>
    obtain ⟨y, σ', H', J, r, q⟩ := sp
    exact ⟨y, σ', H', J.ofTry OK, r, q⟩
end

/-! ### the helper: found = None; try: action(); except CLASS as error: found = error; return found -/
/-- its names -/
def cauN : List Str := ["action", "found", "error"]
def cauScope (cl : Str) : Scope :=
  { kind := .function, names := [("action", .local), ("found", .local), ("error", .local), (cl, .globalImplicit)], isGenerator := false, isCoroutine := false, more := [] }
/-- what it hands back: None behind a call that raises nothing, else the error, told of at its address -/
def TCau (K : PySem.W.Frag) (CS : Addr) : (XK → Hp → VK → Prop) → Hp → VK → Prop := fun tl H Q =>
  tl (fun cls d H' => PySem.W.exmOne K cls (.ref CS) = some true ∧ ∀ e, H' e = none → Q (.ref e) (upd H' e (ErrO cls d e))) H fun _ H' => Q .non H'
/-- a wish need not speak of frames of another length -/
theorem takes_len {X : Cx} {W : WX} (tk : Takes X W) : Takes X (fun cls d σ H => σ.length = X.N.length → W cls d σ H) := by
  rintro u s1 ⟨e, B, sI, pins, σ, H, cls, d, a1, I, a2, a3, a4, a5, a6, a7, w⟩
  exact tk u s1 ⟨e, B, sI, pins, σ, H, cls, d, a1, I, a2, a3, a4, a5, a6, a7, w I.len⟩
section
variable {X : Cx} {x q cl : Str} {g CS : Addr} {cdg : Value} {p1 p2 p3 p4 p5 p6 p7 p8 p9 p10 p11 p12 p13 p14 : Pos} {j : Nat}
theorem cau_gives (hme : X.mg cl = some (.ref CS)) (hdb : (cl == ("__debug__" : Str)) = false) (h3 : (cauScope cl).names.lookup cl = some .globalImplicit) :
    LamX.GivesTo X cauN x (cauScope cl) g cdg
      [.Assign [.Name "found" p1] (.Constant .none j p2) p3,
        .Try [.Expr (.Call (.Name "action" p4) [] [] p5) p6] [.ExceptHandler (some (.Name cl p7)) (some "error") [.Assign [.Name "found" p8] (.Name "error" p9) p10] p11] [] [] p12,
        .Return (some (.Name "found" p13)) p14] "action" q (TCau X.K CS) := by
  intro f c' s H Q tl act hc h
  have nd : cauN.Nodup := by decide +kernel
  have go : (cxOf C8.CX0 X.prog X.w X.K X.mg X.base cauN x (cauScope cl) g cdg X.A X.stack s H C8.E0).nox.mg cl = some (.ref CS) := hme
  have gl : Gl (cxOf C8.CX0 X.prog X.w X.K X.mg X.base cauN x (cauScope cl) g cdg X.A X.stack s H C8.E0).nox cl := h3
  refine ⟨_, pss_cons (ps_set (i := 1) nd rfl (.inl rfl) pe_non)
    (pss_cons (ps_tryTell (X := (cxOf C8.CX0 X.prog X.w X.K X.mg X.base cauN x (cauScope cl) g cdg X.A X.stack s H C8.E0).nox) (c := .ref CS) (i := 2)
        (tb := fun W D σ H => ∃ E : XK, (∀ cls d (σ' : L2.St) H', E cls d H' → σ'.length = 3 → W cls d σ' H') ∧ σ[0]? = some (some (.ref f)) ∧ H c' = some (LamX.CodeO c' q) ∧ tl E H fun _ H' => D.nx σ H')
        rfl rfl nd rfl rfl ⟨gl, hdb, .inl go⟩ rfl (fun W pn xe tk => ?_)
        (fun e ob cls d pn _ _ => pss_one (ps_set (i := 1) nd rfl (.inl rfl) (pv 2))))
      (pss_one (ps_ret (pv 1)))), ?_⟩
  · constructor
    intro pins s' σ H' D I h'
    obtain ⟨E, hW, h1, h2, h3⟩ := h'
    exact (pss_one (ps_expr (pos := p6) (act _ pn xe E p4 p5 (takes_len tk) hW))).run pins s' σ H' D I ⟨h1, h2, h3⟩
  · refine ⟨fun cls d H' => PySem.W.exmOne X.K cls (.ref CS) = some true ∧ ∀ e, H' e = none → Q (.ref e) (upd H' e (ErrO cls d e)), fun cls d σ' H' z hl => ⟨z.1, fun e he => ?_⟩, rfl, hc, ?_⟩
    · match σ', hl with
      | [a0, a1, a2], _ => exact ⟨.ref e, rfl, .ref e, rfl, z.2 e he⟩
    · have e1 : (fun (_ : V) (H' : Hp) => Q .non H') = fun (_ : V) (H' : Hp) => ∃ v, ([some (.ref f), some .non, none] : L2.St)[1]? = some (some v) ∧ Q v H' := by
        funext _ H'
        exact propext ⟨fun z => ⟨.non, rfl, z⟩, fun ⟨v, a, z⟩ => by cases a; exact z⟩
      have h' := h
      unfold TCau at h'
      rw [e1] at h'
      exact h'
end

/-! ### isinstance of an error that is told of -/
def rIsErr (K : PySem.W.Frag) (D : Addr) : List V → Hp → VK → Prop := fun xs H Q =>
  ∃ (e : Addr) (c : V) (cv : Value) (b : Bool), xs = [.ref e, c] ∧ H e = some (ErrO (.ref D) none e) ∧ (∀ u, RelV c u → u = cv) ∧ PySem.W.kitOne K (.ref D) cv = some b ∧ Q (.bl b) H
theorem call_isErr {X : Cx} {D : Addr} (C : ExcC X.K D) : CallR X (.builtin "isinstance") (rIsErr X.K D) := by
  intro pins s σ H xs us Q I r ⟨e, c, cv, b, hx, he, hcv, hb, q⟩
  subst hx
  obtain ⟨u1, u2, hu, r1, r2⟩ := vals2 r
  subst hu
  cases (show u1 = Value.ref e from r1)
  cases hcv _ r2
  obtain ⟨⟨⟨oc, od, oda, osl⟩, fs, g, z, hf⟩, _⟩ := I.hok e _ he
  obtain ⟨z1, z2⟩ := z
  simp only at z1 z2 hf
  subst z1 z2 hf
  have at_ : PySem.W.InstAt s.heap e _ D none := ⟨g, rfl, rfl, trivial⟩
  exact PySem.W.kia_one (PySem.W.handS_kitx_exc C.hg C.hk C.hs C.hd C.ha C.hn C.ht C.hm) I.kIn at_ hb (fun z => nomatch z) fun tk => ⟨.bl b, H, I.tok tk, rfl, q⟩

/-! ### a def called by keywords alone -/
def tKw (m : Nat) (sp : Sp) (gV : List V → List V → List V) (E : XK) (tk : TA) : TE := fun σ H Q => tk σ H fun zs H1 => zs.length = m ∧ sp (gV [] zs) H1 Q E
section
variable {X : Cx} {CX : CXT} {k : Nat} {f : Addr} {fd : FuncData} {ps ks : List Str} {sp : Sp} {E : XK} {x : Str} {p pos : Pos} {kws : List Keyword} {tk : TA} {g : List Value → List Value → List Value} {gV : List V → List V → List V}
theorem pe_kw (F : FnOk X.prog X.w X.K X.mg X.base CX k f fd ps sp) (hr : Room k X.A) (hg : Gl X x) (hm : X.mg x = some (.ref f)) (hk : PySem.W.keepIn X.K (.ref f) = true) (hb : KBn X.K fd ps 0 ks g gV) (hx : Passes CX X E) (hkw : PK X kws tk)
    (h1 : (backToKw pos (keywordEach kws X.env)).all (·.1.isSome) = true := by rfl) (h2 : (backToKw pos (keywordEach kws X.env)).filterMap (·.1) = ks := by rfl) (h3 : (x == ("__debug__" : Str)) = false := by decide)
    (h4 : ((backTo pos (starEach [] X.env)).any (·.1) || (backToKw pos (keywordEach kws X.env)).any (·.1.isNone)) = false := by rfl) :
    PE X (.Call (.Name x p) [] kws pos) (tKw ks.length sp gV E tk) := by
  constructor
  intro pins s σ H Q I h
  apply wpAny_Call_Name_kw
  apply ld_glob I hg hm _ h3
  apply PySem.W.callWith_KW0 (h₀ := X.base) I.ok.mod.kin hk h1 _ h4
  refine thn (hkw.run pos pins s σ H _ I h) fun ws s1 hws => ?_
  obtain ⟨zs, H1, I1, rz, hl, q⟩ := hws
  refine ⟨I1.kIn, ?_⟩
  rw [h2]
  exact run_fnN (n := 0) F hr hb hx I1 .nil rz rfl hl q
end
/-! ### math.isqrt of great ints, by the name under which the module has it -/
def rRoot : List V → Hp → VK → Prop := fun vs H Q => ∃ n : Int, vs = [.int n] ∧ 0 ≤ n ∧ n < 2 ^ 250 ∧ ∀ d : Int, 0 ≤ d → d * d ≤ n → n < (d + 1) * (d + 1) → Q (.int d) H
theorem cr_isqrt {X : Cx} : CallR X (.builtin "math.isqrt") rRoot := by
  intro pins s σ H vs us Q I r ⟨n, hv, h0, h1, q⟩
  subst hv
  obtain ⟨u, hu, ru⟩ := r.one
  subst hu
  obtain ⟨t, rfl⟩ := ru
  have hl : n.toNat.log2 ≤ 249 := PySem.W.mg_log (by
    have e : (n.toNat : Int) = n := Int.toNat_of_nonneg h0
    have h2 : (n.toNat : Int) < ((2 ^ 250 : Nat) : Int) := by rw [e]; exact_mod_cast h1
    exact Int.ofNat_lt.mp h2)
  have sp := PySem.Float64.isqrt_spec n.toNat
  have e : (n.toNat : Int) = n := Int.toNat_of_nonneg h0
  refine call_function_meets PySem.W.MGF.kind_isqrt PySem.W.MGF.plain_isqrt PySem.W.MGF.entry_isqrt (PySem.W.MGF.args_isqrt _) (PySem.W.mg_run_isqrt n t (by omega) (by omega) (by omega)).meets ?_
  refine ⟨.int _, H, I.tok _, ⟨_, rfl⟩, q _ (Int.natCast_nonneg _) ?_ ?_⟩
  · rw [← e]
    exact_mod_cast sp.1
  · rw [← e]
    exact_mod_cast sp.2

/-! ### the end of a law row, with the tables of the code objects of the defs xs -/
theorem walk_tabs {l : PySem.W.OpenLaw} {n k : Nat} {q : Program} {loose : List Str} {XP : (Str → Option Value) → Heap → Prop} {YP : World → Heap → Prop} {d : DefRec} {K : PySem.Params → PySem.W.Frag} {CX : World → CXT} {x : Str} {xs : List Str}
    (h1 : l.most = some n) (h2 : n ≤ sizeLine) (h3 : d.params.defaults = []) (hr : Room k callerA) (hrec : (xs.all fun x => (recsOf q).any fun e => e.name == x) = true) (hY : ∀ (w : World) (h : Heap), YP w h → (K w.params).In h)
    (F : ∀ (w : World) (mg : Str → Option Value) (fa : Addr) (h : Heap), YP w h → (K w.params).In h → h.Ns mainGlobals mg → mg d.name = some (.ref fa) →
      (∀ x ∈ xs, ∀ c P : Addr, PySem.W.tabIn (K w.params) x = some (c, P) → PySem.W.CodeHd h c P ∧ h.get? P = some { cls := .none, data := .fields #[] }) → LamX.LawAtS l w (K w.params) (CX w) k n x mg fa h)
    (hCX : ∀ (w : World) (H : Hp) (s : Shared) (e : Value) (s' : Shared), CX w [] H s (fun _ _ _ => False) e s' → False) :
    PySem.W.WalkO q loose XP YP l.row.toRowW d [] (fun f vs => PySem.call f vs) := by
  apply Att.attach_callB h1 h3
  intro w s₀ s₁ mg mb fa o pm cd doc a vs ns G Y ho hd hcd hmg hobj hints hlen hbits hg
  have KX := hY w _ Y
  have tabs : ∀ x ∈ xs, ∀ c P : Addr, PySem.W.tabIn (K w.params) x = some (c, P) → PySem.W.CodeHd s₁.heap c P ∧ s₁.heap.get? P = some { cls := .none, data := .fields #[] } := by
    intro x hx c P ht
    have hany := List.all_eq_true.mp hrec x hx
    have hsome : ((recsOf q).find? fun e => e.name == x).isSome = true := by rw [List.find?_isSome]; exact List.any_eq_true.mp hany
    obtain ⟨dr, hdr⟩ := Option.isSome_iff_exists.mp hsome
    exact PySem.W.tab_of G.T KX hdr ht
  obtain ⟨fd, cs, sp, hT, nT, C, hb, hsp, hF⟩ := F w mg fa _ Y KX G.T.g hmg tabs
  exact LamX.law_callTs KX G.T.g G.T.b G.T.builtins G.T.nolimit hg hT nT C G.T.bmain hobj hints (Nat.le_trans hlen h2) hr hF hb (fun H hH hS => hsp H a ns hlen hbits hH hS) fun H e s' => hCX w H s₁ e s'
end Cau

set_option Elab.async false
set_option linter.all false
set_option maxRecDepth 100000
set_option maxHeartbeats 2000000
namespace Dr15
open PySem PySem.Spec PyProof.Rows L2 Cau
def topS (i : Nat) : Stmt := PySem.Challenge.pw_rulerchest_k15_all_chests_by_three_sets.main.body.getD i (.Pass ⟨0, 0, 0, 0⟩)
abbrev sBegun : Stmt := topS 42
abbrev sStirred : Stmt := topS 43
abbrev sDraw : Stmt := topS 44
abbrev sPick : Stmt := topS 45
/-! ### heaps -/
theorem same_upd {H : Hp} {p : Addr} {o : HO} (h : H p = none) : Same H (upd H p o) := fun b x e => by
  rw [upd_ne (ne_of_none e h)]
  exact e
/-! ### lists of ints as data -/
theorem canLay_ints : ∀ ns : List Int, PyData.canLayAll0 (ns.map PyData.int) = true
  | [] => by simp [PyData.canLayAll0]
  | n :: r => by simp [PyData.canLayAll0, PyData.canLay0, canLay_ints r]
theorem depth_ints : ∀ ns : List Int, PyData.depthAll (ns.map PyData.int) = 0
  | [] => by simp [PyData.depthAll]
  | n :: r => by simp [PyData.depthAll, PyData.depth, depth_ints r]
theorem shaped_ints (ns : List Int) : SeqAt.shaped (.list (ns.map PyData.int)) = true := by
  unfold SeqAt.shaped
  simp only [PyData.canLay0, PyData.depth, canLay_ints, depth_ints]
  decide
theorem dpAll_ints {K : PySem.W.Frag} {H : Hp} : ∀ ns : List Int, DpAll K H (ns.map V.int) (ns.map PyData.int)
  | [] => .nil
  | n :: r => .cons (.int n) (dpAll_ints r)
theorem dp_ints {K : PySem.W.Frag} {H : Hp} {l : Addr} {ns : List Int} (h : SqL K H l (ns.map V.int)) : Dp K H (.ref l) (.list (ns.map PyData.int)) := .lst h (dpAll_ints ns)
theorem eqv_ints : ∀ xs ys : List Int, PyData.eqv (.list (xs.map PyData.int)) (.list (ys.map PyData.int)) = decide (xs = ys) := by
  have all : ∀ xs ys : List Int, PyData.eqvAll (xs.map PyData.int) (ys.map PyData.int) = decide (xs = ys) := by
    intro xs
    induction xs with
    | nil => intro ys; cases ys <;> simp [PyData.eqvAll]
    | cons x xs ih =>
      intro ys
      cases ys with
      | nil => simp [PyData.eqvAll]
      | cons y ys =>
        simp only [List.map_cons, PyData.eqvAll, PyData.eqv, ih]
        by_cases h1 : x = y <;> by_cases h2 : xs = ys <;> simp [h1, h2]
  intro xs ys
  simp only [PyData.eqv]
  exact all xs ys
/-! ### the state of the draws -/
def stK (w c : Addr) (r t : Int) : List (Key × V) := [(.inr "wide", .ref w), (.inr "cells", .ref c), (.inr "rest", .int r), (.inr "turn", .int t)]
theorem pow18 : CPow 10 18 := ⟨by decide, by decide, by decide⟩
theorem stK_new (w c : Addr) (r t : Int) : mergeK [] (stK w c r t) = stK w c r t := by
  with_unfolding_all rfl
/-- T: at most so many times it was stirred -/
def St (H : Hp) (a w c : Addr) (T : Nat) : Prop := c ≠ w ∧ ∃ (ws cs : List Int) (r t : Int), H a = some (.dK (stK w c r t)) ∧ H w = some (.lst (ws.map V.int)) ∧ H c = some (.lst (cs.map V.int)) ∧ ws.length ≤ 63 ∧ cs.length ≤ 63 ∧ 0 ≤ t ∧ t ≤ T
section
variable {H : Hp} {a w c : Addr} {r t v : Int}
theorem get_wide (h : H a = some (.dK (stK w c r t))) : DGet H a (.str "wide") (some (.ref w)) := by
  have e : valV (stK w c r t) (.inr "wide" : Key) = some (.ref w) := by with_unfolding_all rfl
  exact e ▸ DGet.k (k := (.inr "wide" : Key)) h
theorem get_cells (h : H a = some (.dK (stK w c r t))) : DGet H a (.str "cells") (some (.ref c)) := by
  have e : valV (stK w c r t) (.inr "cells" : Key) = some (.ref c) := by with_unfolding_all rfl
  exact e ▸ DGet.k (k := (.inr "cells" : Key)) h
theorem get_rest (h : H a = some (.dK (stK w c r t))) : DGet H a (.str "rest") (some (.int r)) := by
  have e : valV (stK w c r t) (.inr "rest" : Key) = some (.int r) := by with_unfolding_all rfl
  exact e ▸ DGet.k (k := (.inr "rest" : Key)) h
theorem get_turn (h : H a = some (.dK (stK w c r t))) : DGet H a (.str "turn") (some (.int t)) := by
  have e : valV (stK w c r t) (.inr "turn" : Key) = some (.int t) := by with_unfolding_all rfl
  exact e ▸ DGet.k (k := (.inr "turn" : Key)) h
theorem put_rest (h : H a = some (.dK (stK w c r t))) : DPut H a (.str "rest") (.int v) (upd H a (.dK (stK w c v t))) := by
  have e : putK (stK w c r t) (.inr "rest" : Key) (.int v) = stK w c v t := by with_unfolding_all rfl
  exact e ▸ DPut.k (k := (.inr "rest" : Key)) (v := .int v) h (by show 4 < sizeLine; decide)
theorem put_turn (h : H a = some (.dK (stK w c r t))) : DPut H a (.str "turn") (.int v) (upd H a (.dK (stK w c r v))) := by
  have e : putK (stK w c r t) (.inr "turn" : Key) (.int v) = stK w c r v := by with_unfolding_all rfl
  exact e ▸ DPut.k (k := (.inr "turn" : Key)) (v := .int v) h (by show 4 < sizeLine; decide)
end
def spBegun (K : PySem.W.Frag) : Sp := fun vs H Q _ => ∃ (a : Addr) (ns : List Int), vs = [.ref a] ∧ SqL K H a (ns.map V.int) ∧ ns.length ≤ 63 ∧
  ∀ (H' : Hp) (p w c : Addr), Same H H' → H p = none → H w = none → H c = none → p ≠ w → p ≠ c → w ≠ c → St H' p w c 0 → Q (.ref p) H'
section
variable {P : Program} {w : World} {K : PySem.W.Frag} {mg : Str → Option Value} {base : Heap}
theorem scB : FnScope ["script", "wide", "cell"] ["script"] (defScope sBegun) := ⟨rfl, rfl, rfl, by decide +kernel, rfl, by decide +kernel, by decide +kernel⟩
theorem ok_begun {f : Addr} {fd : FuncData} (F : Fun K "_law_begun" "_law_begun" sBegun f fd) (mabs : mg "abs" = none) : FnOk P w K mg base CX0 1 f fd ["script"] (spBegun K) := by
  refine F.ok scB (fun vs H Q E h => ?_) (fun cdv A outer s H vs Q E hr h => ?_)
  · obtain ⟨a, ns, rfl, _⟩ := h
    rfl
  · obtain ⟨a, ns, rfl, hS, hlen, q⟩ := h
    refine ⟨_, pss_cons (ps_setLc (i := 1) (own := [("cell", 2)]) (g := gName 2) rfl scB.nd rfl rfl (sw_true rfl rfl rfl (by decide +kernel)) (pi_list (pv 0))
        (blkOk_by (own := [("cell", 2)]) (N := ["script", "wide", "cell"]) (sc := defScope sBegun) (by decide +kernel))
        (fun _ _ _ _ _ => pg_name (i := 2) scB.nd rfl (.inl rfl))
        (fun _ _ _ _ _ => pts_one (pt_cmpR op_ge (pe_callB call_abs (by rfl) mabs (by decide +kernel) (pa_cons (pv 2) pa_nil)) (pe_op op_pow pe_int pe_int) (nomark _)))
        (fun _ _ _ _ _ => pe_op op_sub (pe_callB call_abs (by rfl) mabs (by decide +kernel) (pa_cons (pv 2) pa_nil)) (pe_op op_pow pe_int pe_int)))
      (pss_one (ps_ret (pe_disp (pps_cons pe_str (pv 1) (pps_cons pe_str
          (pe_lc (own := [("cell", 2)]) (g := gName 2) (tt := tYes) rfl scB.nd (pi_list (pv 0))
            (blkOk_by (own := [("cell", 2)]) (N := ["script", "wide", "cell"]) (sc := defScope sBegun) (by decide +kernel))
            (fun _ _ _ _ _ => pg_name (i := 2) scB.nd rfl (.inl rfl)) (fun _ _ _ _ _ => pts_nil)
            (fun _ _ _ _ _ => pe_callB call_abs (by rfl) mabs (by decide +kernel) (pa_cons (pv 2) pa_nil)))
          (pps_cons pe_str pe_int (pps_cons pe_str pe_int pps_nil)))) (by rfl) (by rfl) (fun z => by cases z) (by decide)))), ?_⟩
    refine ⟨.ref a, rfl, a, rfl, ⟨_, hS⟩, fun w nw => ?_⟩
    have get : ∀ (i : Nat) (x : V), (ns.map V.int)[i]? = some x → ∃ n, x = V.int n := fun i x hx => by
      rw [List.getElem?_map] at hx
      cases e : ns[i]? with
      | none => rw [e] at hx; cases hx
      | some z => rw [e] at hx; exact ⟨z, (Option.some.inj hx).symm⟩
    refine lc_list (K := K) (a := a) (xs := ns.map V.int) (fun i H1 => ∃ ws : List Int, H1 = upd H w (.lst (ws.map V.int)) ∧ ws.length ≤ i) ⟨[], rfl, Nat.le_refl _⟩ ?_ ?_ ?_
    · rintro i H1 _ ⟨ws, rfl, _⟩
      exact (same_upd nw).seq hS
    · rintro i x H1 hx ⟨ws, rfl, hl⟩
      obtain ⟨n, rfl⟩ := get i x hx
      have hi : i < ns.length := by
        have := (List.getElem?_eq_some_iff.mp hx).1
        rwa [List.length_map] at this
      refine ⟨rfl, .int n, rfl, n, rfl, 10, 18, rfl, rfl, pow18, _, _, rfl, rfl, _, rfl, ?_⟩
      refine ite2 (fun _ => ?_) (fun _ => ⟨ws, rfl, by omega⟩)
      refine ⟨.int n, rfl, n, rfl, 10, 18, rfl, rfl, pow18, _, _, rfl, rfl, _, upd_same, ?_, ?_⟩
      · rw [List.length_map]; exact small1000 (by omega)
      · exact ⟨ws ++ [(if n < 0 then -n else n) - 10 ^ 18], by rw [upd_upd, List.map_append]; rfl, by rw [List.length_append]; simp; omega⟩
    · rintro H1 ⟨ws, rfl, hl⟩
      rw [List.length_map] at hl
      intro p np
      have npw : p ≠ w := fun z => by rw [z, upd_same] at np; cases np
      have s1 : Same H (upd H w (.lst (ws.map V.int))) := same_upd nw
      have s2 : Same H (upd (upd H w (.lst (ws.map V.int))) p (.dK [])) := s1.trans (same_upd np)
      refine ⟨.ref w, rfl, .ref a, rfl, a, rfl, ⟨_, s2.seq hS⟩, fun c nc => ?_⟩
      refine lc_list (K := K) (a := a) (xs := ns.map V.int) (fun i H1 => ∃ cs : List Int, H1 = upd (upd (upd H w (.lst (ws.map V.int))) p (.dK [])) c (.lst (cs.map V.int)) ∧ cs.length ≤ i) ⟨[], rfl, Nat.le_refl _⟩ ?_ ?_ ?_
      · rintro i H1 _ ⟨cs, rfl, _⟩
        exact (s2.trans (same_upd nc)).seq hS
      · rintro i x H1 hx ⟨cs, rfl, hl⟩
        obtain ⟨n, rfl⟩ := get i x hx
        have hi : i < ns.length := by
          have := (List.getElem?_eq_some_iff.mp hx).1
          rwa [List.length_map] at this
        refine ⟨rfl, .int n, rfl, n, rfl, _, upd_same, ?_, ?_⟩
        · rw [List.length_map]; exact small1000 (by omega)
        · exact ⟨cs ++ [(if n < 0 then -n else n)], by rw [upd_upd, List.map_append]; rfl, by rw [List.length_append]; simp; omega⟩
      · rintro H1 ⟨cs, rfl, hl2⟩
        rw [List.length_map] at hl2
        have ncp : c ≠ p := fun z => by rw [z, upd_same] at nc; cases nc
        have ncw : c ≠ w := fun z => by rw [z, upd_ne npw.symm, upd_same] at nc; cases nc
        have nc0 : H c = none := by rw [upd_ne ncp, upd_ne ncw] at nc; exact nc
        have np0 : H p = none := by rw [upd_ne npw] at np; exact np
        refine ⟨by rw [upd_ne ncp.symm, upd_same], stK w c 0 0, rfl, by show 4 ≤ 15; decide, ?_⟩
        refine q _ p w c (fun b o e => ?_) np0 nw nc0 npw ncp.symm ncw.symm ⟨ncw, ws, cs, 0, 0, ?_, ?_, ?_, by omega, by omega, by omega, by omega⟩
        · rw [upd_ne (ne_of_none e np0), upd_ne (ne_of_none e nc0), upd_ne (ne_of_none e np0), upd_ne (ne_of_none e nw)]
          exact e
        · rw [upd_same, stK_new]
        · rw [upd_ne npw.symm, upd_ne ncw.symm, upd_ne npw.symm, upd_same]
        · rw [upd_ne ncp, upd_same]
/-- but the state and its list nothing is changed -/
def Kept (a w : Addr) (H H' : Hp) : Prop := ∀ b o, H b = some o → b ≠ a → b ≠ w → H' b = some o
theorem Kept.trans {a w : Addr} {H H1 H2 : Hp} (x : Kept a w H H1) (y : Kept a w H1 H2) : Kept a w H H2 := fun b o e h1 h2 => y b o (x b o e h1 h2) h1 h2
def spStirred : Sp := fun vs H Q _ => ∃ (a w c : Addr) (T : Nat), vs = [.ref a] ∧ St H a w c T ∧ T ≤ 1000000 ∧
  ∀ (H' : Hp) (d : Int), (∀ b o, H b = some o → b ≠ a → H' b = some o) → St H' a w c (T + 1) → (∀ r t, H a = some (.dK (stK w c r t)) → ∃ t', H' a = some (.dK (stK w c r t'))) → Q (.int d) H'
theorem scS : FnScope ["state", "turn", "found", "prime", "blend", "cell"] ["state"] (defScope sStirred) := ⟨rfl, rfl, rfl, by decide +kernel, rfl, by decide +kernel, by decide +kernel⟩
def primes : List Int := [2147483647, 2147483629, 2147483587, 2147483579]
theorem ok_stirred {f : Addr} {fd : FuncData} (F : Fun K "_law_stirred" "_law_stirred" sStirred f fd) (mint : mg "int" = none) : FnOk P w K mg base CX0 1 f fd ["state"] spStirred := by
  refine F.ok scS (fun vs H Q E h => ?_) (fun cdv A outer s H vs Q E hr h => ?_)
  · obtain ⟨a, w, c, T, rfl, _⟩ := h
    rfl
  · obtain ⟨a, w, c, T, rfl, hSt, hT, q⟩ := h
    have hu := hu_of hr
    refine ⟨_, pss_cons (ps_par (i := 1) (j := 2) rfl scS.nd rfl rfl (by decide) rfl rfl (pa_cons (pe_op op_add (pe_dget hu (pv 0) pe_str (fun _ _ => rfl)) pe_int) (pa_cons pe_int pa_nil)) (by rfl))
      (pss_cons (ps_dput hu (pv 0) pe_str (pv 1) rfl)
      (pss_cons (ps_for PassesOwn.never rfl (pi_list (pe_lst (pa_cons pe_int (pa_cons pe_int (pa_cons pe_int (pa_cons pe_int pa_nil)))))) (pg_name (i := 3) scS.nd rfl (.inl rfl))
        (pss_cons (ps_set (i := 4) scS.nd rfl (.inl rfl) (pe_op op_add (pe_op op_mul pe_int (pv 1)) (pe_op op_fdiv (pv 3) pe_int)))
        (pss_cons (ps_for PassesOwn.never rfl (pi_list (pe_dget hu (pv 0) pe_str (fun _ _ => rfl))) (pg_name (i := 5) scS.nd rfl (.inl rfl))
          (pss_one (ps_set (i := 4) scS.nd rfl (.inl rfl) (pe_op op_modN (pe_callTy call_int1 (by rfl) mint (by decide +kernel) (pa_cons (pe_op op_add (pe_op op_add (pe_op op_mul (pv 4) pe_int) (pv 5)) (pv 1)) pa_nil)) (pv 3)))))
        (pss_one (ps_set (i := 2) scS.nd rfl (.inl rfl) (pe_op op_add (pe_op op_mul (pv 2) pe_int) (pe_op op_modN (pe_callTy call_int1 (by rfl) mint (by decide +kernel) (pa_cons (pe_op op_pow (pv 4) pe_int) pa_nil)) (pv 3))))))))
      (pss_one (ps_ret (pv 2))))), ?_⟩
    obtain ⟨ncw, ws, cs, r, t, hA, hW, hC, hwl, hcl, ht0, htT⟩ := hSt
    refine ⟨.ref a, rfl, a, _, rfl, get_turn hA, t, 1, rfl, rfl, _, _, rfl, ?_⟩
    refine ⟨_, rfl, .ref a, rfl, a, _, rfl, put_turn hA, ?_⟩
    refine ⟨by show 4 ≤ sizeLine; decide, fun l nl => ?_⟩
    have nla : a ≠ l := fun z => by rw [← z, upd_same] at nl; cases nl
    have nlc : c ≠ l := fun z => by rw [← z, upd_ne, hC] at nl
                                    · cases nl
                                    · exact ne_of hC hA (by intro z; cases z)
    have nlw : w ≠ l := fun z => by rw [← z, upd_ne, hW] at nl
                                    · cases nl
                                    · exact ne_of hW hA (by intro z; cases z)
    have nca : c ≠ a := ne_of hC hA (by intro z; cases z)
    have nwa : w ≠ a := ne_of hW hA (by intro z; cases z)
    obtain ⟨H2, hH2⟩ : ∃ H2, H2 = upd (upd H a (.dK (stK w c r (t + 1)))) l (.lst (primes.map V.int)) := ⟨_, rfl⟩
    have A2 : H2 a = some (.dK (stK w c r (t + 1))) := by rw [hH2, upd_ne nla, upd_same]
    have W2 : H2 w = some (.lst (ws.map V.int)) := by rw [hH2, upd_ne nlw, upd_ne nwa]; exact hW
    have C2 : H2 c = some (.lst (cs.map V.int)) := by rw [hH2, upd_ne nlc, upd_ne nca]; exact hC
    have L2' : H2 l = some (.lst (primes.map V.int)) := by rw [hH2, upd_same]
    refine ⟨l, rfl, ⟨_, .inl (.inl upd_same)⟩, for_list (K := K) (a := l) (xs := primes.map V.int) (fun i σ H3 => ∃ (fd : Int) (y3 y4 y5 : Option V), σ = [some (.ref a), some (.int (t + 1)), some (.int fd), y3, y4, y5] ∧ H2 = H3) ⟨0, none, none, none, rfl, hH2⟩ ?_ ?_ ?_⟩
    · rintro i σ H3 _ ⟨_, _, _, _, _, rfl⟩
      exact .inl (.inl L2')
    · rintro i x σ H3 hx ⟨fd, y3, y4, y5, rfl, rfl⟩
      obtain ⟨pr, rfl, hp0, hp1⟩ : ∃ pr : Int, x = V.int pr ∧ 0 < pr ∧ pr < 2147483648 := by
        rw [List.getElem?_map] at hx
        cases e : primes[i]? with
        | none => rw [e] at hx; cases hx
        | some z =>
          rw [e] at hx
          have hm := List.mem_of_getElem? e
          have all : ∀ z ∈ primes, 0 < z ∧ z < 2147483648 := by decide
          exact ⟨z, (Option.some.inj hx).symm, all z hm⟩
      refine ⟨_, rfl, 48271, t + 1, rfl, rfl, .inl ⟨by decide, by decide⟩, _, rfl, _, 37, rfl, rfl, ⟨by decide, by decide⟩, _, _, rfl, rfl, ?_⟩
      refine ⟨.ref a, rfl, a, _, rfl, get_cells A2, c, rfl, ⟨_, .inl (.inl C2)⟩, for_list (K := K) (a := c) (xs := cs.map V.int) (fun i σ H3 => ∃ (bl : Int) (y5 : Option V), σ = [some (.ref a), some (.int (t + 1)), some (.int fd), some (.int pr), some (.int bl), y5] ∧ H2 = H3 ∧ bl.natAbs < 2 ^ 40) ⟨_, y5, rfl, rfl, ?_⟩ ?_ ?_ ?_⟩
      · show (48271 * (t + 1) + pr / 37).natAbs < 1099511627776
        omega
      · rintro i σ H3 _ ⟨_, _, _, rfl, _⟩
        exact .inl (.inl C2)
      · rintro i x σ H3 hx ⟨bl, y5, rfl, rfl, hbl⟩
        obtain ⟨n, rfl⟩ : ∃ n, x = V.int n := by
          rw [List.getElem?_map] at hx
          cases e : cs[i]? with
          | none => rw [e] at hx; cases hx
          | some z => rw [e] at hx; exact ⟨z, (Option.some.inj hx).symm⟩
        refine ⟨_, rfl, bl, 69621, rfl, rfl, .inr ⟨by decide, by decide⟩, _, rfl, _, n, rfl, rfl, _, rfl, _, t + 1, rfl, rfl, .inl ⟨_, rfl, ?_⟩⟩
        have hm1 : 0 ≤ (bl * 69621 + n + (t + 1)).fmod pr := Int.fmod_nonneg_of_pos _ hp0
        have hm2 : (bl * 69621 + n + (t + 1)).fmod pr < pr := Int.fmod_lt_of_pos _ hp0
        refine ⟨_, rfl, _, pr, rfl, rfl, by omega, _, some (.int n), rfl, rfl, ?_⟩
        show _ < 1099511627776
        omega
      · rintro σ H3 ⟨bl, y5, rfl, rfl, hbl⟩
        have hbl' : bl.natAbs < 1099511627776 := hbl
        refine ⟨_, rfl, fd, 2147483563, rfl, rfl, .inr ⟨by decide, by decide⟩, _, rfl, bl, 5, rfl, rfl, ⟨by decide, by decide, ?_⟩, .inl ⟨_, rfl, _, rfl, _, pr, rfl, rfl, by omega, _, _, rfl, rfl, ?_⟩⟩
        · show bl.natAbs < 18446744073709551616
          omega
        · exact ⟨_, _, _, _, rfl, rfl⟩
    · rintro σ H3 ⟨fd, y3, y4, y5, rfl, rfl⟩
      refine ⟨_, rfl, q H2 fd (fun b o e hb => ?_) ⟨ncw, ws, cs, r, t + 1, A2, W2, C2, hwl, hcl, by omega, by omega⟩ fun r' t' e => ?_⟩
      · have hbl : b ≠ l := fun z => by
          rw [z] at e hb
          rw [upd_ne hb, e] at nl
          cases nl
        rw [hH2, upd_ne hbl, upd_ne hb]
        exact e
      · rw [hA] at e
        obtain ⟨e1, e2⟩ : r = r' ∧ t = t' := by
          have e := HO.dK.inj (Option.some.inj e)
          unfold stK at e
          simp at e
          exact e
        exact ⟨t + 1, by rw [← e1]; exact A2⟩
/-- a draw: some d, 0 ≤ d < z -/
def spDraw : Sp := fun vs H Q _ => ∃ (a w c : Addr) (T : Nat) (z : Int), vs = [.ref a, .int z] ∧ St H a w c T ∧ T ≤ 1000000 ∧ 0 < z ∧ z.natAbs < 2 ^ 1000 ∧
  ∀ (H' : Hp) (d : Int), 0 ≤ d → d < z → Kept a w H H' → St H' a w c (T + 1) → Q (.int d) H'
theorem scD : FnScope ["state", "room", "found"] ["state", "room"] (defScope sDraw) := ⟨rfl, rfl, rfl, by decide +kernel, rfl, by decide +kernel, by decide +kernel⟩
theorem ok_draw {f fS : Addr} {fd fdS : FuncData} (F : Fun K "_law_draw" "_law_draw" sDraw f fd) (FS : Fun K "_law_stirred" "_law_stirred" sStirred fS fdS) (bS : Binds K fdS ["state"] []) (gS : mg "_law_stirred" = some (.ref fS)) (mint : mg "int" = none) :
    FnOk P w K mg base CX0 2 f fd ["state", "room"] spDraw := by
  have GS : FnOk P w K mg base CX0 1 fS fdS ["state"] spStirred := ok_stirred FS mint
  refine F.ok scD (fun vs H Q E h => ?_) (fun cdv A outer s H vs Q E hr h => ?_)
  · obtain ⟨a, w, c, T, z, rfl, _⟩ := h
    rfl
  · obtain ⟨a, w, c, T, z, rfl, hSt, hT, hz, hzb, q⟩ := h
    have hu := hu_of hr
    refine ⟨_, pss_cons (ps_if (pt_cmpR op_eq (pe_dget hu (pv 0) pe_str (fun _ _ => rfl)) pe_int (nomark _))
        (pss_one (ps_dput hu (pv 0) pe_str (pe_ifExp (pt_cmpR (op_neD hr.units) (pe_dget hu (pv 0) pe_str (fun _ _ => rfl)) (pe_lst pa_nil) (nomark _))
          (pe_bm PySem.F.plainAttrs_list PySem.F.slot_list_pop PySem.F.type_list_pop mt_popAt (pe_dget hu (pv 0) pe_str (fun _ _ => rfl)) (pa_cons pe_int pa_nil))
          (pe_call GS hr (by rfl) gS FS.kp bS .nil pass0 (pa_cons (pv 0) pa_nil))) rfl)) pss_nil)
      (pss_cons (ps_set (i := 2) scD.nd rfl (.inl rfl) (pe_op op_modN (pe_callTy call_int1 (by rfl) mint (by decide +kernel) (pa_cons (pe_dget hu (pv 0) pe_str (fun _ _ => rfl)) pa_nil)) (pv 1)))
      (pss_cons (ps_dput hu (pv 0) pe_str (pe_op op_fdivW (pe_dget hu (pv 0) pe_str (fun _ _ => rfl)) (pv 1)) rfl)
      (pss_one (ps_ret (pv 2))))), ?_⟩
    obtain ⟨ncw, ws, cs, r, t, hA, hW, hC, hwl, hcl, ht0, htT⟩ := hSt
    have nca : c ≠ a := ne_of hC hA (by intro z; cases z)
    have nwa : w ≠ a := ne_of hW hA (by intro z; cases z)
    have zdiv : CDivW r z → True := fun _ => trivial
    have cdiv : ∀ r1 : Int, CDivW r1 z := fun r1 => wide_div hz hzb (by decide) (by decide)
    have fin : ∀ (H1 : Hp) (ws1 : List Int) (r1 t1 : Int), H1 a = some (.dK (stK w c r1 t1)) → H1 w = some (.lst (ws1.map V.int)) → H1 c = some (.lst (cs.map V.int)) → ws1.length ≤ 63 → 0 ≤ t1 → t1 ≤ (T + 1 : Nat) → Kept a w H H1 →
        Q (.int (r1.fmod z)) (upd H1 a (.dK (stK w c (r1 / z) t1))) := fun H1 ws1 r1 t1 h1 h2 h3 h4 h5 h6 h7 =>
      q _ _ (Int.fmod_nonneg_of_pos _ hz) (Int.fmod_lt_of_pos _ hz) (fun b o e n1 n2 => by rw [upd_ne n1]; exact h7 b o e n1 n2)
        ⟨ncw, ws1, cs, r1 / z, t1, upd_same, by rw [upd_ne nwa]; exact h2, by rw [upd_ne nca]; exact h3, h4, hcl, h5, h6⟩
    refine ⟨.ref a, rfl, a, _, rfl, get_rest hA, rfl, _, rfl, ite2 (fun _ => ?_) (fun _ => ?_)⟩
    · refine ⟨.ref a, rfl, a, _, rfl, get_wide hA, Nat.zero_le _, fun l nl => ?_⟩
      have nal : a ≠ l := ne_of_none hA nl
      have nwl : w ≠ l := ne_of_none hW nl
      have ncl : c ≠ l := ne_of_none hC nl
      have A1 : (upd H l (.lst [])) a = some (.dK (stK w c r t)) := by rw [upd_ne nal]; exact hA
      have W1 : (upd H l (.lst [])) w = some (.lst (ws.map V.int)) := by rw [upd_ne nwl]; exact hW
      have C1 : (upd H l (.lst [])) c = some (.lst (cs.map V.int)) := by rw [upd_ne ncl]; exact hC
      have K1 : Kept a w H (upd H l (.lst [])) := fun b o e _ _ => by rw [upd_ne (ne_of_none e nl)]; exact e
      refine ⟨_, _, dp_ints (.inl (.inl W1)), dp_ints (ns := []) (.inl (.inl upd_same)), shaped_ints ws, shaped_ints [], _, rfl, ?_⟩
      rw [eqv_ints ws []]
      cases ws with
      | nil =>
        refine iteF ?_
        refine ⟨.ref a, rfl, a, w, c, T, rfl, ⟨ncw, [], cs, r, t, A1, W1, C1, hwl, hcl, ht0, htT⟩, hT, fun H2 d k2 s2 _ => ?_⟩
        obtain ⟨_, ws2, cs2, r2, t2, A2, W2, C2, hwl2, hcl2, ht2, htT2⟩ := s2
        have W2' : H2 w = some (.lst (([] : List Int).map V.int)) := k2 w _ W1 nwa
        have C2' : H2 c = some (.lst (cs.map V.int)) := k2 c _ C1 nca
        refine ⟨.ref a, rfl, a, _, rfl, put_rest A2, ?_⟩
        refine ⟨.ref a, rfl, a, _, rfl, get_rest upd_same, .inl ⟨_, rfl, _, rfl, d, z, rfl, rfl, by omega, ?_⟩⟩
        refine ⟨.ref a, rfl, a, _, rfl, get_rest upd_same, _, rfl, d, z, rfl, rfl, cdiv d, .ref a, rfl, a, _, rfl, put_rest upd_same, _, rfl, ?_⟩
        refine fin _ [] d t2 upd_same (by rw [upd_ne nwa]; exact W2') (by rw [upd_ne nca]; exact C2') (by simp) ht2 htT2 fun b o e n1 n2 => ?_
        rw [upd_ne n1]
        exact k2 b o (K1 b o e n1 n2) n1
      | cons n ws =>
        refine iteT ?_
        refine ⟨.ref a, rfl, a, _, rfl, get_wide A1, .inl ⟨rfl, _, .inl (.inl W1)⟩, ?_⟩
        refine ⟨w, _, 0, 0, .int n, rfl, rfl, W1, by decide, by decide, by simp [seqIndex?], rfl, ?_⟩
        have A2 : (upd (upd H l (.lst [])) w (.lst (ws.map V.int))) a = some (.dK (stK w c r t)) := by rw [upd_ne nwa.symm]; exact A1
        refine ⟨.ref a, rfl, a, _, rfl, put_rest A2, ?_⟩
        refine ⟨.ref a, rfl, a, _, rfl, get_rest upd_same, .inl ⟨_, rfl, _, rfl, n, z, rfl, rfl, by omega, ?_⟩⟩
        refine ⟨.ref a, rfl, a, _, rfl, get_rest upd_same, _, rfl, n, z, rfl, rfl, cdiv n, .ref a, rfl, a, _, rfl, put_rest upd_same, _, rfl, ?_⟩
        refine fin _ ws n t upd_same (by rw [upd_ne nwa]; exact upd_same) (by rw [upd_ne nca, upd_ne ncw]; exact C1) (by simp at hwl; omega) ht0 (by omega) fun b o e n1 n2 => ?_
        rw [upd_ne n1, upd_ne n2]
        exact K1 b o e n1 n2
    · refine ⟨.ref a, rfl, a, _, rfl, get_rest hA, .inl ⟨_, rfl, _, rfl, r, z, rfl, rfl, by omega, ?_⟩⟩
      refine ⟨.ref a, rfl, a, _, rfl, get_rest hA, _, rfl, r, z, rfl, rfl, cdiv r, .ref a, rfl, a, _, rfl, put_rest hA, _, rfl, ?_⟩
      exact fin _ ws r t hA hW hC hwl ht0 (by omega) fun b o e _ _ => e
end
end Dr15

set_option Elab.async false
set_option linter.all false
set_option maxRecDepth 100000
set_option maxHeartbeats 2000000
/-! Defs that want to know that no text of a list is being written around them; repr of lists and tuples. -/
namespace RepG
open PySem PySem.Spec PyProof.Rows L2 Cau

/-- like a def's promise, but only where nothing is being written around it -/
structure FnG (P : Program) (w : World) (K : PySem.W.Frag) (mg : Str → Option Value) (base : Heap) (CX : CXT) (k : Nat) (f : Addr) (fd : FuncData) (ps : List Str) (sp : Sp) : Prop where
  arity : ∀ vs H Q E, sp vs H Q E → vs.length = ps.length
  goes : ∀ (A : Around), A.guards = some [] → Room k A → ∀ (outer : List Env) (s : Shared) (H : Hp), Env0 P w K mg base A outer s H → ∀ (args : Args) (us : List Value) (vs : List V), BindsTo s fd args (ps.zip us) → Vals vs us →
    ∀ (Q : VK) (E : XK), sp vs H Q E → codeAny (model P w) A (.call (.ref f) args) (CR CX outer P w H s Q E) s

section
variable {P : Program} {w : World} {K : PySem.W.Frag} {mg : Str → Option Value} {base : Heap} {CX : CXT} {k : Nat} {f : Addr} {fd : FuncData} {ps : List Str} {sp : Sp}
theorem fnG_of (F : FnOk P w K mg base CX k f fd ps sp) : FnG P w K mg base CX k f fd ps sp :=
  ⟨F.len, fun A _ hr outer s H e args us vs hb r Q E h => F.run A outer s H args us vs Q E hr e hb r h⟩
/-- by its body -/
theorem okG {x qual : Str} {st : Stmt} {N : List Str} (F : Fun K x qual st f fd) (S : FnScope N ps (defScope st)) (len : ∀ vs H Q E, sp vs H Q E → vs.length = ps.length)
    (hbody : ∀ (cdv : Value) (A : Around) (outer : List Env) (s : Shared) (H : Hp) (vs : List V) (Q : VK) (E : XK), A.guards = some [] → Room k (A.deeper (envOfC qual (defScope st) s.heap.objs.size f cdv)) → sp vs H Q E →
      ∃ t, PSs (cxOf CX0 P w K mg base N qual (defScope st) f cdv A outer s H E).nox (defBody st) t ∧ t { nx := fun _ H' => Q .non H', rt := Q } (start N vs) H) : FnG P w K mg base CX0 (k + 1) f fd ps sp := by
  obtain ⟨_, _, _, _, _, _, cdv, _, _, rfl, lk, hcd⟩ := F.ex
  refine ⟨len, fun A g hr outer s H e args us vs hb r Q E h => ?_⟩
  refine LamX.run_ofS lk hcd S hr e hb r (len _ _ _ _ h) fun hr' => ?_
  obtain ⟨t, ht, q⟩ := hbody cdv A outer s H vs Q E g hr' h
  exact ⟨t, ht.nox, q⟩
end

section
variable {X : Cx} {CX : CXT} {k : Nat} {f : Addr} {fd : FuncData} {ps : List Str} {sp : Sp} {E : XK} {x : Str} {p pos : Pos} {e : Expr} {es : List Expr} {t : TA}
theorem goG {pins : List (Addr × Obj)} {σ : L2.St} {H : Hp} {s : Shared} {Q : VK} {us : List Value} {vs : List V} (F : FnG X.prog X.w X.K X.mg X.base CX k f fd ps sp) (g : X.A.guards = some []) (hr : Room k X.A) (hb : Binds X.K fd ps []) (hx : Passes CX X E)
    (I : Inv X pins σ H s) (r : Vals vs us) (h : sp vs H Q E) : wpAny (model X.prog X.w) X.A (call (.ref f) us) (EP X pins σ Q) X.xe s := by
  have hl : (us ++ []).length = ps.length := by rw [List.append_nil, ← r.length]; exact F.arity _ _ _ _ h
  have bt := hb s us I.kIn hl
  rw [List.append_nil] at bt
  refine wpAny_call (codeAny_mono (F.goes X.A g hr X.stack s H I.env0 ⟨us, []⟩ us vs bt r Q E h) ?_)
  rintro (e | (_ | _ | _ | u)) s' q
  · exact hx pins σ H s e s' I q
  all_goals first
    | exact I.after q
    | exact False.elim q
theorem pe_callG (F : FnG X.prog X.w X.K X.mg X.base CX k f fd ps sp) (g : X.A.guards = some []) (hr : Room k X.A) (hg : Gl X x) (hm : X.mg x = some (.ref f)) (hk : PySem.W.keepIn X.K (.ref f) = true) (hb : Binds X.K fd ps []) (hx : Passes CX X E)
    (ha : PA X (e :: es) t) (hdb : (x == ("__debug__" : Str)) = false := by decide) (he : starEach (e :: es) X.env = (false, eval e X.env) :: starEach es X.env := by rfl) (hpl : (backTo pos (starEach es X.env)).any (·.1) = false := by rfl) :
    PE X (.Call (.Name x p) (e :: es) [] pos) (tCall sp [] E t) := by
  constructor
  intro pins s σ H Q I h
  apply wpAny_Call_Name_kw
  apply ld_glob I hg hm _ hdb
  refine PySem.W.callWith_K (h₀ := X.base) I.ok.mod.kin hk (thn (ha.run pos pins s σ H _ I h) ?_) he hpl
  rintro us s1 ⟨vs, H1, I1, r, q⟩
  rw [List.append_nil] at q
  exact ⟨I1.kIn, goG F g hr hb hx I1 r q⟩
end

/-! ### repr -/
/-- how far a value is shown -/
def rRepr (K : PySem.W.Frag) : List V → Hp → VK → Prop := fun xs H Q => ∃ (v : V) (d : PyData), xs = [v] ∧ Dp K H v d ∧ d.showable = true ∧ d.hasDict = false ∧ d.depth ≤ 60 ∧ d.shown.length ≤ sizeLine ∧ Q (.str d.shown) H
theorem call_repr {X : Cx} (g : X.A.guards = some []) {k : Nat} (hr : Room k X.A) : CallR X (.builtin "repr") (rRepr X.K) := by
  intro pins s σ H xs us Q I r ⟨v, d, hv, hd, h1, h2, h3, h4, q⟩
  subst hv
  obtain ⟨u, hu, ru⟩ := r.one
  subst hu
  obtain ⟨as, rd⟩ := Dp.reads I d v u hd ru
  have hun := hr.un
  have done : ∀ t, EP X pins σ Q (.str d.shown t) { s with toks := s.toks + 1 } := fun t => ⟨.str d.shown, H, I.tok _, ⟨_, rfl⟩, q⟩
  cases rd with
  | none => exact PySem.P.repr_of_none (done _)
  | bool b => exact PySem.P.repr_of_bool (done _)
  | int i t => exact PySem.P.repr_of_int (by simpa [PyData.showable] using h1) (done _)
  | str y t => exact PySem.P.repr_of_str (done _) h4
  | list a1 a2 a3 a4 =>
    refine repr_of_reads' (.list a1 a2 a3 a4) h1 (PyData.noDict_hsm h2) g (by omega) (fun _ _ e => e) ?_ h4
    exact fun h' u tk hk => ⟨.str _, H, I.kept hk, ⟨_, rfl⟩, q⟩
  | tuple a1 a2 a3 a4 =>
    refine repr_of_reads' (.tuple a1 a2 a3 a4) h1 (PyData.noDict_hsm h2) g (by omega) (fun _ _ e => e) ?_ h4
    exact fun h' u tk hk => ⟨.str _, H, I.kept hk, ⟨_, rfl⟩, q⟩
  | dict a1 a2 a3 a4 a5 => simp [PyData.hasDict] at h2

/-! ### the end of a law row, whose def wants to know that nothing is being written -/
/-- the tables of code objects T, and the script at a where it is not part of the head -/
def topH (T : List Addr) (a : Addr) (on : Bool) (ob : Obj) (xs : List V) : Hp := fun b => if b ∈ T then some (.tbl #[]) else if b = a ∧ on = true then some (.frz ob (.lst xs)) else none
section
variable {T : List Addr} {a b : Addr} {on : Bool} {ob : Obj} {xs : List V}
theorem topH_tab (h : b ∈ T) : topH T a on ob xs b = some (.tbl #[]) := if_pos h
theorem topH_scr (h : a ∉ T) (ho : on = true) : topH T a on ob xs a = some (.frz ob (.lst xs)) := (if_neg h).trans (if_pos ⟨rfl, ho⟩)
theorem topH_cases : (b ∈ T ∧ topH T a on ob xs b = some (.tbl #[])) ∨ (b = a ∧ on = true ∧ topH T a on ob xs b = some (.frz ob (.lst xs))) ∨ topH T a on ob xs b = none := by
  by_cases h : b ∈ T
  · exact .inl ⟨h, topH_tab h⟩
  · by_cases h2 : b = a ∧ on = true
    · exact .inr (.inl ⟨h2.1, h2.2, (if_neg h).trans (if_pos h2)⟩)
    · exact .inr (.inr ((if_neg h).trans (if_neg h2)))
end
theorem top_goes {P : Program} {w : World} {K : PySem.W.Frag} {mg mb : Str → Option Value} {CX : CXT} {k : Nat} {fa a : Addr} {cs : List (Addr × Addr)} {fd : FuncData} {x : Str} {sp : Sp} {s : Shared} {vs : List Value} {ns : List Int}
    (kin : K.In s.heap) (glob : s.heap.Ns mainGlobals mg) (blt : s.heap.Ns builtinsNs mb) (boot : ∀ x : Str, x ≠ "__name__" → mb x = bootBuiltins x) (lim : s.heap.NoLimit) (gens : s.gens = #[])
    (tab : ∀ p ∈ cs, s.heap.get? p.2 = some { cls := .none, data := .fields #[] }) (tabK : ∀ p ∈ cs, K.lookup p.2 = none) (code : ∀ p ∈ cs, PySem.W.CodeHd s.heap p.1 p.2)
    (bm : ∃ (m : Addr) (o : Obj), mg "__builtins__" = some (.ref m) ∧ m ≠ builtinsNs ∧ s.heap.get? m = some o ∧ o.cls = .type "module" ∧ o.dict = some builtinsNs ∧ o.data = .plain)
    (scr : s.heap.get? a = some { cls := .type "list", data := .seq vs.toArray }) (wh : IntsAre vs ns) (len : ns.length ≤ sizeLine) (hr : Room k callerA)
    (F : ∀ base : Heap, K.In base → base.Ns mainGlobals mg → (∀ p ∈ cs, LamX.TabB base mg p.1 p.2) → FnG P w K mg base CX k fa fd [x] sp) (bind : ∀ (s : Shared) (u : Value), BindsTo s fd ⟨[u], []⟩ [(x, u)])
    (hsp : ∀ H : Hp, (∀ p ∈ cs, H p.2 = some (.tbl #[])) → SqL K H a (ns.map V.int) → sp [.ref a] H (fun v _ => v = .bl true) fun _ _ _ => False) (hCX : ∀ H e s', CX [] H s (fun _ _ _ => False) e s' → False) :
    codeAny (model P w) callerA (.call (.ref fa) ⟨[.ref a], []⟩) (fun r s' => r = .ok (.ret (.bool true)) ∧ OldK s.heap s'.heap ∧ s'.os = s.os ∧ AllBare s'.gens) s := by
  obtain ⟨T, hT⟩ : ∃ T, T = cs.map (·.2) := ⟨_, rfl⟩
  obtain ⟨ob, hob⟩ : ∃ ob : Obj, ob = { cls := .type "list", data := .seq vs.toArray } := ⟨_, rfl⟩
  rw [← hob] at scr
  have inT : ∀ p ∈ cs, p.2 ∈ T := fun p hp => by rw [hT]; exact List.mem_map_of_mem hp
  have ofT : ∀ b, b ∈ T → ∃ p ∈ cs, p.2 = b := fun b hb => by rw [hT] at hb; exact List.mem_map.mp hb
  have tabT : ∀ b, b ∈ T → s.heap.get? b = some { cls := .none, data := .fields #[] } := fun b hb => by
    obtain ⟨p, hp, rfl⟩ := ofT b hb
    exact tab p hp
  have aT : a ∉ T := fun z => by
    have q := (tabT a z).symm.trans scr
    rw [hob] at q
    cases q
  obtain ⟨H, hH⟩ : ∃ H, H = topH T a (K.lookup a).isNone ob (ns.map V.int) := ⟨_, rfl⟩
  have ways : ∀ b, (b ∈ T ∧ H b = some (.tbl #[])) ∨ (b = a ∧ K.lookup a = none ∧ H b = some (.frz ob (.lst (ns.map V.int)))) ∨ H b = none := fun b => by
    rw [hH]
    rcases topH_cases (T := T) (a := a) (b := b) (on := (K.lookup a).isNone) (ob := ob) (xs := ns.map V.int) with z | ⟨z1, z2, z3⟩ | z
    · exact .inl z
    · exact .inr (.inl ⟨z1, Option.isNone_iff_eq_none.mp z2, z3⟩)
    · exact .inr (.inr z)
  -- what stands still in the head is not spoken of
  have off : ∀ {b : Addr} {o : Obj}, s.heap.get? b = some o → (∀ us m, o.data ≠ .seq us m) → o.data ≠ .fields #[] → H b = none := fun {b o} e n1 n2 => by
    rcases ways b with ⟨z, _⟩ | ⟨z, _, _⟩ | z
    · rw [tabT b z] at e
      cases e
      exact (n2 rfl).elim
    · rw [z, scr] at e
      cases e
      rw [hob] at n1
      exact (n1 _ _ rfl).elim
    · exact z
  have offD : ∀ {b : Addr} {o : Obj} {es : Array DictEntry} {m : Nat}, s.heap.get? b = some o → o.data = .dict es m → H b = none := fun e d => off e (fun _ _ z => by rw [d] at z; cases z) fun z => by rw [d] at z; cases z
  have offN : ∀ {b : Addr} {m : Str → Option Value}, s.heap.Ns b m → (hidT s.heap H).Ns b m := fun ⟨o, es, ep, e, d, r⟩ => ⟨o, es, ep, hidT_get e (offD e d), d, r⟩
  have kinB : K.In (hidT s.heap H) := fun b o e => hidT_get (kin b o e) (by
    rcases ways b with ⟨z, _⟩ | ⟨z, y, _⟩ | z
    · obtain ⟨p, hp, rfl⟩ := ofT b z
      rw [tabK p hp] at e
      cases e
    · rw [z, y] at e
      cases e
    · exact z)
  have mod : L2.Mod K mg (hidT s.heap H) := by
    obtain ⟨mc, l1, l2⟩ := lim
    exact ⟨kinB, offN glob, ⟨mb, offN blt, boot⟩, ⟨mc, offN l1, l2⟩⟩
  have globD : ∃ (o : Obj) (es : Array DictEntry) (ep : Nat), s.heap.get? mainGlobals = some o ∧ o.data = .dict es ep := by
    obtain ⟨o, es, ep, e, d, _⟩ := glob
    exact ⟨o, es, ep, e, d⟩
  have TB : ∀ p ∈ cs, LamX.TabB (hidT s.heap H) mg p.1 p.2 := fun p hp => by
    have tp := tab p hp
    obtain ⟨og, es, ep, eg, dg⟩ := globD
    have c1 : PySem.W.CodeHd (hidT s.heap H) p.1 p.2 := by
      obtain ⟨o, us, file, tf, flags, tg, inF, text, tt, e, r1, r2, r3, rest⟩ := code p hp
      refine ⟨o, us, file, tf, flags, tg, inF, text, tt, hidT_get e (off e ?_ ?_), r1, r2, r3, rest⟩
      · exact fun _ _ z => by rw [r2] at z; cases z
      · intro z
        rw [r2] at z
        cases z
        simp at r3
    have c2 : (hidT s.heap H).BuiltinsAt mg p.2 := by
      obtain ⟨m, o, b1, b2, b3, b4, b5, b6⟩ := bm
      have d1 : m ≠ mainGlobals := fun z => by
        rw [z, eg] at b3
        cases b3
        rw [dg] at b6
        cases b6
      have d2 : m ≠ p.2 := fun z => by
        rw [z, tp] at b3
        cases b3
        cases b6
      refine ⟨m, o, b1, b2, d1, d2, hidT_get b3 (off b3 ?_ ?_), b4, b5, b6⟩
      · exact fun _ _ z => by rw [b6] at z; cases z
      · exact fun z => by rw [b6] at z; cases z
    refine ⟨c1, c2, fun z => ?_⟩
    rw [z, tp] at eg
    cases eg
    cases dg
  have hok : HOk P w H s.heap := fun b o q => by
    rcases ways b with ⟨z, y⟩ | ⟨z, _, y⟩ | z
    · rw [y] at q
      cases q
      exact tabT b z
    · rw [y] at q
      cases q
      subst z
      exact ⟨scr, by rw [List.length_map]; exact len, vs, _, vals_ints wh, by rw [scr, hob]⟩
    · rw [z] at q
      cases q
  have e0 : Env0 P w K mg (hidT s.heap H) callerA [] s H :=
    { frames := rfl, mod := mod, bs := fun _ _ e => of_hidT e, bsz := Nat.le_of_eq (hidT_size _ _), funs := trivial, frf := fun _ z => absurd z List.not_mem_nil, hok := hok, bare := .of_eq gens }
  have tabH : ∀ p ∈ cs, H p.2 = some (.tbl #[]) := fun p hp => by
    rw [hH]
    exact topH_tab (inT p hp)
  have seq : SqL K H a (ns.map V.int) := by
    cases q : K.lookup a with
    | none => exact .inl (.inr ⟨ob, by rw [hH]; exact topH_scr aT (by rw [q]; rfl)⟩)
    | some o =>
      have e := (kin a o q).symm.trans scr
      cases e
      exact .inr ⟨_, vs.toArray, _, q, by rw [hob], by rw [hob], by rw [hob], by rw [List.size_toArray, wh.length]; exact len, by simpa using vals_ints wh⟩
  refine codeAny_mono ((F _ kinB (offN glob) TB).goes callerA rfl hr [] s H e0 ⟨[.ref a], []⟩ [.ref a] [.ref a] (bind s _) (.cons rfl .nil) _ _ (hsp H tabH seq)) ?_
  rintro (e | (_ | _ | _ | u)) s' z
  · exact (hCX H e s' z).elim
  all_goals first
    | exact False.elim z
    | skip
  obtain ⟨v, H', os, bare, un, hok', rv, q⟩ := z
  cases (show v = .bl true from q)
  cases (show u = Value.bool true from rv)
  have same : ∀ b o, b ∉ T → s.heap.get? b = some o → s'.heap.get? b = some o := fun b o nb e => by
    rcases ways b with ⟨z, _⟩ | ⟨_, _, y⟩ | z
    · exact (nb z).elim
    · obtain ⟨e1, _⟩ := hok b _ y
      obtain ⟨e2, _⟩ := hok' b _ (un.frzs b ob _ y)
      exact (e.symm.trans e1) ▸ e2
    · exact un.keep b o e z (fun y => List.not_mem_nil y) List.not_mem_nil
  have grown : ∀ b, b ∈ T → ∃ more : Array Value, s'.heap.get? b = some { cls := .none, data := .fields more } := fun b hb => by
    obtain ⟨p, hp, rfl⟩ := ofT b hb
    obtain ⟨more, y⟩ := un.tbls p.2 #[] (tabH p hp)
    exact ⟨_, hok' p.2 _ y⟩
  refine ⟨rfl, ⟨fun b o e => ?_, fun b o e => ?_⟩, os, bare⟩
  · by_cases hb : b ∈ T
    · obtain ⟨more, y⟩ := grown b hb
      obtain ⟨p, hp, rfl⟩ := ofT b hb
      rw [tab p hp] at e
      cases e
      exact .inr (.inl ⟨((code p hp).tab (tab p hp)).isCodeTable, rfl, #[], more, rfl, by rw [Array.empty_append]; exact y⟩)
    · exact .inl (same b o hb e)
  · by_cases hb : b ∈ T
    · obtain ⟨more, y⟩ := grown b hb
      exact ⟨_, y⟩
    · exact ⟨o, same b o hb e⟩
/-- what is known of the law's promise at the head's heap h -/
def LawG (l : PySem.W.OpenLaw) (w : World) (K : PySem.W.Frag) (CX : CXT) (k n : Nat) (x : Str) (mg : Str → Option Value) (fa : Addr) (h : Heap) : Prop :=
  ∃ (fd : FuncData) (cs : List (Addr × Addr)) (sp : Sp), (∀ p ∈ cs, h.get? p.2 = some { cls := .none, data := .fields #[] } ∧ K.lookup p.2 = none ∧ PySem.W.CodeHd h p.1 p.2) ∧ (∀ (s : Shared) (u : Value), BindsTo s fd ⟨[u], []⟩ [(x, u)]) ∧
    (∀ (H : Hp) (a : Addr) (ns : List Int), ns.length ≤ n → (∀ p ∈ cs, H p.2 = some (.tbl #[])) → SqL K H a (ns.map V.int) → sp [.ref a] H (fun v _ => v = .bl true) fun _ _ _ => False) ∧
    ∀ base : Heap, K.In base → base.Ns mainGlobals mg → (∀ p ∈ cs, LamX.TabB base mg p.1 p.2) → FnG l.prog w K mg base CX k fa fd [x] sp
theorem walk_G {l : PySem.W.OpenLaw} {n k : Nat} {q : Program} {loose : List Str} {XP : (Str → Option Value) → Heap → Prop} {YP : World → Heap → Prop} {d : DefRec} {K : PySem.Params → PySem.W.Frag} {CX : World → CXT} {x : Str} {xs : List Str}
    (h1 : l.most = some n) (h2 : n ≤ sizeLine) (h3 : d.params.defaults = []) (hr : Room k callerA) (hrec : (xs.all fun x => (recsOf q).any fun e => e.name == x) = true) (hY : ∀ (w : World) (h : Heap), YP w h → (K w.params).In h)
    (F : ∀ (w : World) (mg : Str → Option Value) (fa : Addr) (h : Heap), YP w h → (K w.params).In h → h.Ns mainGlobals mg → mg d.name = some (.ref fa) →
      (∀ x ∈ xs, ∀ c P : Addr, PySem.W.tabIn (K w.params) x = some (c, P) → PySem.W.CodeHd h c P ∧ h.get? P = some { cls := .none, data := .fields #[] }) → LawG l w (K w.params) (CX w) k n x mg fa h)
    (hCX : ∀ (w : World) (H : Hp) (s : Shared) (e : Value) (s' : Shared), CX w [] H s (fun _ _ _ => False) e s' → False) :
    PySem.W.WalkO q loose XP YP l.row.toRowW d [] (fun f vs => PySem.call f vs) := by
  apply Att.attach_callB h1 h3
  intro w s₀ s₁ mg mb fa o pm cd doc a vs ns G Y ho hd hcd hmg hobj hints hlen hbits hg
  have KX := hY w _ Y
  obtain ⟨fd, cs, sp, hT, hb, hsp, hF⟩ := F w mg fa _ Y KX G.T.g hmg fun y hy c p ht => by
    have any := List.all_eq_true.mp hrec y hy
    have some' : ((recsOf q).find? fun e => e.name == y).isSome = true := by rw [List.find?_isSome]; exact List.any_eq_true.mp any
    obtain ⟨dr, hdr⟩ := Option.isSome_iff_exists.mp some'
    exact PySem.W.tab_of G.T KX hdr ht
  exact top_goes KX G.T.g G.T.b G.T.builtins G.T.nolimit hg (fun p hp => (hT p hp).1) (fun p hp => (hT p hp).2.1) (fun p hp => (hT p hp).2.2) G.T.bmain hobj hints (Nat.le_trans hlen h2) hr hF hb (fun H hH hS => hsp H a ns hlen hH hS) fun H e s' => hCX w H s₁ e s'
end RepG

set_option Elab.async false
set_option linter.all false
set_option maxRecDepth 100000
set_option maxHeartbeats 2000000
namespace Y1
open PySem PySem.Spec PyProof.Rows L2 Cau Dr15
abbrev sIsWhole : Stmt := topS 10
abbrev sTupleOf : Stmt := topS 11
abbrev sIsList : Stmt := topS 12
abbrev sIsName : Stmt := topS 13
/-! ### signs of a name -/
def letT : Str := "abcdefghijklmnopqrstuvwxyz"
def digT : Str := "0123456789"
def letS (c : Nat) : Bool := decide (c ∈ letT.cps.toList)
def signS (c : Nat) : Bool := letS c || decide (c ∈ digT.cps.toList)
def nameS (s : Str) : Bool := decide (1 ≤ s.cps.size ∧ s.cps.size ≤ 8) && letS (s.cps.getD 0 0) && s.cps.toList.all signS
/-- the text of a value that is one -/
def Tx (K : PySem.W.Frag) (H : Hp) (x : V) (o : Option Str) : Prop := (∃ s : Str, x = .str s ∧ o = some s ∧ s.length ≤ 4000 ∧ PyData.strOk s = true) ∨ (o = none ∧ ∃ t, TyX K H x (.type t) ∧ kitB t "str" = some false)
def nameO : Option Str → Bool
  | some s => nameS s
  | none => false
def spName (K : PySem.W.Frag) : Sp := fun vs H Q _ => ∃ (x : V) (o : Option Str), vs = [x] ∧ Tx K H x o ∧ ∀ H', Same H H' → Q (.bl (nameO o)) H'
section
variable {P : Program} {w : World} {K : PySem.W.Frag} {mg : Str → Option Value} {base : Heap}
theorem iteT2 {c : Bool} {a b : Prop} (hc : c = true) (h : a) : if c = true then a else b := by rw [hc]; exact h
theorem iteF2 {c : Bool} {a b : Prop} (hc : c = false) (h : b) : if c = true then a else b := by rw [hc]; exact h
theorem scN : FnScope ["value", "sign"] ["value"] (defScope sIsName) := ⟨rfl, rfl, rfl, by decide +kernel, rfl, by decide +kernel, by decide +kernel⟩
theorem ok_name {f : Addr} {fd : FuncData} (F : Fun K "is_name" "is_name" sIsName f fd) (mi : mg "isinstance" = none) (ms : mg "str" = none) (ml : mg "len" = none) (ma : mg "all" = none)
    {t1 t2 : Tok} (gl : mg "LETTERS" = some (.str letT t1)) (gd : mg "DIGITS" = some (.str digT t2)) : FnOk P w K mg base CX0 1 f fd ["value"] (spName K) := by
  refine F.ok scN (fun vs H Q E h => ?_) (fun cdv A outer s H vs Q E hr h => ?_)
  · obtain ⟨x, o, rfl, _⟩ := h
    rfl
  · obtain ⟨x, o, rfl, hx, q⟩ := h
    refine ⟨_, pss_cons (ps_if (PW.pt (pw_or (pt_not (pt_val (pe_callB call_isi (by rfl) mi (by decide +kernel) (pa_cons (pv 0) (pa_cons (pe_bltn (v := .ty "str") (by rfl) ms (by decide +kernel) rfl) pa_nil)))))
        (pw_or1 (pt_not (pt_chain op_le op_le pe_int (pe_callB call_len_str (by rfl) ml PySem.boot_len (pa_cons (pv 0) pa_nil)) pe_int))))) (pss_one (ps_ret pe_bl)) pss_nil)
      (pss_one (ps_ret (pe_and (pe_cmpR op_inS (pe_item_str (pv 0) pe_int (fun _ _ => rfl)) (pe_glob (v := .str letT) (by rfl) gl ⟨_, rfl⟩) (by rfl))
        (pe_one (pe_callB (cr_all rfl) (by rfl) ma (by decide +kernel) (pa_cons
          (pe_lc (own := [("sign", 1)]) (g := gName 1) (tt := tYes) rfl scN.nd (pi_str (pv 0))
            (blkOk_by (own := [("sign", 1)]) (N := ["value", "sign"]) (sc := defScope sIsName) (by decide +kernel))
            (fun _ _ _ _ _ => pg_name (i := 1) scN.nd rfl (.inl rfl)) (fun _ _ _ _ _ => pts_nil)
            (fun _ _ _ _ _ => pe_or (pe_cmpR op_inS (pv 1) (pe_glob (v := .str letT) (by rfl) gl ⟨_, rfl⟩) (by rfl)) (pe_one (pe_cmpR op_inS (pv 1) (pe_glob (v := .str digT) (by rfl) gd ⟨_, rfl⟩) (by rfl))))) pa_nil)))))), ?_⟩
    have len0 : ∀ s : Str, s.length = s.cps.size := fun _ => rfl
    rcases hx with ⟨z, rfl, rfl, hz4, hzo⟩ | ⟨rfl, t, ht, hb⟩
    · have hz : z.length ≤ sizeLine := by rw [sizeLine_eq]; omega
      refine ⟨_, rfl, .str z, .ty "str", .type "str", .type "str", true, rfl, .ty _, .base (.str z), kit_ty (by decide +kernel), true, rfl, iteF ?_⟩
      refine ⟨_, rfl, z, rfl, hz, 1, _, rfl, rfl, _, rfl, ?_⟩
      have q' : ∀ b H', nameS z = b → Same H H' → Q (.bl b) H' := fun b H' e sm => by
        subst e
        exact q H' sm
      by_cases h1 : 1 ≤ z.cps.size
      · refine iteT2 (by rw [len0]; exact decide_eq_true (by omega)) ?_
        refine ⟨_, 8, rfl, rfl, _, rfl, ?_⟩
        by_cases h8 : z.cps.size ≤ 8
        · have e8 : decide (((z.length : Nat) : Int) ≤ 8) = true := by rw [len0]; exact decide_eq_true (by omega)
          rw [e8]
          refine iteF ?_
          obtain ⟨c, hc⟩ : ∃ c, z.cps[0]? = some c := ⟨_, Array.getElem?_eq_getElem (by omega)⟩
          refine ⟨_, rfl, z, 0, c, rfl, rfl, by decide, by decide, by rw [len0]; omega, hc, c, letT, rfl, rfl, _, rfl, ?_⟩
          have hd0 : z.cps.getD 0 0 = c := by
            rw [Array.getD_eq_getD_getElem?, hc]
            rfl
          by_cases hl : c ∈ letT.cps.toList
          · refine iteT2 (decide_eq_true hl) ?_
            refine ⟨_, rfl, z, rfl, fun D nD => ?_⟩
            refine lc_it walk_str (fun i H1 => ∃ bs : List Bool, H1 = upd H D (.lst (bs.map V.bl)) ∧ bs = (z.cps.toList.take i).map signS) ⟨[], rfl, rfl⟩ (fun _ _ _ _ => trivial) ?_ ?_
            · rintro i x H1 H2 hi ⟨bs, rfl, hbs⟩ ⟨rfl, c1, hc1, rfl⟩
              have hil : bs.length < 9 := by rw [hbs, List.length_map, List.length_take]; omega
              have step : (z.cps.toList.take (i + 1)).map signS = bs ++ [signS c1] := by
                rw [hbs, List.take_succ, List.map_append, Array.getElem?_toList, hc1]
                rfl
              refine ⟨rfl, _, rfl, c1, letT, rfl, rfl, _, rfl, ?_⟩
              have put : ∀ b, signS c1 = b → ∃ acc, (upd H D (.lst (bs.map V.bl))) D = some (.lst acc) ∧ acc.length < sizeLine ∧ ∃ bs', upd (upd H D (.lst (bs.map V.bl))) D (.lst (acc ++ [V.bl b])) = upd H D (.lst (bs'.map V.bl)) ∧ bs' = (z.cps.toList.take (i + 1)).map signS := fun b e => by
                refine ⟨_, upd_same, ?_, bs ++ [b], ?_, by rw [step, e]⟩
                · rw [List.length_map]; exact small1000 (by omega)
                · rw [upd_upd, List.map_append]; rfl
              refine ite2 (fun e => put _ (by unfold signS letS; rw [of_decide_eq_true e |> decide_eq_true]; rfl)) (fun e => ?_)
              refine ⟨_, rfl, c1, digT, rfl, rfl, put _ ?_⟩
              unfold signS letS
              rw [eq_false_of_ne_true e]
              rfl
            · rintro H1 ⟨bs, rfl, hbs⟩
              refine ⟨D, bs, rfl, .inl (.inl upd_same), q' _ _ ?_ (same_upd nD)⟩
              have e : z.cps.size = z.cps.toList.length := by simp
              rw [e, List.take_length] at hbs
              unfold nameS
              rw [hd0, decide_eq_true (show 1 ≤ z.cps.size ∧ z.cps.size ≤ 8 from ⟨h1, h8⟩), show letS c = true from decide_eq_true hl, hbs, List.all_map]
              rfl
          · refine iteF2 (decide_eq_false hl) (q' _ _ ?_ fun _ _ e => e)
            unfold nameS
            rw [hd0, show letS c = false from decide_eq_false hl]
            simp
        · have e8 : decide (((z.length : Nat) : Int) ≤ 8) = false := by rw [len0]; exact decide_eq_false (by omega)
          rw [e8]
          refine iteT (q' _ _ ?_ fun _ _ e => e)
          unfold nameS
          rw [decide_eq_false (show ¬ (1 ≤ z.cps.size ∧ z.cps.size ≤ 8) by omega)]
          rfl
      · refine iteF2 (by rw [len0]; exact decide_eq_false (by omega)) ⟨_, rfl, iteT (q' _ _ ?_ fun _ _ e => e)⟩
        unfold nameS
        rw [decide_eq_false (show ¬ (1 ≤ z.cps.size ∧ z.cps.size ≤ 8) by omega)]
        rfl
    · exact ⟨_, rfl, x, .ty "str", .type t, .type "str", false, rfl, .ty _, ht, kit_ty hb, false, rfl, iteT (q _ fun _ _ e => e)⟩
/-! ### lists of texts as data -/
theorem canLay_strs : ∀ xs : List Str, (∀ x ∈ xs, PyData.strOk x = true) → PyData.canLayAll0 (xs.map PyData.str) = true
  | [], _ => by simp [PyData.canLayAll0]
  | x :: r, h => by simp [PyData.canLayAll0, PyData.canLay0, h x List.mem_cons_self, canLay_strs r fun y hy => h y (List.mem_cons_of_mem _ hy)]
theorem depth_strs : ∀ xs : List Str, PyData.depthAll (xs.map PyData.str) = 0
  | [] => by simp [PyData.depthAll]
  | n :: r => by simp [PyData.depthAll, PyData.depth, depth_strs r]
theorem shaped_strs {xs : List Str} (h : ∀ x ∈ xs, PyData.strOk x = true) : SeqAt.shaped (.list (xs.map PyData.str)) = true := by
  unfold SeqAt.shaped
  simp only [PyData.canLay0, PyData.depth, canLay_strs xs h, depth_strs]
  decide
theorem dpAll_strs {K : PySem.W.Frag} {H : Hp} : ∀ xs : List Str, DpAll K H (xs.map V.str) (xs.map PyData.str)
  | [] => .nil
  | n :: r => .cons (.str n) (dpAll_strs r)
theorem dp_strs {K : PySem.W.Frag} {H : Hp} {l : Addr} {xs : List Str} (h : SqL K H l (xs.map V.str)) : Dp K H (.ref l) (.list (xs.map PyData.str)) := .lst h (dpAll_strs xs)
theorem dp_nil {K : PySem.W.Frag} {H : Hp} {l : Addr} (h : H l = some (.lst [])) : Dp K H (.ref l) (.list []) := .lst (.inl (.inl h)) .nil
theorem shaped_nil : SeqAt.shaped (.list []) = true := by decide
theorem eqv_nil {α : Type} (f : α → PyData) : ∀ xs : List α, PyData.eqv (.list (xs.map f)) (.list []) = xs.isEmpty
  | [] => rfl
  | x :: r => by simp [PyData.eqv, PyData.eqvAll]
/-! ### the law's look at a name -/
theorem sign_mem (c : Nat) : decide (c ∈ (letT ++ digT).cps.toList) = signS c := by
  have e : (letT ++ digT).cps.toList = letT.cps.toList ++ digT.cps.toList := Array.toList_append
  unfold signS letS
  rw [e, Bool.eq_iff_iff]
  simp
end
end Y1

set_option Elab.async false
set_option linter.all false
set_option maxRecDepth 100000
set_option maxHeartbeats 2000000
namespace Y2
open PySem PySem.Spec PyProof.Rows L2 Cau Dr15 Y1
abbrev sIsDeed : Stmt := topS 18
/-! ### values -/
def AtomV : V → Bool
  | .non | .bl _ => true
  | .int i => decide (0 ≤ i ∧ i < 10)
  | .str s => decide (s.length ≤ 4000) && PyData.strOk s
  | _ => false
def txtOf : V → Option Str
  | .str s => some s
  | _ => none
def nameV (v : V) : Bool := nameO (txtOf v)
theorem tx_atom {K : PySem.W.Frag} {H : Hp} {v : V} (h : AtomV v = true) : Tx K H v (txtOf v) := by
  cases v with
  | non => exact .inr ⟨rfl, "NoneType", .base .non, by decide +kernel⟩
  | bl b => exact .inr ⟨rfl, "bool", .base (.bl b), by decide +kernel⟩
  | int i => exact .inr ⟨rfl, "int", .base (.int i), by decide +kernel⟩
  | str s =>
    unfold AtomV at h
    simp only [Bool.and_eq_true, decide_eq_true_eq] at h
    exact .inl ⟨s, rfl, rfl, h.1, h.2⟩
  | _ => cases h
theorem flat_atom {v : V} (h : AtomV v = true) : flatV v = true := by
  cases v <;> first | rfl | cases h
/-- no tuple -/
inductive NotTup (H : Hp) : V → Prop
  | atom {v : V} (h : AtomV v = true) : NotTup H v
  | lst {p : Addr} {xs : List V} (h : H p = some (.lst xs)) : NotTup H (.ref p)
  | dK {p : Addr} {kvs : List (Key × V)} (h : H p = some (.dK kvs)) : NotTup H (.ref p)
/-- neither list nor tuple -/
inductive NotSeq (H : Hp) : V → Prop
  | atom {v : V} (h : AtomV v = true) : NotSeq H v
  | dK {p : Addr} {kvs : List (Key × V)} (h : H p = some (.dK kvs)) : NotSeq H (.ref p)
theorem NotTup.same {H H' : Hp} {v : V} (h : NotTup H v) (s : Same H H') : NotTup H' v := by
  cases h with
  | atom h => exact .atom h
  | lst h => exact .lst (s _ _ h)
  | dK h => exact .dK (s _ _ h)
theorem NotSeq.same {H H' : Hp} {v : V} (h : NotSeq H v) (s : Same H H') : NotSeq H' v := by
  cases h with
  | atom h => exact .atom h
  | dK h => exact .dK (s _ _ h)
section
variable {K : PySem.W.Frag} {H H' : Hp} {v : V} {p : Addr} {xs : List V}
theorem atom_ty (h : AtomV v = true) : ∃ t, TyX K H v (.type t) ∧ kitB t "tuple" = some false ∧ kitB t "list" = some false := by
  cases v with
  | non => exact ⟨"NoneType", .base .non, by decide +kernel, by decide +kernel⟩
  | bl b => exact ⟨"bool", .base (.bl b), by decide +kernel, by decide +kernel⟩
  | int i => exact ⟨"int", .base (.int i), by decide +kernel, by decide +kernel⟩
  | str s => exact ⟨"str", .base (.str s), by decide +kernel, by decide +kernel⟩
  | _ => cases h
theorem NotTup.ty (h : NotTup H v) : ∃ t, TyX K H v (.type t) ∧ kitB t "tuple" = some false := by
  cases h with
  | atom h =>
    obtain ⟨t, a, b, _⟩ := atom_ty (K := K) (H := H) h
    exact ⟨t, a, b⟩
  | lst h => exact ⟨"list", .base (.lst h), by decide +kernel⟩
  | dK h => exact ⟨"dict", .base (.dK h), by decide +kernel⟩
theorem NotSeq.ty (h : NotSeq H v) : ∃ t, TyX K H v (.type t) ∧ kitB t "tuple" = some false ∧ kitB t "list" = some false := by
  cases h with
  | atom h => exact atom_ty h
  | dK h => exact ⟨"dict", .base (.dK h), by decide +kernel, by decide +kernel⟩
theorem sqT_ty (h : SqT K H p xs) : TyX K H (.ref p) (.type "tuple") := by
  rcases h with (h | ⟨o, h⟩) | ⟨o, its, n, h, c, _⟩
  · exact .base (.tup h)
  · exact .fTuple h
  · exact .kTuple h c
theorem sqL_ty (h : SqL K H p xs) : TyX K H (.ref p) (.type "list") := by
  rcases h with (h | ⟨o, h⟩) | ⟨o, its, n, h, c, _⟩
  · exact .base (.lst h)
  · exact .base (.frz h)
  · exact .kList h c
theorem sqT_same (h : SqT K H p xs) (s : Same H H') : SqT K H' p xs := by
  rcases h with (h | ⟨o, h⟩) | h
  · exact .inl (.inl (s _ _ h))
  · exact .inl (.inr ⟨o, s _ _ h⟩)
  · exact .inr h
theorem same_rfl : Same H H := fun _ _ e => e
theorem sqT_len {X : Cx} {pins : List (Addr × Obj)} {σ : L2.St} {s : Shared} (I : Inv X pins σ H s) (h : SqT X.K H p xs) : xs.length ≤ sizeLine := by
  obtain ⟨_, _, _, hz⟩ := I.tuple h
  exact hz
end
/-! ### deeds -/
def formsL : List (Str × Nat) := [("meet", 4), ("upright", 5), ("gauge", 2), ("dividers", 4), ("halver", 5), ("strip", 5), ("disc", 2), ("rims", 4), ("corner", 4), ("compass", 4), ("circles", 4)]
def waysL : List Str := ["disc", "rims", "corner", "compass", "circles"]
def formOf (w : Str) : Option Nat := formsL.lookup w
def wayW (w : Str) : Bool := waysL.any fun x => x == w
def wayV (v : V) : Bool := decide (v = .int 1) || decide (v = .int 2)
/-- the items of a deed -/
def deedL (xs : List V) : Bool :=
  match xs with
  | [] => false
  | v :: r => match txtOf v with
    | none => false
    | some w => match formOf w with
      | none => false
      | some k => (r.take k).all nameV && (if wayW w = true then decide (r.length = k + 1) && wayV (r.getLastD .non) else decide (r.length = k))
theorem formOf_small {w : Str} {k : Nat} (h : formOf w = some k) : 2 ≤ k ∧ k ≤ 5 := by
  have all : ∀ p ∈ formsL, 2 ≤ p.2 ∧ p.2 ≤ 5 := by decide +kernel
  exact all (w, k) (PySem.mem_of_lookup h)
/-- the table of the words, as the program has written it -/
structure FormsK (K : PySem.W.Frag) (w : World) (d : Addr) : Prop where
  ex : ∃ (es : Array DictEntry) (n : Nat), KDict K w d es n
  no : ∀ z, formOf z = none → PySem.W.nsIn K d z = some none
  yes : ∀ z k, formOf z = some k → ∃ t, PySem.W.nsIn K d z = some (some (.int k t))
def WordsK (K : PySem.W.Frag) (d : Addr) (ws : List Str) : Prop := ∀ H, SqT K H d (ws.map V.str)
/-- a value as a deed: its items, or none -/
def Dd (K : PySem.W.Frag) (H : Hp) (x : V) (o : Option (List V)) : Prop := (∃ p xs, x = .ref p ∧ SqT K H p xs ∧ xs.all AtomV = true ∧ xs.length ≤ 100 ∧ o = some xs) ∨ (NotTup H x ∧ o = none)
def deedO : Option (List V) → Bool
  | some xs => deedL xs
  | none => false
theorem Dd.same {K : PySem.W.Frag} {H H' : Hp} {x : V} {o : Option (List V)} (h : Dd K H x o) (s : Same H H') : Dd K H' x o := by
  rcases h with ⟨p, xs, e, h, r⟩ | ⟨h, r⟩
  · exact .inl ⟨p, xs, e, sqT_same h s, r⟩
  · exact .inr ⟨h.same s, r⟩
def spDeed (K : PySem.W.Frag) : Sp := fun vs H Q _ => ∃ (x : V) (o : Option (List V)), vs = [x] ∧ Dd K H x o ∧ ∀ H', Same H H' → Q (.bl (deedO o)) H'
/-! ### small defs -/
def spWhole (K : PySem.W.Frag) : Sp := fun vs H Q _ => ∃ x : V, vs = [x] ∧ AtomV x = true ∧ Q (.bl (match x with | .int _ => true | _ => false)) H
def spTupleOf (K : PySem.W.Frag) : Sp := fun vs H Q _ => ∃ (x : V) (n : Nat) (b : Bool), vs = [x, .int n] ∧ ((∃ p xs, x = .ref p ∧ SqT K H p xs ∧ b = decide (xs.length = n)) ∨ (NotTup H x ∧ b = false)) ∧ Q (.bl b) H
/-- list or tuple, or neither -/
def Lv (K : PySem.W.Frag) (H : Hp) (x : V) (o : Option (List V)) : Prop := (∃ p xs, x = .ref p ∧ (SqL K H p xs ∨ SqT K H p xs) ∧ o = some xs) ∨ (NotSeq H x ∧ o = none)
def spIsList (K : PySem.W.Frag) : Sp := fun vs H Q _ => ∃ (x : V) (o : Option (List V)), vs = [x] ∧ Lv K H x o ∧ ∀ H', Same H H' → Q (.bl o.isSome) H'
section
variable {P : Program} {w : World} {K : PySem.W.Frag} {mg : Str → Option Value} {base : Heap}
theorem scW : FnScope ["value"] ["value"] (defScope sIsWhole) := ⟨rfl, rfl, rfl, by decide +kernel, rfl, by decide +kernel, by decide +kernel⟩
theorem ok_whole {f : Addr} {fd : FuncData} (F : Fun K "is_whole" "is_whole" sIsWhole f fd) (mi : mg "isinstance" = none) (mint : mg "int" = none) (mb : mg "bool" = none) : FnOk P w K mg base CX0 1 f fd ["value"] (spWhole K) := by
  refine F.ok scW (fun vs H Q E h => ?_) (fun cdv A outer s H vs Q E hr h => ?_)
  · obtain ⟨x, rfl, _⟩ := h
    rfl
  · obtain ⟨x, rfl, hk, q⟩ := h
    refine ⟨_, pss_one (ps_ret (pe_and (pe_callB call_isi (by rfl) mi (by decide +kernel) (pa_cons (pv 0) (pa_cons (pe_bltn (v := .ty "int") (by rfl) mint (by decide +kernel) rfl) pa_nil)))
      (pe_one (pe_not (pe_callB call_isi (by rfl) mi (by decide +kernel) (pa_cons (pv 0) (pa_cons (pe_bltn (v := .ty "bool") (by rfl) mb (by decide +kernel) rfl) pa_nil))))))), ?_⟩
    cases x with
    | non => exact ⟨_, rfl, .non, .ty "int", .type "NoneType", .type "int", false, rfl, .ty _, .base .non, kit_ty (by decide +kernel), false, rfl, iteF q⟩
    | str z => exact ⟨_, rfl, .str z, .ty "int", .type "str", .type "int", false, rfl, .ty _, .base (.str z), kit_ty (by decide +kernel), false, rfl, iteF q⟩
    | int i =>
      refine ⟨_, rfl, .int i, .ty "int", .type "int", .type "int", true, rfl, .ty _, .base (.int i), kit_ty (by decide +kernel), true, rfl, iteT ?_⟩
      exact ⟨_, rfl, .int i, .ty "bool", .type "int", .type "bool", false, rfl, .ty _, .base (.int i), kit_ty (by decide +kernel), false, rfl, q⟩
    | bl c =>
      refine ⟨_, rfl, .bl c, .ty "int", .type "bool", .type "int", true, rfl, .ty _, .base (.bl c), kit_ty (by decide +kernel), true, rfl, iteT ?_⟩
      exact ⟨_, rfl, .bl c, .ty "bool", .type "bool", .type "bool", true, rfl, .ty _, .base (.bl c), kit_ty (by decide +kernel), true, rfl, q⟩
    | _ => cases hk
theorem scT : FnScope ["value", "size"] ["value", "size"] (defScope sTupleOf) := ⟨rfl, rfl, rfl, by decide +kernel, rfl, by decide +kernel, by decide +kernel⟩
theorem ok_tupleOf {f : Addr} {fd : FuncData} (F : Fun K "is_tuple_of" "is_tuple_of" sTupleOf f fd) (mi : mg "isinstance" = none) (mt : mg "tuple" = none) (ml : mg "len" = none) : FnOk P w K mg base CX0 1 f fd ["value", "size"] (spTupleOf K) := by
  refine F.ok scT (fun vs H Q E h => ?_) (fun cdv A outer s H vs Q E hr h => ?_)
  · obtain ⟨x, n, b, rfl, _⟩ := h
    rfl
  · obtain ⟨x, n, b, rfl, hk, q⟩ := h
    refine ⟨_, pss_one (ps_ret (pe_and (pe_callB call_isi (by rfl) mi (by decide +kernel) (pa_cons (pv 0) (pa_cons (pe_bltn (v := .ty "tuple") (by rfl) mt (by decide +kernel) rfl) pa_nil)))
      (pe_one (pe_cmpR op_eq (pe_callB call_len_seq (by rfl) ml PySem.boot_len (pa_cons (pv 0) pa_nil)) (pv 1) (nomark _))))), ?_⟩
    rcases hk with ⟨p, xs, rfl, hp, rfl⟩ | ⟨hn, rfl⟩
    · refine ⟨_, rfl, .ref p, .ty "tuple", .type "tuple", .type "tuple", true, rfl, .ty _, sqT_ty hp, kit_ty (by decide +kernel), true, rfl, iteT ?_⟩
      refine ⟨_, rfl, p, xs, rfl, .inr hp, _, rfl, rfl, ?_⟩
      have e : decide (V.int ((xs.length : Nat) : Int) = V.int ((n : Nat) : Int)) = decide (xs.length = n) := by
        rw [Bool.eq_iff_iff]
        simp
        omega
      rw [e]
      exact q
    · obtain ⟨t, ht, hb⟩ := hn.ty (K := K)
      exact ⟨_, rfl, x, .ty "tuple", .type t, .type "tuple", false, rfl, .ty _, ht, kit_ty hb, false, rfl, iteF q⟩
theorem scI : FnScope ["value"] ["value"] (defScope sIsList) := ⟨rfl, rfl, rfl, by decide +kernel, rfl, by decide +kernel, by decide +kernel⟩
theorem isi_lt {H : Hp} {x : V} {o : Option (List V)} (h : Lv K H x o) : ∃ t, TyX K H x t ∧ PySem.W.kitAny K t [.type "list", .type "tuple"] = some o.isSome := by
  rcases h with ⟨p, xs, rfl, h | h, rfl⟩ | ⟨h, rfl⟩
  · exact ⟨_, sqL_ty h, kitAny_cons (b := true) (kit_ty (by decide +kernel)) (fun z => by cases z) (fun _ => rfl)⟩
  · exact ⟨_, sqT_ty h, kitAny_cons (b := false) (kit_ty (by decide +kernel)) (fun _ => kitAny_cons (b := true) (kit_ty (by decide +kernel)) (fun z => by cases z) (fun _ => rfl)) (fun z => by cases z)⟩
  · obtain ⟨t, ht, h1, h2⟩ := h.ty (K := K)
    exact ⟨_, ht, kitAny_cons (b := false) (kit_ty h2) (fun _ => kitAny_cons (b := false) (kit_ty h1) (fun _ => kitAny_nil) (fun z => by cases z)) (fun z => by cases z)⟩
theorem lv_same {H H' : Hp} {x : V} {o : Option (List V)} (h : Lv K H x o) (s : Same H H') : Lv K H' x o := by
  rcases h with ⟨p, xs, e, h | h, r⟩ | ⟨h, r⟩
  · exact .inl ⟨p, xs, e, .inl (s.seq h), r⟩
  · exact .inl ⟨p, xs, e, .inr (sqT_same h s), r⟩
  · exact .inr ⟨h.same s, r⟩
theorem ok_isList {f : Addr} {fd : FuncData} (F : Fun K "is_list" "is_list" sIsList f fd) (mi : mg "isinstance" = none) (mt : mg "tuple" = none) (ml : mg "list" = none) : FnOk P w K mg base CX0 1 f fd ["value"] (spIsList K) := by
  refine F.ok scI (fun vs H Q E h => ?_) (fun cdv A outer s H vs Q E hr h => ?_)
  · obtain ⟨x, o, rfl, _⟩ := h
    rfl
  · obtain ⟨x, o, rfl, hx, q⟩ := h
    refine ⟨_, pss_one (ps_ret (pe_callB call_isiT (by rfl) mi (by decide +kernel) (pa_cons (pv 0) (pa_cons (pe_tup (pa_cons (pe_bltn (v := .ty "list") (by rfl) ml (by decide +kernel) rfl) (pa_cons (pe_bltn (v := .ty "tuple") (by rfl) mt (by decide +kernel) rfl) pa_nil))) pa_nil)))), ?_⟩
    refine ⟨_, rfl, by show 2 ≤ sizeLine; decide, fun t nt => ?_⟩
    obtain ⟨ty, h1, h2⟩ := isi_lt (lv_same hx (same_upd (o := .tup [.ty "list", .ty "tuple"]) nt))
    exact ⟨x, t, [.ty "list", .ty "tuple"], ty, [.type "list", .type "tuple"], o.isSome, rfl, upd_same, .cons (.ty _) (.cons (.ty _) .nil), h1, h2, q _ (same_upd nt)⟩
/-! ### is_deed -/
theorem cut_1 (v : V) (r : List V) (k : Nat) : cutV (v :: r) (some 1) (some ((k : Int) + 1)) = r.take k := by
  have e : ((k : Int) + 1) = ((k + 1 : Nat) : Int) := by omega
  unfold cutV
  rw [e, HT.sIx_nat, show (some (1 : Int)) = some ((1 : Nat) : Int) from rfl, HT.sIx_nat]
  have h1 : min 1 (v :: r).length = 1 := by simp
  rw [h1]
  show (r.take (min (k + 1) (r.length + 1) - 1)) = r.take k
  have h2 : min (k + 1) (r.length + 1) - 1 = min k r.length := by omega
  rw [h2, List.take_eq_take_iff]
  try omega
theorem _root_.PySem.Spec.same_none {H H' : Hp} {D : Addr} (s : Same H H') (n : H' D = none) : H D = none := by
  cases e : H D with
  | none => rfl
  | some u =>
    rw [s _ _ e] at n
    cases n
theorem same_put {H H' : Hp} {D : Addr} {o : HO} (s : Same H H') (n : H D = none) : Same H (upd H' D o) := fun b u e => by
  rw [upd_ne (ne_of_none e n)]
  exact s b u e
theorem scD : FnScope ["value", "word", "many", "name"] ["value"] (defScope sIsDeed) := ⟨rfl, rfl, rfl, by decide +kernel, rfl, by decide +kernel, by decide +kernel⟩
theorem inV_strs (z : Str) (ws : List Str) : inV (.str z) (ws.map V.str) = ws.any fun x => x == z := by
  unfold inV
  rw [List.any_map]
  rfl
theorem strs_flat (ws : List Str) : (ws.map V.str).all flatV = true := by
  rw [List.all_map, List.all_eq_true]
  intro _ _
  rfl
theorem ok_deed {f fN fW d1 d2 : Addr} {fd fdN fdW : FuncData} (F : Fun K "is_deed" "is_deed" sIsDeed f fd) (FN : Fun K "is_name" "is_name" sIsName fN fdN) (GN : FnOk P w K mg base CX0 1 fN fdN ["value"] (spName K)) (bN : Binds K fdN ["value"] []) (gN : mg "is_name" = some (.ref fN))
    (FW : Fun K "is_whole" "is_whole" sIsWhole fW fdW) (GW : FnOk P w K mg base CX0 1 fW fdW ["value"] (spWhole K)) (bW : Binds K fdW ["value"] []) (gW : mg "is_whole" = some (.ref fW))
    (T : FormsK K w d1) (gT : mg "NAME_COUNTS" = some (.ref d1)) (Ws : WordsK K d2 waysL) (gWs : mg "WORDS_WITH_WAYS" = some (.ref d2))
    (mi : mg "isinstance" = none) (mt : mg "tuple" = none) (ms : mg "str" = none) (ml : mg "len" = none) (ma : mg "all" = none) : FnOk P w K mg base CX0 2 f fd ["value"] (spDeed K) := by
  refine F.ok scD (fun vs H Q E h => ?_) (fun cdv A outer s H vs Q E hr h => ?_)
  · obtain ⟨x, o, rfl, _⟩ := h
    rfl
  · obtain ⟨x, o, rfl, hx, q⟩ := h
    obtain ⟨es, nn, KD⟩ := T.ex
    refine ⟨_, pss_cons (ps_if (PW.pt (pw_or (pt_not (pt_val (pe_callB call_isi (by rfl) mi (by decide +kernel) (pa_cons (pv 0) (pa_cons (pe_bltn (v := .ty "tuple") (by rfl) mt (by decide +kernel) rfl) pa_nil)))))
        (pw_or1 (pt_cmpR op_eq (pe_callB call_len_seq (by rfl) ml PySem.boot_len (pa_cons (pv 0) pa_nil)) pe_int (nomark _))))) (pss_one (ps_ret pe_bl)) pss_nil)
      (pss_cons (ps_set (i := 1) scD.nd rfl (.inl rfl) (pe_ix ix_tup (pv 0) pe_int (fun _ _ => rfl)))
      (pss_cons (ps_if (PW.pt (pw_or (pt_not (pt_val (pe_callB call_isi (by rfl) mi (by decide +kernel) (pa_cons (pv 1) (pa_cons (pe_bltn (v := .ty "str") (by rfl) ms (by decide +kernel) rfl) pa_nil)))))
        (pw_or1 (pt_cmpR (op_notIn_kd KD) (pv 1) (pe_glob (v := .ref d1) (by rfl) gT rfl) (by rfl))))) (pss_one (ps_ret pe_bl)) pss_nil)
      (pss_cons (ps_set (i := 2) scD.nd rfl (.inl rfl) (pe_ix ix_kdict (pe_glob (v := .ref d1) (by rfl) gT rfl) (pv 1) (fun _ _ => rfl)))
      (pss_cons (ps_if (pt_not (pt_val (pe_callB (cr_all rfl) (by rfl) ma (by decide +kernel) (pa_cons
          (pe_lc (own := [("name", 3)]) (g := gName 3) (tt := tYes) rfl scD.nd (pi_tup (pe_slice sl_tup (pv 0) (po_some pe_int) (po_some (pe_op op_add (pv 2) pe_int))))
            (blkOk_by (own := [("name", 3)]) (N := ["value", "word", "many", "name"]) (sc := defScope sIsDeed) (by decide +kernel))
            (fun _ _ _ _ _ => pg_name (i := 3) scD.nd rfl (.inl rfl)) (fun _ _ _ _ _ => pts_nil)
            (fun _ _ _ _ _ => pe_call GN (hr.mono (by decide)) (by rfl) gN FN.kp bN .nil pass0 (pa_cons (pv 3) pa_nil))) pa_nil)))) (pss_one (ps_ret pe_bl)) pss_nil)
      (pss_cons (ps_if (pt_cmpR op_in_seq (pv 1) (pe_glob (v := .ref d2) (by rfl) gWs rfl) (by rfl))
        (pss_one (ps_ret (pe_and (pe_cmpR op_eq (pe_callB call_len_seq (by rfl) ml PySem.boot_len (pa_cons (pv 0) pa_nil)) (pe_op op_add (pv 2) pe_int) (nomark _))
          (pe_and (pe_call GW (hr.mono (by decide)) (by rfl) gW FW.kp bW .nil pass0 (pa_cons (pe_ix ix_tup (pv 0) (pe_un un_neg pe_int) (fun _ _ => rfl)) pa_nil))
          (pe_one (pe_cmpR op_in_seq (pe_ix ix_tup (pv 0) (pe_un un_neg pe_int) (fun _ _ => rfl)) (pe_tup (pa_cons pe_int (pa_cons pe_int pa_nil))) (by rfl))))))) pss_nil)
      (pss_one (ps_ret (pe_cmpR op_eq (pe_callB call_len_seq (by rfl) ml PySem.boot_len (pa_cons (pv 0) pa_nil)) (pe_op op_add (pv 2) pe_int) (nomark _))))))))), ?_⟩
    have q' : ∀ b H', deedO o = b → Same H H' → Q (.bl b) H' := fun b H' e sm => by
      subst e
      exact q H' sm
    rcases hx with ⟨p, xs, rfl, hp, hat, hlen, rfl⟩ | ⟨hn, rfl⟩
    · refine ⟨_, rfl, .ref p, .ty "tuple", .type "tuple", .type "tuple", true, rfl, .ty _, sqT_ty hp, kit_ty (by decide +kernel), true, rfl, iteF ?_⟩
      refine ⟨_, rfl, p, xs, rfl, .inr hp, rfl, _, rfl, ?_⟩
      cases xs with
      | nil => exact iteT2 rfl (q' _ _ rfl same_rfl)
      | cons v r =>
        refine iteF2 (decide_eq_false fun z => by simp at z; omega) ?_
        refine ⟨_, rfl, p, _, 0, v, rfl, rfl, hp, atI_nat (j := 0) rfl, ?_⟩
        have hv : AtomV v = true := List.all_eq_true.mp hat v List.mem_cons_self
        have hr' : ∀ y ∈ r, AtomV y = true := fun y hy => List.all_eq_true.mp hat y (List.mem_cons_of_mem _ hy)
        rcases tx_atom (K := K) (H := H) hv with ⟨z, rfl, hz, _⟩ | ⟨hz, t, ht, hb⟩
        · refine ⟨_, rfl, .str z, .ty "str", .type "str", .type "str", true, rfl, .ty _, .base (.str z), kit_ty (by decide +kernel), true, rfl, iteF ?_⟩
          cases hf : formOf z with
          | none =>
            refine ⟨_, rfl, z, _, rfl, rfl, T.no z hf, _, rfl, iteT2 rfl (q' _ _ ?_ same_rfl)⟩
            show deedL (.str z :: r) = false
            unfold deedL
            simp only [txtOf, hf]
          | some k =>
            obtain ⟨t1, ht1⟩ := T.yes z k hf
            obtain ⟨hk2, hk5⟩ := formOf_small hf
            have dl : deedL (.str z :: r) = ((r.take k).all nameV && (if wayW z = true then decide (r.length = k + 1) && wayV (r.getLastD .non) else decide (r.length = k))) := by
              unfold deedL
              simp only [txtOf, hf]
            refine ⟨_, rfl, z, _, rfl, rfl, ht1, _, rfl, iteF2 rfl ?_⟩
            refine ⟨_, rfl, d1, z, .int k, rfl, rfl, ⟨es, nn, _, KD.at_, KD.lit, ht1, _, rfl⟩, ?_⟩
            -- the names
            refine ⟨_, rfl, _, rfl, _, rfl, _, _, rfl, rfl, _, rfl, p, _, rfl, hp, ?_, fun sp nsp => ?_⟩
            · rintro ⟨z1, _⟩
              have e1 : HT.sIx ((V.str z :: r).length) 0 (some ((1 : Nat) : Int)) = min 1 (V.str z :: r).length := HT.sIx_nat _ _ _
              have e2 : min 1 (V.str z :: r).length = 1 := by simp
              have z2 : HT.sIx ((V.str z :: r).length) 0 (some ((1 : Nat) : Int)) = 0 := z1
              omega
            rw [show ((k : Nat) : Int) + 1 = (k : Int) + 1 from rfl, cut_1]
            have S1 : Same H (upd H sp (.tup (r.take k))) := same_upd nsp
            refine ⟨sp, rfl, ⟨_, .inl (.inl upd_same)⟩, fun D nD => ?_⟩
            have S2 : Same (upd H sp (.tup (r.take k))) (upd (upd H sp (.tup (r.take k))) D (.lst [])) := same_upd nD
            have at_ : ∀ (i : Nat) (x : V), (r.take k)[i]? = some x → AtomV x = true := fun i x hx => hr' x (List.mem_of_mem_take (List.mem_of_getElem? hx))
            refine lc_it (walk_tup (K := K) (a := sp) (xs := r.take k)) (fun i H1 => ∃ bs : List Bool, H1 D = some (.lst (bs.map V.bl)) ∧ bs = ((r.take k).take i).map nameV ∧ Same (upd H sp (.tup (r.take k))) H1) ⟨[], upd_same, rfl, S2⟩ ?_ ?_ ?_
            · rintro i H1 _ ⟨bs, _, _, sm⟩
              exact .inl (.inl (sm _ _ upd_same))
            · rintro i x H1 H2 hi ⟨bs, hD, hbs, sm⟩ ⟨rfl, hx⟩
              refine ⟨rfl, _, rfl, x, _, rfl, tx_atom (at_ i x hx), fun H3 sm3 => ⟨_, sm3 _ _ hD, ?_, bs ++ [nameV x], by rw [upd_same, List.map_append]; rfl, ?_, same_put (sm.trans sm3) nD⟩⟩
              · rw [List.length_map, hbs, List.length_map, List.length_take, List.length_take]
                exact small1000 (by omega)
              · rw [List.take_succ, List.map_append, hx, hbs]
                rfl
            · rintro H1 ⟨bs, hD, hbs, sm⟩
              rw [List.take_length] at hbs
              have S3 := S1.trans sm
              refine ⟨D, bs, rfl, .inl (.inl hD), _, rfl, ?_⟩
              have eall : bs.all id = (r.take k).all nameV := by
                rw [hbs, List.all_map]
                rfl
              rw [eall]
              cases e : (r.take k).all nameV with
              | false =>
                refine iteT2 rfl (q' _ _ ?_ S3)
                show deedL (.str z :: r) = false
                rw [dl, e]
                rfl
              | true =>
                refine iteF2 rfl ?_
                refine ⟨_, rfl, d2, waysL.map V.str, rfl, .inr (Ws H1), rfl, strs_flat _, _, rfl, ?_⟩
                rw [inV_strs]
                have hp3 := sqT_same hp S3
                have el : decide (V.int (((V.str z :: r).length : Nat) : Int) = V.int ((k : Nat) + 2 : Int)) = decide (r.length = k + 1) := by
                  rw [Bool.eq_iff_iff]
                  simp
                  omega
                have el1 : decide (V.int (((V.str z :: r).length : Nat) : Int) = V.int ((k : Nat) + 1 : Int)) = decide (r.length = k) := by
                  rw [Bool.eq_iff_iff]
                  simp
                  omega
                show if (wayW z) = true then _ else _
                cases ew : wayW z with
                | false =>
                  refine iteF2 rfl ?_
                  refine ⟨_, rfl, p, _, rfl, .inr hp3, _, rfl, _, _, rfl, rfl, rfl, ?_⟩
                  refine q' _ _ ?_ S3
                  show deedL (.str z :: r) = _
                  rw [dl, e, ew, el1]
                  rfl
                | true =>
                  refine iteT2 rfl ?_
                  refine ⟨_, rfl, p, _, rfl, .inr hp3, _, rfl, _, _, rfl, rfl, rfl, ?_⟩
                  have en : ∀ b, (if wayW z = true then decide (r.length = k + 1) && wayV (r.getLastD .non) else decide (r.length = k)) = b → deedO (some (V.str z :: r)) = b := fun b eb => by
                    show deedL (.str z :: r) = b
                    rw [dl, e, eb]
                    rfl
                  rw [if_pos ew] at en
                  refine ⟨_, rfl, ?_⟩
                  by_cases hl : r.length = k + 1
                  · refine iteT2 (el.trans (decide_eq_true hl)) ?_
                    obtain ⟨r', y, rfl⟩ : ∃ r' y, r = r' ++ [y] := by
                      rcases List.eq_nil_or_concat r with h0 | ⟨r', y, h0⟩
                      · rw [h0] at hl
                        simp at hl
                      · exact ⟨r', y, by rw [h0, List.concat_eq_append]⟩
                    have hy : AtomV y = true := hr' y (List.mem_append_right _ List.mem_cons_self)
                    have la : atI (V.str z :: (r' ++ [y])) (-1) = some y := atI_last (V.str z :: r') y
                    have gl : (r' ++ [y]).getLastD V.non = y := by simp
                    rw [gl, decide_eq_true hl, Bool.true_and] at en
                    refine ⟨_, rfl, 1, rfl, p, _, -1, y, rfl, rfl, hp3, la, y, rfl, hy, _, rfl, ?_⟩
                    cases y with
                    | int i =>
                      refine iteT2 rfl ?_
                      refine ⟨_, rfl, 1, rfl, p, _, -1, _, rfl, rfl, hp3, la, by show 2 ≤ sizeLine; decide, fun tp ntp => ?_⟩
                      refine ⟨tp, [.int 1, .int 2], rfl, .inr (.inl (.inl upd_same)), rfl, rfl, q' _ _ (en _ ?_) (same_put S3 (PySem.Spec.same_none S3 ntp))⟩
                      show (decide (V.int i = .int 1) || decide (V.int i = .int 2)) = ((1 == i) || ((2 == i) || false))
                      rw [Bool.eq_iff_iff]
                      simp
                      omega
                    | non => exact iteF2 rfl (q' _ _ (en _ rfl) S3)
                    | bl b => exact iteF2 rfl (q' _ _ (en _ rfl) S3)
                    | str b => exact iteF2 rfl (q' _ _ (en _ rfl) S3)
                    | _ => cases hy
                  · refine iteF2 (el.trans (decide_eq_false hl)) (q' _ _ (en _ ?_) S3)
                    rw [decide_eq_false hl]
                    rfl
        · refine ⟨_, rfl, v, .ty "str", .type t, .type "str", false, rfl, .ty _, ht, kit_ty hb, false, rfl, iteT (q' _ _ ?_ same_rfl)⟩
          show deedL (v :: r) = false
          unfold deedL
          simp only [hz]
    · obtain ⟨t, ht, hb⟩ := hn.ty (K := K)
      exact ⟨_, rfl, x, .ty "tuple", .type t, .type "tuple", false, rfl, .ty _, ht, kit_ty hb, false, rfl, iteT (q' _ _ rfl same_rfl)⟩
end
end Y2

set_option Elab.async false
set_option linter.all false
set_option maxRecDepth 100000
set_option maxHeartbeats 2000000
namespace Y3
open PySem PySem.Spec PyProof.Rows L2 Cau Dr15 Y1 Y2
abbrev sDeedNames : Stmt := topS 22
abbrev sForms : Stmt := topS 49
abbrev sHasWay : Stmt := topS 50
/-! ### repr of what is no list and no tuple -/
def shA : V → Str
  | .non => "None"
  | .bl b => if b then "True" else "False"
  | .int i => toString i
  | .str s => reprText s
  | _ => ""
def rReprA : List V → Hp → VK → Prop := fun xs H Q => ∃ v, xs = [v] ∧ AtomV v = true ∧ Q (.str (shA v)) H
theorem strOk_lt {x : Str} (h : PyData.strOk x = true) : ∀ c ∈ x.cps.toList, c < 0x110000 := by
  unfold PyData.strOk at h
  rw [Array.all_eq_true'] at h
  exact fun c hc => of_decide_eq_true (h c (Array.mem_toList_iff.mp hc))
theorem repr_fits {x : Str} (h : PyData.strOk x = true) (hl : x.length ≤ 4000) : (reprText x).length ≤ 40002 := by
  have := StrLaws.reprText_len x fun c hc => Nat.lt_trans (strOk_lt h c hc) (by decide)
  omega
theorem call_reprA {X : Cx} : CallR X (.builtin "repr") rReprA := by
  intro pins s σ H xs us Q I r ⟨v, hv, ha, q⟩
  subst hv
  obtain ⟨u, hu, ru⟩ := r.one
  subst hu
  have done : ∀ x t, Q (.str x) H → EP X pins σ Q (.str x t) { s with toks := s.toks + 1 } := fun x t q => ⟨.str x, H, I.tok _, ⟨_, rfl⟩, q⟩
  cases v with
  | non => cases (show u = Value.none from ru); exact PySem.P.repr_of_none (done _ _ q)
  | bl b => cases (show u = Value.bool b from ru); exact PySem.P.repr_of_bool (done _ _ q)
  | int i =>
    obtain ⟨t, rfl⟩ := ru
    have hi : 0 ≤ i ∧ i < 10 := of_decide_eq_true ha
    refine PySem.P.repr_of_int ?_ (done _ _ q)
    have h2 : i.natAbs < 10 := by omega
    have all : ∀ n, n < 10 → n.log2 < 1920 := by decide
    exact all _ h2
  | str z =>
    obtain ⟨t, rfl⟩ := ru
    simp only [AtomV, Bool.and_eq_true, decide_eq_true_eq] at ha
    exact PySem.P.repr_of_str (done _ _ q) (Nat.le_trans (repr_fits ha.2 ha.1) (by decide))
  | _ => cases ha
theorem str_ne_len {a b : Str} (h : a.length ≠ b.length) : (a == b) = false := beq_eq_false_iff_ne.mpr fun z => h (by rw [z])
theorem shA_way {v : V} (h : AtomV v = true) : inV (.str (shA v)) [.str "1", .str "2"] = wayV v := by
  cases v with
  | non => decide +kernel
  | bl b => cases b <;> decide +kernel
  | int i =>
    have hi : 0 ≤ i ∧ i < 10 := of_decide_eq_true h
    have all : ∀ n : Nat, n < 10 → inV (.str (shA (.int (n : Int)))) [.str "1", .str "2"] = wayV (.int (n : Int)) := by decide +kernel
    have e := all i.toNat (by omega)
    rw [Int.toNat_of_nonneg hi.1] at e
    exact e
  | str z =>
    have h2 := StrLaws.reprText_ge2 z
    have e1 : ((reprText z : Str) == ("1" : Str)) = false := str_ne_len (by
      have : ("1" : Str).length = 1 := by decide +kernel
      omega)
    have e2 : ((reprText z : Str) == ("2" : Str)) = false := str_ne_len (by
      have : ("2" : Str).length = 1 := by decide +kernel
      omega)
    show ((("1" : Str) == reprText z) || ((("2" : Str) == reprText z) || false)) = _
    rw [Bool.beq_comm, e1, Bool.beq_comm, e2]
    rfl
  | _ => cases h
/-! ### the law's tables -/
def formsD : List (Key × V) := formsL.map fun p => (.inr p.1, .int p.2)
theorem forms_new : mergeK [] formsD = formsD := by
  with_unfolding_all rfl
theorem forms_get (z : Str) : valV formsD (.inr z) = (formOf z).map fun k => V.int (k : Nat) := by
  have gen : ∀ l : List (Str × Nat), valV (l.map fun p => ((.inr p.1 : Key), V.int p.2)) (.inr z) = (l.lookup z).map fun k => V.int (k : Nat) := by
    intro l
    induction l with
    | nil => rfl
    | cons p r ih =>
      obtain ⟨a, k⟩ := p
      unfold valV at ih ⊢
      rw [List.map_cons, List.find?_cons, List.lookup_cons]
      by_cases h : z = a
      · subst h
        simp
      · have e1 : (z == a) = false := beq_eq_false_iff_ne.mpr h
        have e2 : decide ((Sum.inr a : Key) = Sum.inr z) = false := decide_eq_false fun q => h (Sum.inr.inj q).symm
        rw [e1]
        simp only [e2]
        exact ih
  exact gen formsL
def spForms : Sp := fun vs H Q _ => vs = [] ∧ ∀ p, H p = none → Q (.ref p) (upd H p (.dK formsD))
def spHasWay : Sp := fun vs H Q _ => ∃ z : Str, vs = [.str z] ∧ ∀ H', Same H H' → Q (.bl (wayW z)) H'
section
variable {P : Program} {w : World} {K : PySem.W.Frag} {mg : Str → Option Value} {base : Heap}
theorem scFo : FnScope [] [] (defScope sForms) := ⟨rfl, rfl, rfl, by decide +kernel, rfl, by decide +kernel, by decide +kernel⟩
theorem ok_forms {f : Addr} {fd : FuncData} (F : Fun K "_law_forms" "_law_forms" sForms f fd) : FnOk P w K mg base CX0 1 f fd [] spForms := by
  refine F.ok scFo (fun vs H Q E h => ?_) (fun cdv A outer s H vs Q E hr h => ?_)
  · obtain ⟨rfl, _⟩ := h
    rfl
  · obtain ⟨rfl, q⟩ := h
    refine ⟨_, pss_one (ps_ret (pe_disp (pps_cons pe_str pe_int (pps_cons pe_str pe_int (pps_cons pe_str pe_int (pps_cons pe_str pe_int (pps_cons pe_str pe_int (pps_cons pe_str pe_int (pps_cons pe_str pe_int (pps_cons pe_str pe_int
      (pps_cons pe_str pe_int (pps_cons pe_str pe_int (pps_cons pe_str pe_int pps_nil))))))))))) (by rfl) (by rfl) (fun z => by cases z) (by decide))), ?_⟩
    intro p np
    refine ⟨upd_same, formsD, rfl, by show 11 ≤ 15; decide, ?_⟩
    rw [upd_upd, forms_new]
    exact q p np
theorem scHW : FnScope ["word"] ["word"] (defScope sHasWay) := ⟨rfl, rfl, rfl, by decide +kernel, rfl, by decide +kernel, by decide +kernel⟩
theorem ok_hasWay {f : Addr} {fd : FuncData} (F : Fun K "_law_has_way" "_law_has_way" sHasWay f fd) : FnOk P w K mg base CX0 1 f fd ["word"] spHasWay := by
  refine F.ok scHW (fun vs H Q E h => ?_) (fun cdv A outer s H vs Q E hr h => ?_)
  · obtain ⟨z, rfl, _⟩ := h
    rfl
  · obtain ⟨z, rfl, q⟩ := h
    refine ⟨_, pss_one (ps_ret (pe_cmpR op_in_seq (pv 0) (pe_lst (pa_cons pe_str (pa_cons pe_str (pa_cons pe_str (pa_cons pe_str (pa_cons pe_str pa_nil)))))) (by rfl))), ?_⟩
    refine ⟨_, rfl, by show 5 ≤ sizeLine; decide, fun l nl => ?_⟩
    refine ⟨l, waysL.map V.str, rfl, .inl (.inl (.inl upd_same)), rfl, strs_flat _, ?_⟩
    rw [inV_strs]
    exact q _ (same_upd nl)
/-! ### the names of a deed -/
def spDN (K : PySem.W.Frag) : Sp := fun vs H Q _ => ∃ (p : Addr) (z : Str) (r : List V) (k : Nat), vs = [.ref p] ∧ SqT K H p (.str z :: r) ∧ formOf z = some k ∧ ∀ sp, H sp = none → Q (.ref sp) (upd H sp (.tup (r.take k)))
theorem not_whole (v : V) (r : List V) (hi : Option Int) : ¬ (HT.sIx (v :: r).length 0 (some 1) = 0 ∧ HT.sIx (v :: r).length (v :: r).length hi = (v :: r).length) := by
  rintro ⟨z1, _⟩
  have e1 : HT.sIx ((v :: r).length) 0 (some ((1 : Nat) : Int)) = min 1 (v :: r).length := HT.sIx_nat _ _ _
  have e2 : min 1 (v :: r).length = 1 := by simp
  have z2 : HT.sIx ((v :: r).length) 0 (some ((1 : Nat) : Int)) = 0 := z1
  omega
theorem scDN : FnScope ["deed"] ["deed"] (defScope sDeedNames) := ⟨rfl, rfl, rfl, by decide +kernel, rfl, by decide +kernel, by decide +kernel⟩
theorem ok_dn {f d1 : Addr} {fd : FuncData} (F : Fun K "deed_names" "deed_names" sDeedNames f fd) (T : FormsK K w d1) (gT : mg "NAME_COUNTS" = some (.ref d1)) : FnOk P w K mg base CX0 1 f fd ["deed"] (spDN K) := by
  refine F.ok scDN (fun vs H Q E h => ?_) (fun cdv A outer s H vs Q E hr h => ?_)
  · obtain ⟨p, z, r, k, rfl, _⟩ := h
    rfl
  · obtain ⟨p, z, r, k, rfl, hp, hf, q⟩ := h
    obtain ⟨es, nn, KD⟩ := T.ex
    obtain ⟨t1, ht1⟩ := T.yes z k hf
    refine ⟨_, pss_one (ps_ret (pe_slice sl_tup (pv 0) (po_some pe_int) (po_some (pe_op op_add (pe_ix ix_kdict (pe_glob (v := .ref d1) (by rfl) gT rfl) (pe_ix ix_tup (pv 0) pe_int (fun _ _ => rfl)) (fun _ _ => rfl)) pe_int)))), ?_⟩
    refine ⟨_, rfl, _, rfl, _, rfl, p, _, 0, _, rfl, rfl, hp, atI_nat (j := 0) rfl, d1, z, .int k, rfl, rfl, ⟨es, nn, _, KD.at_, KD.lit, ht1, _, rfl⟩, _, _, rfl, rfl, _, rfl, p, _, rfl, hp, not_whole _ _ _, fun sp nsp => ?_⟩
    rw [cut_1]
    exact q sp nsp
theorem cut_1' (v : V) (r : List V) (k : Nat) : cutV (v :: r) (some 1) (some (1 + (k : Int))) = r.take k := by
  rw [Int.add_comm]
  exact cut_1 v r k
/-! ### atoms as data -/
def atomD : V → PyData
  | .non => .none
  | .bl b => .bool b
  | .int i => .int i
  | .str s => .str s
  | _ => .none
theorem dp_atom {K : PySem.W.Frag} {H : Hp} {v : V} (h : AtomV v = true) : Dp K H v (atomD v) := by
  cases v with
  | non => exact .non
  | bl b => exact .bl b
  | int i => exact .int i
  | str s => exact .str s
  | _ => cases h
theorem dpAll_atoms {K : PySem.W.Frag} {H : Hp} : ∀ xs : List V, (∀ x ∈ xs, AtomV x = true) → DpAll K H xs (xs.map atomD)
  | [], _ => .nil
  | x :: r, h => .cons (dp_atom (h x List.mem_cons_self)) (dpAll_atoms r fun y hy => h y (List.mem_cons_of_mem _ hy))
theorem canLay_atom {v : V} (h : AtomV v = true) : PyData.canLay0 (atomD v) = true := by
  cases v with
  | str s =>
    simp only [AtomV, Bool.and_eq_true] at h
    simp [atomD, PyData.canLay0, h.2]
  | int i => rfl
  | bl b => rfl
  | non => rfl
  | _ => cases h
theorem depth_atom (v : V) : PyData.depth (atomD v) = 0 := by
  cases v <;> simp [atomD, PyData.depth]
theorem canLay_atoms : ∀ xs : List V, (∀ x ∈ xs, AtomV x = true) → PyData.canLayAll0 (xs.map atomD) = true
  | [], _ => by simp [PyData.canLayAll0]
  | x :: r, h => by simp [PyData.canLayAll0, canLay_atom (h x List.mem_cons_self), canLay_atoms r fun y hy => h y (List.mem_cons_of_mem _ hy)]
theorem depth_atoms : ∀ xs : List V, PyData.depthAll (xs.map atomD) = 0
  | [] => by simp [PyData.depthAll]
  | n :: r => by simp [PyData.depthAll, depth_atom, depth_atoms r]
theorem shaped_atoms {xs : List V} (h : ∀ x ∈ xs, AtomV x = true) : SeqAt.shaped (.list (xs.map atomD)) = true := by
  unfold SeqAt.shaped
  simp only [PyData.canLay0, PyData.depth, canLay_atoms xs h, depth_atoms]
  decide
/-! ### the law's look at a deed -/
theorem deed_odd {v : V} (h : txtOf v = none) (r : List V) : deedL (v :: r) = false := by
  unfold deedL
  simp only [h]
theorem deed_word {z : Str} (h : formOf z = none) (r : List V) : deedL (.str z :: r) = false := by
  unfold deedL
  simp only [txtOf, h]
theorem deed_is {z : Str} {k : Nat} (h : formOf z = some k) (r : List V) : deedL (.str z :: r) = ((r.take k).all nameV && (if wayW z = true then decide (r.length = k + 1) && wayV (r.getLastD .non) else decide (r.length = k))) := by
  unfold deedL
  simp only [txtOf, h]
theorem deed_short {xs : List V} (h : xs.length < 3) : deedL xs = false := by
  match xs, h with
  | [], _ => rfl
  | v :: r, h =>
    cases hv : txtOf v with
    | none => exact deed_odd hv r
    | some z =>
      cases v <;> try (cases hv)
      cases hf : formOf z with
      | none => exact deed_word hf r
      | some k =>
        obtain ⟨hk2, hk5⟩ := formOf_small hf
        simp only [List.length_cons] at h
        rw [deed_is hf, decide_eq_false (show ¬ r.length = k + 1 by omega), decide_eq_false (show ¬ r.length = k by omega)]
        simp
end
end Y3

set_option Elab.async false
set_option linter.all false
set_option maxRecDepth 100000
set_option maxHeartbeats 2000000
namespace Y4
open PySem PySem.Spec PyProof.Rows L2 Cau Dr15 Y1 Y2 Y3
abbrev sCheckDeed : Stmt := topS 19
abbrev sAreSteps : Stmt := topS 20
abbrev sIsDrawing : Stmt := topS 21
abbrev sToolOf : Stmt := topS 23
abbrev sCheckDrawing : Stmt := topS 31
/-! ### a walk over a list or a tuple -/
def SqX (K : PySem.W.Frag) (H : Hp) (p : Addr) (xs : List V) : Prop := SqL K H p xs ∨ SqT K H p xs
theorem SqX.same {K : PySem.W.Frag} {H H' : Hp} {p : Addr} {xs : List V} (h : SqX K H p xs) (s : Same H H') : SqX K H' p xs := by
  rcases h with h | h
  · exact .inl (s.seq h)
  · exact .inr (sqT_same h s)
def SeqAt (K : PySem.W.Frag) (a : Addr) (xs : List V) (R : It → Hp → Prop) (H1 : Hp) : Prop :=
  (SqL K H1 a xs ∧ ∀ J : It, Walk J xs.length (fun H => SqL K H a xs) (YAt xs) → R J H1) ∨ (SqT K H1 a xs ∧ ∀ J : It, Walk J xs.length (fun H => SqT K H a xs) (YAt xs) → R J H1)
theorem seq_of {K : PySem.W.Frag} {a : Addr} {xs : List V} {R : It → Hp → Prop} {H0 H1 : Hp} (h : SqX K H0 a xs) (s : Same H0 H1) (q : ∀ (J : It) (G : Hp → Prop), Walk J xs.length G (YAt xs) → (∀ H', Same H0 H' → G H') → R J H1) : SeqAt K a xs R H1 := by
  rcases h with h | h
  · exact .inl ⟨s.seq h, fun J w => q J _ w fun H' s' => s'.seq h⟩
  · exact .inr ⟨sqT_same h s, fun J w => q J _ w fun H' s' => sqT_same h s'⟩
def iSeq (K : PySem.W.Frag) (tl : TE) : TI := fun σ H R => tl σ H fun x H1 => ∃ a xs, x = .ref a ∧ SeqAt K a xs R H1
theorem pi_seq {X : Cx} {tg l : Expr} {tl : TE} (hl : PE X l tl) : PI X tg l (iSeq X.K tl) := by
  constructor
  intro pins s σ H R I h
  refine thn (hl.run pins s σ H _ I h) ?_
  rintro v s1 ⟨x, H1, I1, r1, a, xs, ex, hq⟩
  subst ex
  cases r1
  rcases hq with ⟨hq, q⟩ | ⟨hq, q⟩
  · obtain ⟨its, rv, p, hz⟩ := I1.list hq
    exact wpAny_pyIter_list p.isList (pi_one (tk := s1.toks) I1 _ (turn_list a _) ⟨_, Heap.get?_push_size _ rfl, rfl, rfl⟩ (q _ walk_list))
  · obtain ⟨its, rv, p, hz⟩ := I1.tuple hq
    exact wpAny_pyIter_tuple (show s1.heap.IsTuple a its.toArray from p) (pi_one (tk := s1.toks) I1 _ (turn_tuple a _) ⟨_, Heap.get?_push_size _ rfl, rfl, rfl⟩ (q _ walk_tup))
theorem dc_it {J : It} {n : Nat} {G : Hp → Prop} {Y : Nat → Hp → V → Hp → Prop} (w : Walk J n G Y) {g : TG} {tt : TT} {tk tv : TE} {vs : List Nat} {σ : L2.St} {H1 : Hp} {D : Addr} {Qd : Hp → Prop} (Pv : Nat → Hp → Prop) (h0 : Pv 0 (upd H1 D (.dK []))) (hG : ∀ i H, i ≤ n → Pv i H → G H)
    (hs : ∀ i x H H', i < n → Pv i H → Y i H x H' → g x (wipe σ vs) H' fun σ2 H2 => wipe σ2 vs = wipe σ vs ∧ tt σ2 H2 fun b H3 =>
      if b = true then tk σ2 H3 fun y H4 => tv σ2 H4 fun z H5 => ∃ kvs k, y = kV k ∧ H5 D = some (.dK kvs) ∧ kvs.length < sizeLine ∧ Pv (i + 1) (upd H5 D (.dK (putK kvs k z))) else Pv (i + 1) H3) (hd : ∀ H, Pv n H → Qd H) :
    ∃ W : Nat → Nat → Hp → Prop, (∃ m, W 0 m (upd H1 D (.dK []))) ∧ ∀ i m H, W i m H →
      (J.stop i H ∧ Qd H) ∨ (J.go i H ∧ ∃ Nx : Hp → Prop, (∀ H', Nx H' → ∃ m', m' < m ∧ W (i + 1) m' H') ∧ ∀ x H', J.yld i H x H' → g x (wipe σ vs) H' fun σ2 H2 => wipe σ2 vs = wipe σ vs ∧ tt σ2 H2 fun b H3 =>
        if b = true then tk σ2 H3 fun y H4 => tv σ2 H4 fun z H5 => ∃ kvs k, y = kV k ∧ H5 D = some (.dK kvs) ∧ kvs.length < sizeLine ∧ Nx (upd H5 D (.dK (putK kvs k z))) else Nx H3) := by
  refine ⟨fun i m H => m = n - i ∧ i ≤ n ∧ Pv i H, ⟨n, rfl, Nat.zero_le _, h0⟩, ?_⟩
  rintro i _ H ⟨rfl, le, pv⟩
  have gh := hG i H le pv
  rcases Nat.lt_or_eq_of_le le with lt | rfl
  · right
    refine ⟨w.goes i H lt gh, fun H' => Pv (i + 1) H', fun H' p' => ⟨_, Nat.sub_lt_sub_left lt (Nat.lt_succ_self i), rfl, lt, p'⟩, ?_⟩
    exact fun x H' y => hs i x H H' lt pv (w.yields i H x H' lt gh y)
  · exact .inl ⟨w.stops H gh, hd H pv⟩
/-! ### steps -/
/-- how a value stands as a step -/
inductive Sd
  | bad
  | pair (n : V) (d : Option (List V))
def SdOk (K : PySem.W.Frag) (H : Hp) (y : V) : Sd → Prop
  | .bad => NotTup H y ∨ ∃ p xs, y = .ref p ∧ SqT K H p xs ∧ xs.length ≠ 2
  | .pair n d => ∃ p z, y = .ref p ∧ SqT K H p [n, z] ∧ AtomV n = true ∧ Dd K H z d
theorem SdOk.same {K : PySem.W.Frag} {H H' : Hp} {y : V} {d : Sd} (h : SdOk K H y d) (s : Same H H') : SdOk K H' y d := by
  cases d with
  | bad =>
    rcases h with h | ⟨p, xs, e, h, r⟩
    · exact .inl (h.same s)
    · exact .inr ⟨p, xs, e, sqT_same h s, r⟩
  | pair n d =>
    obtain ⟨p, z, e, h, a, r⟩ := h
    exact ⟨p, z, e, sqT_same h s, a, r.same s⟩
/-- the names of a deed -/
def namesL (xs : List V) : List Str :=
  match xs with
  | .str z :: r => match formOf z with
    | some k => (r.take k).filterMap txtOf
    | none => []
  | _ => []
def stepB (d : Sd) (kn : List Str) : Option Str :=
  match d with
  | .pair n (some xs) => match txtOf n with
    | some s => if (nameS s && deedL xs && !decide (s ∈ kn) && (namesL xs).all fun u => decide (u ∈ kn)) = true then some s else none
    | none => none
  | _ => none
def goesB : List Sd → List Str → Bool
  | [], _ => true
  | d :: r, kn => match stepB d kn with
    | some s => goesB r (kn ++ [s])
    | none => false
def goesO (o : Option (List Sd)) (kn : List Str) : Bool := match o with
  | some ds => goesB ds kn
  | none => false
/-- a value as a list of steps -/
def Sv (K : PySem.W.Frag) (H : Hp) (x : V) (o : Option (List Sd)) : Prop :=
  (∃ p ys ds, x = .ref p ∧ SqX K H p ys ∧ ys.length = ds.length ∧ ys.length ≤ 200 ∧ (∀ (i : Nat) y d, ys[i]? = some y → ds[i]? = some d → SdOk K H y d) ∧ o = some ds) ∨ (NotSeq H x ∧ o = none)
theorem Sv.same {K : PySem.W.Frag} {H H' : Hp} {x : V} {o : Option (List Sd)} (h : Sv K H x o) (s : Same H H') : Sv K H' x o := by
  rcases h with ⟨p, ys, ds, e, h, l, l2, a, r⟩ | ⟨h, r⟩
  · exact .inl ⟨p, ys, ds, e, h.same s, l, l2, fun i y d e1 e2 => (a i y d e1 e2).same s, r⟩
  · exact .inr ⟨h.same s, r⟩
def spSteps (K : PySem.W.Frag) : Sp := fun vs H Q _ => ∃ (x : V) (o : Option (List Sd)) (nm : Addr) (ns : List Str), vs = [x, .ref nm] ∧ Sv K H x o ∧ SqX K H nm (ns.map V.str) ∧ ns.length ≤ 500 ∧ ∀ H', Same H H' → Q (.bl (goesO o ns)) H'
/-- a dict whose keys are these texts -/
def Keys (kvs : List (Key × V)) (kn : List Str) : Prop := ∀ s : Str, (valV kvs (.inr s)).isSome = decide (s ∈ kn)
theorem names_is {w0 : Str} {k : Nat} (h : formOf w0 = some k) (r : List V) : namesL (.str w0 :: r) = (r.take k).filterMap txtOf := by
  unfold namesL
  simp only [h]
theorem deed_shape {xs : List V} (h : deedL xs = true) : ∃ w0 r k, xs = .str w0 :: r ∧ formOf w0 = some k ∧ (r.take k).all nameV = true := by
  match xs, h with
  | v :: r, h =>
    cases hv : txtOf v with
    | none => rw [deed_odd hv] at h; cases h
    | some z =>
      cases v <;> try (cases hv)
      cases hf : formOf z with
      | none => rw [deed_word hf] at h; cases h
      | some k =>
        rw [deed_is hf, Bool.and_eq_true] at h
        exact ⟨z, r, k, rfl, hf, h.1⟩
def knownV (kn : List Str) (v : V) : Bool := match txtOf v with
  | some u => decide (u ∈ kn)
  | none => false
theorem known_all (kn : List Str) : ∀ xs : List V, xs.all nameV = true → (xs.all fun x => knownV kn x) = (xs.filterMap txtOf).all fun u => decide (u ∈ kn)
  | [], _ => rfl
  | x :: r, h => by
    rw [List.all_cons, Bool.and_eq_true] at h
    cases x with
    | str u =>
      rw [List.all_cons, List.filterMap_cons, known_all kn r h.2]
      rfl
    | _ => exact absurd h.1 (by simp [nameV, txtOf, nameO])
theorem step_odd {n : V} (h : txtOf n = none) (d : Option (List V)) (kn : List Str) : stepB (.pair n d) kn = none := by
  cases d with
  | none => rfl
  | some xs =>
    unfold stepB
    simp only [h]
theorem step_str (s : Str) (xs : List V) (kn : List Str) : stepB (.pair (.str s) (some xs)) kn = if (nameS s && deedL xs && !decide (s ∈ kn) && (namesL xs).all fun u => decide (u ∈ kn)) = true then some s else none := rfl
theorem step_name {n : V} (h : nameO (txtOf n) = false) (d : Option (List V)) (kn : List Str) : stepB (.pair n d) kn = none := by
  cases ht : txtOf n with
  | none => exact step_odd ht d kn
  | some s =>
    cases n <;> try (cases ht)
    cases d with
    | none => rfl
    | some xs =>
      have h' : nameS s = false := h
      rw [step_str, h']
      rfl
theorem Keys.nil : Keys [] [] := fun s => rfl
theorem Keys.put {kvs : List (Key × V)} {kn : List Str} (h : Keys kvs kn) (s : Str) (v : V) : Keys (putK kvs (.inr s) v) (kn ++ [s]) := fun u => by
  rw [valV_put]
  by_cases e : u = s
  · subst e
    rw [if_pos rfl]
    simp
  · rw [if_neg fun z => e (Sum.inr.inj z), h u, Bool.eq_iff_iff]
    simp [e]
section
variable {P : Program} {w : World} {K : PySem.W.Frag} {mg : Str → Option Value} {base : Heap}
def stepsN : List Str := ["value", "names", "name", "known", "pair", "deed", "used"]
theorem scS : FnScope stepsN ["value", "names"] (defScope sAreSteps) := ⟨rfl, rfl, rfl, by decide +kernel, rfl, by decide +kernel, by decide +kernel⟩
theorem ok_steps {f fL fT fN fD fDN : Addr} {fd fdL fdT fdN fdD fdDN : FuncData} (F : Fun K "are_steps" "are_steps" sAreSteps f fd)
    (FL : Fun K "is_list" "is_list" sIsList fL fdL) (GL : FnOk P w K mg base CX0 1 fL fdL ["value"] (spIsList K)) (bL : Binds K fdL ["value"] []) (gL : mg "is_list" = some (.ref fL))
    (FT : Fun K "is_tuple_of" "is_tuple_of" sTupleOf fT fdT) (GT : FnOk P w K mg base CX0 1 fT fdT ["value", "size"] (spTupleOf K)) (bT : Binds K fdT ["value", "size"] []) (gT : mg "is_tuple_of" = some (.ref fT))
    (FN : Fun K "is_name" "is_name" sIsName fN fdN) (GN : FnOk P w K mg base CX0 1 fN fdN ["value"] (spName K)) (bN : Binds K fdN ["value"] []) (gN : mg "is_name" = some (.ref fN))
    (FD : Fun K "is_deed" "is_deed" sIsDeed fD fdD) (GD : FnOk P w K mg base CX0 2 fD fdD ["value"] (spDeed K)) (bD : Binds K fdD ["value"] []) (gD : mg "is_deed" = some (.ref fD))
    (FDN : Fun K "deed_names" "deed_names" sDeedNames fDN fdDN) (GDN : FnOk P w K mg base CX0 1 fDN fdDN ["deed"] (spDN K)) (bDN : Binds K fdDN ["deed"] []) (gDN : mg "deed_names" = some (.ref fDN))
    (ma : mg "all" = none) : FnOk P w K mg base CX0 3 f fd ["value", "names"] (spSteps K) := by
  refine F.ok scS (fun vs H Q E h => ?_) (fun cdv A outer s H vs Q E hr h => ?_)
  · obtain ⟨x, o, nm, ns, rfl, _⟩ := h
    rfl
  · obtain ⟨x, o, nm, ns, rfl, hx, hns, hnl, q⟩ := h
    have hu := hu_of (hr.mono (Nat.zero_le _) : Room 0 _)
    have hr1 : Room 1 _ := hr.mono (by decide)
    refine ⟨_, pss_cons (ps_if (pt_not (pt_val (pe_call GL hr1 (by rfl) gL FL.kp bL .nil pass0 (pa_cons (pv 0) pa_nil)))) (pss_one (ps_ret pe_bl)) pss_nil)
      (pss_cons (ps_set (i := 3) scS.nd rfl (.inr rfl) (pe_dc (own := [("name", 2)]) (g := gName 2) (tt := tYes) rfl scS.nd (pi_seq (pv 1))
          (blkOk_by (own := [("name", 2)]) (N := stepsN) (sc := defScope sAreSteps) (by decide +kernel))
          (fun _ _ _ _ _ => pg_name (i := 2) scS.nd rfl (.inl rfl)) (fun _ _ _ _ _ => pts_nil) (fun _ _ _ _ _ => pv 2) (fun _ _ _ _ _ => pe_bl)))
      (pss_cons (ps_for PassesOwn.never rfl (pi_seq (pv 0)) (pg_name (i := 4) scS.nd rfl (.inl rfl))
        (pss_cons (ps_if (PW.pt (pw_or (pt_not (pt_val (pe_call GT hr1 (by rfl) gT FT.kp bT .nil pass0 (pa_cons (pv 4) (pa_cons pe_int pa_nil)))))
            (pw_or (pt_not (pt_val (pe_call GN hr1 (by rfl) gN FN.kp bN .nil pass0 (pa_cons (pe_ix ix_tup (pv 4) pe_int (fun _ _ => rfl)) pa_nil))))
            (pw_or1 (pt_not (pt_val (pe_call GD hr (by rfl) gD FD.kp bD .nil pass0 (pa_cons (pe_ix ix_tup (pv 4) pe_int (fun _ _ => rfl)) pa_nil)))))))) (pss_one (ps_ret pe_bl)) pss_nil)
        (pss_cons (ps_asg (pv 4) (pg_tup (by rfl) (pgs_cons (pg_name (i := 2) scS.nd rfl (.inl rfl)) (pgs_cons (pg_name (i := 5) scS.nd rfl (.inl rfl)) pgs_nil))))
        (pss_cons (ps_if (PW.pt (pw_or (pt_cmp (pc_din hu (pv 2) (pv 3)))
            (pw_or1 (pt_not (pt_val (pe_callB (cr_all rfl) (by rfl) ma (by decide +kernel) (pa_cons
              (pe_lc (own := [("used", 6)]) (g := gName 6) (tt := tYes) rfl scS.nd (pi_tup (pe_call GDN hr1 (by rfl) gDN FDN.kp bDN .nil pass0 (pa_cons (pv 5) pa_nil)))
                (blkOk_by (own := [("used", 6)]) (N := stepsN) (sc := defScope sAreSteps) (by decide +kernel))
                (fun _ _ _ _ _ => pg_name (i := 6) scS.nd rfl (.inl rfl)) (fun _ _ _ _ _ => pts_nil)
                (fun _ _ _ _ _ => pe_cmp (pc_din hu (pv 6) (pv 3)))) pa_nil))))))) (pss_one (ps_ret pe_bl)) pss_nil)
        (pss_one (ps_dput hu (pv 3) (pv 2) pe_bl rfl))))))
      (pss_one (ps_ret pe_bl)))), ?_⟩
    have q' : ∀ b H', goesO o ns = b → Same H H' → Q (.bl b) H' := fun b H' e sm => by
      subst e
      exact q H' sm
    rcases hx with ⟨p, ys, ds, rfl, hq, hl, hl2, hok, rfl⟩ | ⟨hn, rfl⟩
    · refine ⟨_, rfl, .ref p, some ys, rfl, .inl ⟨p, ys, rfl, hq, rfl⟩, fun H1 sm1 => ⟨_, rfl, iteF ?_⟩⟩
      refine ⟨_, rfl, nm, ns.map V.str, rfl, seq_of hns sm1 fun J G wk hG => fun D nD => ?_⟩
      have nD0 : H D = none := PySem.Spec.same_none sm1 nD
      refine dc_it wk (fun i H' => ∃ kvs, H' D = some (.dK kvs) ∧ Keys kvs (ns.take i) ∧ kvs.length ≤ i ∧ Same H H') ⟨[], upd_same, Keys.nil, Nat.le_refl _, same_put sm1 nD0⟩ (fun i H' _ ⟨_, _, _, _, sm⟩ => hG _ sm) ?_ ?_
      · rintro i x H2 H3 hi ⟨kvs, hD, hk, hkl, sm⟩ ⟨rfl, hx⟩
        obtain ⟨z, rfl, hz⟩ : ∃ z, x = V.str z ∧ ns[i]? = some z := by
          rw [List.getElem?_map] at hx
          cases e : ns[i]? with
          | none => rw [e] at hx; cases hx
          | some z => rw [e] at hx; exact ⟨z, (Option.some.inj hx).symm, rfl⟩
        rw [List.length_map] at hi
        refine ⟨rfl, _, rfl, kvs, .inr z, rfl, hD, small1000 (by omega), _, upd_same, ?_, Nat.le_trans (length_putK _ _ _) (by omega), same_put sm nD0⟩
        rw [List.take_succ, hz]
        exact hk.put z _
      · rintro H2 ⟨kvs0, hD0, hk0, hkl0, sm0⟩
        rw [List.length_map] at hk0 hkl0
        rw [List.take_length] at hk0
        -- the steps
        refine ⟨_, rfl, p, ys, rfl, seq_of hq sm0 fun J G wk hG => for_it wk (fun i σ H' => ∃ (y2 y4 y5 y6 : Option V) (kvs : List (Key × V)) (kn : List Str), σ = [some (.ref p), some (.ref nm), y2, some (.ref D), y4, y5, y6] ∧ H' D = some (.dK kvs) ∧ Keys kvs kn ∧ kvs.length ≤ 500 + i ∧ Same H H' ∧ goesB ds ns = goesB (ds.drop i) kn)
          ⟨none, none, none, none, kvs0, ns, rfl, hD0, hk0, by omega, sm0, rfl⟩ (fun i σ H' _ ⟨_, _, _, _, _, _, _, _, _, _, sm, _⟩ => hG _ sm) ?_ ?_⟩
        · rintro i y σ H3o H3 hi ⟨y2, y4, y5, y6, kvs, kn, rfl, hD, hk, hkl, sm, hg⟩ ⟨rfl, hy⟩
          have hid : i < ds.length := by omega
          have hd : ds[i]? = some ds[i] := List.getElem?_eq_getElem hid
          have hdr : ds.drop i = ds[i] :: ds.drop (i + 1) := List.drop_eq_getElem_cons hid
          have sd := (hok i y _ hy hd).same sm
          rw [hdr] at hg
          have no : stepB ds[i] kn = none → goesO (some ds) ns = false := fun z => by
            show goesB ds ns = false
            rw [hg]
            unfold goesB
            rw [z]
          generalize ds[i] = d0 at sd hg no
          have ret : stepB d0 kn = none → ∀ H', Same H H' → Q (.bl false) H' := fun z H' sm' => q' _ _ (no z) sm'
          cases d0 with
          | bad =>
            rcases sd with h | ⟨yp, xs, rfl, h, h2⟩
            · exact ⟨_, rfl, y, 2, false, rfl, .inr ⟨h, rfl⟩, _, rfl, iteT (ret rfl _ sm)⟩
            · exact ⟨_, rfl, .ref yp, 2, false, rfl, .inl ⟨yp, xs, rfl, h, (decide_eq_false h2).symm⟩, _, rfl, iteT (ret rfl _ sm)⟩
          | pair n d =>
            obtain ⟨yp, z, rfl, h, ha, dd⟩ := sd
            refine ⟨_, rfl, .ref yp, 2, true, rfl, .inl ⟨yp, _, rfl, h, rfl⟩, _, rfl, iteF ?_⟩
            refine ⟨_, rfl, yp, _, 0, n, rfl, rfl, h, atI_nat (j := 0) rfl, n, txtOf n, rfl, tx_atom ha, fun H4 sm4 => ⟨_, rfl, ?_⟩⟩
            cases hn : nameO (txtOf n) with
            | false =>
              exact iteT (ret (step_name hn d kn) _ (sm.trans sm4))
            | true =>
              obtain ⟨s, rfl⟩ : ∃ s, n = .str s := by
                cases n with
                | str s => exact ⟨s, rfl⟩
                | _ => cases hn
              have hns' : nameS s = true := hn
              refine iteF ?_
              have h4 := sqT_same h sm4
              refine ⟨_, rfl, yp, _, 1, z, rfl, rfl, h4, atI_nat (j := 1) rfl, z, d, rfl, dd.same sm4, fun H5 sm5 => ⟨_, rfl, ?_⟩⟩
              have h5 := sqT_same h4 sm5
              have S5 : Same H3 H5 := sm4.trans sm5
              cases hdd : deedO d with
              | false =>
                refine iteT (ret ?_ _ (sm.trans S5))
                cases d with
                | none => rfl
                | some xs =>
                  have hdl : deedL xs = false := hdd
                  rw [step_str, hdl]
                  simp
              | true =>
                refine iteF ?_
                cases d with
                | none => cases hdd
                | some xs =>
                  have hdl : deedL xs = true := hdd
                  rcases dd with ⟨zp, xs', rfl, hz, hat, hlen, e⟩ | ⟨_, e⟩
                  · cases e
                    obtain ⟨w0, r, k, rfl, hf, hall⟩ := deed_shape hdl
                    have hz5 := sqT_same hz S5
                    have hD5 := S5 _ _ hD
                    have g5 : DGet H5 D (.str s) (valV kvs (.inr s)) := DGet.k (k := (.inr s : Key)) hD5
                    refine ⟨_, rfl, yp, _, rfl, h5, rfl, _, _, rfl, _, _, rfl, rfl, ?_⟩
                    refine ⟨_, rfl, _, rfl, D, _, rfl, g5, _, rfl, ?_⟩
                    rw [hk s]
                    by_cases hsk : s ∈ kn
                    · refine iteT2 (decide_eq_true hsk) (ret ?_ _ (sm.trans S5))
                      rw [step_str]
                      simp [hsk]
                    · refine iteF2 (decide_eq_false hsk) ?_
                      refine ⟨_, rfl, zp, w0, r, k, rfl, hz5, hf, fun sp nsp => ⟨sp, rfl, ⟨_, .inl (.inl upd_same)⟩, fun D2 nD2 => ?_⟩⟩
                      have S6 : Same H5 (upd H5 sp (.tup (r.take k))) := same_upd nsp
                      refine lc_it (walk_tup (K := K) (a := sp) (xs := r.take k)) (fun i H1 => ∃ bs : List Bool, H1 D2 = some (.lst (bs.map V.bl)) ∧ bs = ((r.take k).take i).map (knownV kn) ∧ Same (upd H5 sp (.tup (r.take k))) H1) ⟨[], upd_same, rfl, same_upd nD2⟩ ?_ ?_ ?_
                      · rintro i H1 _ ⟨bs, _, _, sm⟩
                        exact .inl (.inl (sm _ _ upd_same))
                      · rintro i x H6 H7 hi ⟨bs, hD2, hbs, sm6⟩ ⟨rfl, hx⟩
                        have hxn : nameV x = true := List.all_eq_true.mp hall x (List.mem_of_getElem? hx)
                        obtain ⟨u, rfl⟩ : ∃ u, x = .str u := by
                          cases x with
                          | str u => exact ⟨u, rfl⟩
                          | _ => cases hxn
                        have g6 : DGet H7 D (.str u) (valV kvs (.inr u)) := DGet.k (k := (.inr u : Key)) (sm6 _ _ (S6 _ _ hD5))
                        refine ⟨rfl, _, rfl, _, rfl, D, _, rfl, g6, ?_⟩
                        rw [hk u]
                        refine ⟨_, hD2, ?_, bs ++ [knownV kn (.str u)], by rw [upd_same, List.map_append]; rfl, ?_, same_put sm6 nD2⟩
                        · have hk5 := (formOf_small hf).2
                          rw [List.length_map, hbs, List.length_map, List.length_take, List.length_take]
                          exact small1000 (by omega)
                        · rw [List.take_succ, List.map_append, hx, hbs]
                          rfl
                      · rintro H6 ⟨bs, hD2, hbs, sm6⟩
                        rw [List.take_length] at hbs
                        have S7 : Same H H6 := sm.trans (S5.trans (S6.trans sm6))
                        refine ⟨D2, bs, rfl, .inl (.inl hD2), _, rfl, ?_⟩
                        have eall : bs.all id = (namesL (.str w0 :: r)).all fun u => decide (u ∈ kn) := by
                          rw [hbs, names_is hf, List.all_map]
                          exact known_all kn _ hall
                        rw [eall]
                        cases e : (namesL (.str w0 :: r)).all fun u => decide (u ∈ kn) with
                        | false =>
                          refine iteT (ret ?_ _ S7)
                          rw [step_str, e]
                          simp
                        | true =>
                          refine iteF ?_
                          have hD7 : H6 D = some (.dK kvs) := sm6 _ _ (S6 _ _ hD5)
                          refine ⟨_, rfl, _, rfl, D, _, rfl, DPut.k (k := (.inr s : Key)) hD7 (small1000 (by omega)), ?_⟩
                          have st : stepB (.pair (.str s) (some (.str w0 :: r))) kn = some s := by
                            rw [step_str, e]
                            simp [hns', hdl, hsk]
                          refine ⟨_, _, _, _, _, kn ++ [s], rfl, upd_same, hk.put s _, Nat.le_trans (length_putK _ _ _) (by omega), same_put S7 nD0, ?_⟩
                          rw [hg]
                          show goesB (_ :: _) kn = _
                          conv => lhs; unfold goesB
                          rw [st]
                  · cases e
        · rintro σ H3 ⟨y2, y4, y5, y6, kvs, kn, rfl, hD, hk, hkl, sm, hg⟩
          refine q' _ _ ?_ sm
          show goesB ds ns = true
          rw [hg, hl, List.drop_length]
          rfl
    · exact ⟨_, rfl, x, none, rfl, .inr ⟨hn, rfl⟩, fun H1 sm1 => ⟨_, rfl, iteT (q' _ _ rfl sm1)⟩⟩
end
end Y4

set_option Elab.async false
set_option linter.all false
set_option maxRecDepth 100000
set_option maxHeartbeats 2000000
namespace Y5
open PySem PySem.Spec PyProof.Rows L2 Cau Dr15 Y1 Y2 Y3 Y4
section
variable {P : Program} {w : World} {K : PySem.W.Frag} {mg : Str → Option Value} {base : Heap}
theorem inV_kn (s : Str) (kn : List Str) : inV (.str s) (kn.map V.str) = decide (s ∈ kn) := by
  rw [inV_strs, Bool.eq_iff_iff]
  simp
end
end Y5

set_option Elab.async false
set_option linter.all false
set_option maxRecDepth 100000
set_option maxHeartbeats 2000000
/-! Sets of texts: made of a list or tuple, counted, sorted. -/
namespace TxtSet
open PySem PySem.Spec PyProof.Rows L2 Cau
/-- the text of an entry -/
def txE (e : Int × Value) : Str := match e.2 with
  | .str z _ => z
  | _ => ""
/-- an entry that is a text -/
def TxE (w : World) (e : Int × Value) : Prop := ∃ z tk, e.2 = Value.str z tk ∧ e.1 = hashStr w z
/-- the set of the texts L at a -/
structure SetS (w : World) (h : Heap) (a : Addr) (L : List Str) (o : Obj) (es : Array (Int × Value)) (ep : Nat) (t : SetTable) : Prop where
  ob : h.get? a = some o
  ex : o.ExactSet
  dat : o.data = .set es ep t
  tx : ∀ e ∈ es.toList, TxE w e
  nd : L.Nodup
  pm : (es.toList.map txE).Perm L
  few : L.length < 100
  fit : t.fits es.size = true
  ris : Ris t.place.toList
  led : w.params.followText "set-order" = true ∨ t.led = true
section
variable {P : Program} {w : World} {h h' : Heap} {a : Addr} {L : List Str} {o : Obj} {es : Array (Int × Value)} {ep : Nat} {t : SetTable}
theorem SetS.size (R : SetS w h a L o es ep t) : es.size = L.length := by
  rw [← Array.length_toList, ← List.length_map (f := txE), R.pm.length_eq]
theorem SetS.keep (R : SetS w h a L o es ep t) (k : ∀ o, h.get? a = some o → h'.get? a = some o) : SetS w h' a L o es ep t :=
  { ob := k o R.ob, ex := R.ex, dat := R.dat, tx := R.tx, nd := R.nd, pm := R.pm, few := R.few, fit := R.fit, ris := R.ris, led := R.led }
theorem tx_elems {l : List (Int × Value)} (g : ∀ e ∈ l, TxE w e) : ElemsOf (strKind P w) l := fun e he => by
  obtain ⟨z, tk, h1, h2⟩ := g e he
  refine ⟨⟨z, ?_, h2⟩, ?_⟩
  · rw [h1]
    exact strKind_is P w z tk
  · rw [h1]
    rfl
theorem tx_is {e : Int × Value} (g : TxE w e) (z : Str) : (strKind P w).is z e.2 = true ↔ txE e = z := by
  obtain ⟨y, tk, h1, _⟩ := g
  unfold txE
  rw [h1]
  constructor
  · intro q
    exact (strKind P w).inj _ _ _ (strKind_is P w y tk) q
  · intro q
    have q' : y = z := q
    subst q'
    exact strKind_is P w y tk
theorem SetS.bound (R : SetS w h a L o es ep t) : es.size < scanBound := by
  rw [R.size]
  exact Nat.lt_trans R.few (by decide)
end
section
variable {P : Program} {w : World} {A : Around} {E : Value → Shared → Prop} {s : Shared} {a : Addr} {L : List Str}
/-- once the entry has its place: the table may be laid anew -/
theorem put_end {g : Bool → Sem Unit} (hg : ∀ (b : Bool) (s₁ : Shared) (Q' : Unit → Shared → Prop), Q' () s₁ → wpAny (model P w) A (g b) Q' E s₁) {o : Obj} {es : Array (Int × Value)} {ep : Nat} {t : SetTable}
    (ho : s.heap.get? a = some o) (hex : o.ExactSet) (hd : o.data = .set es ep t) {new : Array (Int × Value)} {tab : SetTable} (tx : ∀ e ∈ new.toList, TxE w e) (nd : L.Nodup) (pm : (new.toList.map txE).Perm L) (few : L.length < 100)
    (fit : tab.fits new.size = true) (ris : Ris tab.place.toList) (led : w.params.followText "set-order" = true ∨ tab.led = true) {dummy : Bool} {R : Option Bool → Shared → Prop}
    (hR : ∀ h' o' es' ep' t', Heap.SameBut a s.heap h' → SetS w h' a L o' es' ep' t' → R (some true) { s with heap := h' }) :
    wpAny (model P w) A (do
        storeSet a new tab
        if (!dummy && tab.tooFull) = true then do
            g (relayAll tab new (SetTable.grown new.size)).2.2
            storeSet a (relayAll tab new (SetTable.grown new.size)).1 (relayAll tab new (SetTable.grown new.size)).2.1
            pure (some true)
          else pure (some true)) R E s := by
  have small : new.size < scanBound := by
    rw [← Array.length_toList, ← List.length_map (f := txE), pm.length_eq]
    exact Nat.lt_trans few (by decide)
  have fits1 := fits_of_scanBound small
  have at1 := store_at (es' := new) (t' := tab) ho hd
  have sb1 := Heap.SameBut.update s.heap a (Obj.putSet new tab)
  have plain : R (some true) { s with heap := s.heap.update a (Obj.putSet new tab) } := hR _ _ _ _ _ sb1 { ob := at1, ex := hex, dat := rfl, tx := tx, nd := nd, pm := pm, few := few, fit := fit, ris := ris, led := led }
  refine wpAny_bind (wpAny_storeSet_of ho hd ?_ fits1)
  split
  case isTrue =>
    obtain ⟨Z, hZ⟩ : ∃ Z, Z = relayAll tab new (SetTable.grown new.size) := ⟨_, rfl⟩
    have p2 := relayAll_perm tab new (SetTable.grown new.size)
    have f2 := relayAll_fits tab new (SetTable.grown new.size)
    have r2 := relayAll_ris tab new (SetTable.grown new.size)
    have l2 := relayAll_led tab new (SetTable.grown new.size)
    rw [← hZ] at p2 f2 r2 l2 ⊢
    have sz : Z.1.size = new.size := by
      have q := p2.length_eq
      rw [Array.length_toList, Array.length_toList] at q
      exact q
    refine wpAny_bind (hg _ _ _ ?_)
    have small2 : Z.1.size < scanBound := sz ▸ small
    refine wpAny_bind (wpAny_storeSet_of at1 rfl ?_ (fits_of_scanBound small2))
    have at2 := store_at (es' := Z.1) (t' := Z.2.1) at1 rfl
    have fin : SetS w _ a L _ Z.1 _ Z.2.1 := { ob := at2, ex := hex, dat := rfl, tx := fun e he => tx e (p2.mem_iff.mp he), nd := nd, pm := (p2.map txE).trans pm, few := few, fit := f2, ris := r2, led := led.imp id fun z => l2.trans z }
    exact wpAny_pure (hR _ _ _ _ _ (sb1.trans (Heap.SameBut.update _ a _)) fin)
  all_goals exact wpAny_pure plain
/-- the set behind an add -/
def added (L : List Str) (z : Str) : List Str := if z ∈ L then L else z :: L
theorem put_txt {z : Str} {tk : Tok} {o : Obj} {es : Array (Int × Value)} {ep : Nat} {t : SetTable} {Q : Bool → Shared → Prop} (R : SetS w s.heap a L o es ep t) (room : L.length + 1 < 100)
    (hQ : ∀ b h' o' es' ep' t', Heap.SameBut a s.heap h' → SetS w h' a (added L z) o' es' ep' t' → Q b { s with heap := h' }) : wpAny (model P w) A (setAddHashed a (.str z tk) (hashStr w z)) Q E s := by
  have key : (strKind P w).is z (.str z tk) = true := strKind_is P w z tk
  have scn : (Value.str z tk).scannable = true := rfl
  have el : ElemsOf (strKind P w) es.toList := tx_elems R.tx
  have hh : hashStr w z = (strKind P w).hash z := rfl
  have bnd := R.bound
  rw [hh]
  unfold setAddHashed setAddHashedIn
  refine wpAny_holding (wpAny_bind (wpAny_setState_of R.ob R.dat R.fit ?_))
  dsimp only
  rw [byScan_of scn bnd el]
  simp only [↓reduceIte]
  unfold setAddByScan
  refine wpAny_bind (wpAny_bind (wpAny_rule ?_))
  refine wpAny_bind (wpAny_setScan_of key R.ob R.dat R.fit el ?_)
  have there : z ∈ L ↔ ∃ e ∈ es.toList, (strKind P w).is z e.2 = true := by
    rw [← R.pm.mem_iff, List.mem_map]
    exact ⟨fun ⟨e, he, q⟩ => ⟨e, he, (tx_is (R.tx e he) z).mpr q⟩, fun ⟨e, he, q⟩ => ⟨e, he, (tx_is (R.tx e he) z).mp q⟩⟩
  cases hf : List.findIdx? (fun e => (strKind P w).is z e.2) es.toList with
  | some j =>
    obtain ⟨hj, pj, _⟩ := List.findIdx?_eq_some_iff_getElem.mp hf
    have hz : z ∈ L := there.mpr ⟨_, List.getElem_mem hj, pj⟩
    refine wpAny_pure (wpAny_pure (hQ _ s.heap o es ep t (Heap.SameBut.refl a s.heap) ?_))
    unfold added
    rw [if_pos hz]
    exact R
  | none =>
    have hz : z ∉ L := fun q => by
      obtain ⟨e, he, y⟩ := there.mp q
      have c := List.findIdx?_eq_none_iff.mp hf e he
      rw [y] at c
      cases c
    have hL : added L z = z :: L := if_neg hz
    rw [hL] at hQ
    have way : ∀ (b : Bool) {s₁ : Shared} {Q' : Unit → Shared → Prop}, Q' () s₁ → wpAny (model P w) A (match b with | true => rule "set.scan.the-table-gave-way" | false => pure ()) Q' E s₁ := by
      intro b s₁ Q' q
      cases b
      · exact wpAny_pure q
      · exact wpAny_rule q
    have p1 := layNew_perm t es ((strKind P w).hash z) (.str z tk)
    have f1 := layNew_fits t es ((strKind P w).hash z) (.str z tk)
    have r1 := layNew_ris t es ((strKind P w).hash z) (.str z tk) R.ris
    have l1 := layNew_led t es ((strKind P w).hash z) (.str z tk)
    dsimp only
    obtain ⟨Z, hZ⟩ : ∃ Z, Z = layNew t es ((strKind P w).hash z) (.str z tk) := ⟨_, rfl⟩
    rw [← hZ] at p1 f1 r1 l1 ⊢
    clear hZ
    obtain ⟨new, tab, dummy, gave⟩ := Z
    dsimp only at p1 f1 r1 l1 ⊢
    rw [Array.toList_push] at p1
    have pc := p1.trans (List.perm_append_singleton _ _)
    have tx : ∀ e ∈ new.toList, TxE w e := fun e he => by
      rcases List.mem_cons.mp (pc.mem_iff.mp he) with q | q
      · exact ⟨z, tk, by rw [q], by rw [q]; rfl⟩
      · exact R.tx e q
    have pm : (new.toList.map txE).Perm (z :: L) := (pc.map txE).trans (List.Perm.cons _ R.pm)
    have nd : (z :: L).Nodup := List.nodup_cons.mpr ⟨hz, R.nd⟩
    have few : (z :: L).length < 100 := room
    have led : w.params.followText "set-order" = true ∨ tab.led = true := R.led.imp id fun q => l1.trans q
    refine wpAny_bind (way _ ?_)
    split
    · refine wpAny_bind ?_
      rw [hashByValue_scannable 8 scn]
      refine wpAny_pure ?_
      refine put_end (L := z :: L) ?_ R.ob R.ex R.dat tx nd pm few ?_ ?_ ?_ ?_
      · intro b s₁ Q' q
        exact way b q
      · first | (split <;> first | exact f1 | exact SetTable.fits_plain_off f1) | exact f1
      · first | (split <;> exact r1) | exact r1
      · first | (split <;> exact led) | exact led
      · intro h' o' es' ep' t' sb r
        exact wpAny_pure (hQ _ h' _ _ _ _ sb r)
    · refine wpAny_bind (wpAny_pure ?_)
      simp only [↓reduceIte]
      refine put_end (L := z :: L) ?_ R.ob R.ex R.dat tx nd pm few f1 r1 led ?_
      · intro b s₁ Q' q
        exact way b q
      · intro h' o' es' ep' t' sb r
        exact wpAny_pure (hQ _ h' _ _ _ _ sb r)
end
/-! ### set(..) -/
/-- behind the first i of the texts -/
def met (zs : List Str) (i : Nat) : List Str := (zs.take i).foldl added []
theorem added_mem {L : List Str} {z y : Str} : y ∈ added L z ↔ y = z ∨ y ∈ L := by
  unfold added
  split
  · rename_i h
    exact ⟨.inr, fun q => q.elim (fun e => e ▸ h) id⟩
  · exact List.mem_cons
theorem added_len (L : List Str) (z : Str) : (added L z).length ≤ L.length + 1 := by
  unfold added
  split
  · exact Nat.le_succ _
  · exact Nat.le_refl _
theorem met_next {zs : List Str} {i : Nat} {z : Str} (h : zs[i]? = some z) : met zs (i + 1) = added (met zs i) z := by
  unfold met
  rw [List.take_succ, h, List.foldl_append]
  rfl
theorem met_len (zs : List Str) : ∀ i, (met zs i).length ≤ i
  | 0 => by simp [met]
  | i + 1 => by
    cases h : zs[i]? with
    | none =>
      have e : met zs (i + 1) = met zs i := by
        unfold met
        rw [List.take_succ, h]
        simp
      rw [e]
      exact Nat.le_succ_of_le (met_len zs i)
    | some z =>
      rw [met_next h]
      exact Nat.le_trans (added_len _ _) (Nat.succ_le_succ (met_len zs i))
theorem met_mem {zs : List Str} {y : Str} : ∀ i, y ∈ met zs i ↔ y ∈ zs.take i
  | 0 => by simp [met]
  | i + 1 => by
    cases h : zs[i]? with
    | none =>
      have e : zs.take (i + 1) = zs.take i := by
        rw [List.take_succ, h]
        simp
      have e2 : met zs (i + 1) = met zs i := by
        unfold met
        rw [e]
      rw [e, e2]
      exact met_mem i
    | some z =>
      rw [met_next h, added_mem, met_mem i, List.take_succ, h]
      simp [or_comm]
/-- a set as it is made -/
def newOb (w : World) : Obj := { cls := .type "set", dict := none, data := .set #[] 0 (.fresh 0 0 (!w.params.followText "set-order")) }
theorem setS_new {w : World} {h : Heap} {a : Addr} (e : h.get? a = some (newOb w)) : SetS w h a [] (newOb w) #[] 0 (.fresh 0 0 (!w.params.followText "set-order")) where
  ob := e
  ex := ⟨rfl, rfl, rfl⟩
  dat := rfl
  tx := fun _ q => by cases q
  nd := List.nodup_nil
  pm := List.Perm.refl _
  few := by decide
  fit := rfl
  ris := List.Pairwise.nil
  led := by
    show _ ∨ (!w.params.followText "set-order") = true
    cases w.params.followText "set-order"
    · exact .inr rfl
    · exact .inl rfl
section
variable {P : Program} {w : World} {A : Around} {E : Value → Shared → Prop} {s : Shared}
theorem upd_loop {I : Addr} {fp wr : List Addr} {G : Array GenState → Array GenState → Prop} {n : Nat} {Pv : Nat → Value → Prop} {St : Nat → Shared → Prop} {R : Result → Shared → Prop} (W : WalksS P w A.in1 I fp wr G n Pv St) (S : Addr) (hS : S ∉ fp) (zs : List Str) (hn : n = zs.length) (few : n < 99)
    (val : ∀ i v, Pv i v → ∃ z t, zs[i]? = some z ∧ v = .str z t) : ∀ (k i : Nat) (s : Shared), n - i = k → i ≤ n → St i s → (∃ o es ep t, SetS w s.heap S (met zs i) o es ep t) →
      (∀ s' o es ep t, Moved (S :: wr) G s s' → SetS w s'.heap S (met zs n) o es ep t → R (.ok (.ret .none)) s') → codeAny (model P w) A (.builtin "set.update.loop" ⟨[.ref S, .ref I], []⟩) R s := by
  have offW : S ∉ wr := fun q => hS (W.sub _ q)
  have wide : ∀ b ∈ wr, b ∈ S :: wr := fun _ q => List.mem_cons_of_mem _ q
  intro k
  induction k with
  | zero =>
    rintro i s hk hi st ⟨o, es, ep, t, r⟩ hR
    obtain rfl : i = n := by omega
    refine codeAny_builtin F.entry_set_update_loop ?_
    rw [Around.under_plainId F.plain_set_update_loop _]
    change wpAny _ A.in1 (pyNext (.ref I) >>= _) _ _ s
    refine wpAny_bind (W.done s _ _ st ?_)
    intro s' mv
    change wpAny _ A.in1 (ret Value.none) _ _ s'
    exact wpAny_pure (hR s' _ _ _ _ (mv.mono wide) (r.keep fun _ e => mv.heap S _ offW e))
  | succ k ih =>
    rintro i s hk hi st ⟨o, es, ep, t, r⟩ hR
    have lt : i < n := by omega
    refine codeAny_builtin F.entry_set_update_loop ?_
    rw [Around.under_plainId F.plain_set_update_loop _]
    change wpAny _ A.in1 (pyNext (.ref I) >>= _) _ _ s
    refine wpAny_bind (W.item i s _ _ lt st ?_)
    intro v s' pv st' mv
    obtain ⟨z, tz, hz, rfl⟩ := val i v pv
    have r' : SetS w s'.heap S (met zs i) o es ep t := r.keep fun _ e => mv.heap S _ offW e
    change wpAny _ A.in1 (holding [Value.str z tz] (setAdd S (.str z tz)) >>= _) _ _ s'
    refine wpAny_bind (wpAny_holding ?_)
    unfold setAdd
    refine wpAny_holding (wpAny_bind ((strKind P w).pyHash (strKind_is P w z tz) ?_))
    have room : (met zs i).length + 1 < 100 := by
      have := met_len zs i
      omega
    refine put_txt (s := { s' with toks := s'.toks + 1 }) r' room ?_
    intro b h' o' es' ep' t' sb r2
    rw [← met_next hz] at r2
    refine wpAny_pure ⟨plainId_quiet F.plain_set_update_loop _, ih (i + 1) _ (by omega) lt (W.frame _ s' _ _ st' (Nat.le_succ _) ?_) ⟨_, _, _, _, r2⟩ ?_⟩
    · intro b hb o e
      rw [sb.2 b fun q : b = S => hS (q ▸ hb)]
      exact e
    · intro s'' o2 es2 ep2 t2 mv2 r3
      refine hR s'' _ _ _ _ (Moved.trans W.gtrans ((mv.mono wide).then_heap (Nat.le_succ _) ?_) mv2) r3
      intro b o hb e
      rw [sb.2 b fun q : b = S => hb (q ▸ List.mem_cons_self)]
      exact e
theorem strs_at : ∀ {us : List Value} {zs : List Str}, StrsAre us zs → ∀ (i : Nat) (v : Value), us[i]? = some v → ∃ z t, zs[i]? = some z ∧ v = .str z t
  | _, _, .nil, i, v, h => by simp at h
  | _, _, .cons z t r, 0, v, h => ⟨z, t, rfl, (Option.some.inj h).symm⟩
  | _, _, .cons z t r, i + 1, v, h => by
    rw [List.getElem?_cons_succ] at h
    exact strs_at r i v h
set_option maxHeartbeats 4000000 in
theorem set_of_list {l : Addr} {items : Array Value} (zs : List Str) {Q : Value → Shared → Prop} (calm : A.handled = none) (seq : s.heap.IsList l items) (txt : StrsAre items.toList zs) (few : zs.length < 99)
    (h : ∀ (h' : Heap) (tk : Nat) o es ep t, SetS w h' s.heap.objs.size (met zs zs.length) o es ep t → (∀ b o, s.heap.get? b = some o → h'.get? b = some o) → Q (.ref s.heap.objs.size) { s with heap := h', toks := tk }) :
    wpAny (model P w) A (call (.type "set") [.ref l]) Q E s := by
  have size : items.size = zs.length := by
    rw [← Array.length_toList]
    exact txt.length
  obtain ⟨c, tl, mro⟩ := F.called_set.mro
  have made := F.called_set.made
  have subs := F.called_set.sub
  refine wpAny_call (codeAny_of_tree ?_)
  change wpAny _ _ (callAny (.type "set") _) _ _ _
  refine wpAny_pure ⟨Code.quiet_builtin _ (by decide +kernel), codeAny_builtin F.entry_type_call ?_⟩
  rw [Around.under_plain (weight_type_call_type "set" [.ref l] []) rfl]
  have n1 := F.called_set.notType
  have n2 := F.called_set.canCreate
  have n3 := F.typeCall_set_1 (.ref l)
  repeat (any_goals (first | assumption | wp_step))
  refine codeAny_mono (code_set_led1 (.ref l) (E := E) (Q₁ := fun ob s₁ => ob = .ref s.heap.objs.size ∧ s₁ = { s with heap := s.heap.push (newOb w) }) ⟨rfl, rfl⟩) ?_
  intro r s₁ hr
  match r, hr with
  | .ok (.ret ob), hr =>
    obtain ⟨rfl, rfl⟩ := hr
    have atS : (s.heap.push (newOb w)).get? s.heap.objs.size = some (newOb w) := Heap.get?_push_size _ rfl
    have isS : Shared.TypeIs { s with heap := s.heap.push (newOb w) } (.ref s.heap.objs.size) "set" := ⟨_, atS, rfl⟩
    have i1 := F.called_set.init.lookup
    have i2 := F.called_set.init.bind (.ref s.heap.objs.size)
    repeat (any_goals (first | assumption | wp_step))
    refine codeAny_mono (codeAny_call_builtin (R := wants (fun r s₂ => r = .none ∧ ∃ h' tk o es ep t, s₂ = { s with heap := h', toks := tk } ∧ SetS w h' s.heap.objs.size (met zs zs.length) o es ep t ∧ ∀ b o, s.heap.get? b = some o → h'.get? b = some o) E) F.called_set.init.plain F.entry_set_init (check_set_init_1 isS ?_)) ?_
    · obtain ⟨ol, el, cl, nl, dl⟩ := seq
      obtain ⟨oc, od, oda, osl⟩ := ol
      simp only at cl dl
      subst cl dl
      have el' : (s.heap.push (newOb w)).get? l = some { cls := .type "list", dict := od, data := .seq items nl, slots := osl } := Heap.get?_push_of_some _ el
      have s1 := F.sub_list_set
      have s2 := F.sub_list_frozenset
      have s3 : (Value.type "list" == Value.type "dict") = false := by decide
      have seq1 : (s.heap.push (newOb w)).IsList l items := ⟨_, el', rfl, nl, rfl⟩
      unfold Builtin.«set.__init__» noKeywords Builtin.Frozenset.updateFrom
      generalize hPI : pyIter = PI
      wp_walk
      subst hPI
      refine wpAny_pyIter_list seq1 ?_
      refine wpAny_bind (wpAny_runValue ?_)
      have below : l < s.heap.objs.size := Heap.lt_size el
      have calm3 : A.in1.in1.in1.handled = none := by simp [calm]
      have pushed : (s.heap.push (newOb w)).objs.size = s.heap.objs.size + 1 := Heap.size_push ..
      have offI : l ≠ (s.heap.push (newOb w)).objs.size := pushed ▸ Nat.ne_of_lt (Nat.lt_succ_of_lt below)
      have offS : s.heap.objs.size ∉ [(s.heap.push (newOb w)).objs.size, l] := by
        rw [pushed]
        intro q
        rcases List.mem_cons.mp q with q | q
        · exact Nat.ne_of_lt (Nat.lt_succ_self _) q
        · exact Nat.ne_of_gt below (List.mem_singleton.mp q)
      have val : ∀ (i : Nat) (v : Value), items[i]? = some v → ∃ z t, zs[i]? = some z ∧ v = .str z t := fun i v hv => strs_at txt i v (by rw [Array.getElem?_toList]; exact hv)
      have start : ((s.heap.push (newOb w)).push { cls := .type "list_iterator", data := .fields #[.ref l, .int 0 0] }).get? s.heap.objs.size = some (newOb w) := Heap.get?_push_of_some _ atS
      refine upd_loop ((Walks.list calm3 _ l offI items).toS) s.heap.objs.size offS zs size (by omega) val (items.size - 0) 0 _ (by omega) (Nat.zero_le _) ⟨⟨_, Heap.get?_push_size _ rfl, rfl, rfl⟩, (seq1.push _)⟩ ⟨_, _, _, _, setS_new start⟩ ?_
      intro s' o es ep t mv r
      obtain ⟨h', g', d', tk', os'⟩ := s'
      obtain rfl : g' = s.gens := mv.gens
      obtain rfl : d' = s.drawn := mv.drawn
      obtain rfl : os' = s.os := mv.os
      change wpAny _ _ _ _ _ _
      refine wpAny_pure ?_
      change wpAny _ _ (ret Value.none) _ _ _
      rw [size] at r
      refine wpAny_pure ⟨rfl, h', tk', o, es, ep, t, rfl, r, fun b ob e => ?_⟩
      have hb := Heap.lt_size e
      refine mv.heap b ob ?_ (Heap.get?_push_of_some _ (Heap.get?_push_of_some _ e))
      rw [pushed]
      intro q
      rcases List.mem_cons.mp q with q | q
      · exact Nat.ne_of_lt hb q
      · exact Nat.ne_of_lt (Nat.lt_succ_of_lt hb) (List.mem_singleton.mp q)
    · intro r₂ s₂ hr₂
      match r₂, hr₂ with
      | .ok (.ret rv), hr₂ =>
        obtain ⟨rfl, h', tk, o, es, ep, t, rfl, r, kept⟩ := hr₂
        repeat (any_goals (first | assumption | wp_step))
        exact h _ _ _ _ _ _ r kept
      | .error e, hr₂ => exact hr₂
      | .ok .next, hr₂ => exact hr₂.elim
      | .ok .brk, hr₂ => exact hr₂.elim
      | .ok .cont, hr₂ => exact hr₂.elim
  | .error e, hr => exact hr
  | .ok .next, hr => exact hr.elim
  | .ok .brk, hr => exact hr.elim
  | .ok .cont, hr => exact hr.elim
set_option maxHeartbeats 4000000 in
theorem set_of_tuple {l : Addr} {items : Array Value} (zs : List Str) {Q : Value → Shared → Prop} (calm : A.handled = none) (seq : s.heap.IsTuple l items) (txt : StrsAre items.toList zs) (few : zs.length < 99)
    (h : ∀ (h' : Heap) (tk : Nat) o es ep t, SetS w h' s.heap.objs.size (met zs zs.length) o es ep t → (∀ b o, s.heap.get? b = some o → h'.get? b = some o) → Q (.ref s.heap.objs.size) { s with heap := h', toks := tk }) :
    wpAny (model P w) A (call (.type "set") [.ref l]) Q E s := by
  have size : items.size = zs.length := by
    rw [← Array.length_toList]
    exact txt.length
  obtain ⟨c, tl, mro⟩ := F.called_set.mro
  have made := F.called_set.made
  have subs := F.called_set.sub
  refine wpAny_call (codeAny_of_tree ?_)
  change wpAny _ _ (callAny (.type "set") _) _ _ _
  refine wpAny_pure ⟨Code.quiet_builtin _ (by decide +kernel), codeAny_builtin F.entry_type_call ?_⟩
  rw [Around.under_plain (weight_type_call_type "set" [.ref l] []) rfl]
  have n1 := F.called_set.notType
  have n2 := F.called_set.canCreate
  have n3 := F.typeCall_set_1 (.ref l)
  repeat (any_goals (first | assumption | wp_step))
  refine codeAny_mono (code_set_led1 (.ref l) (E := E) (Q₁ := fun ob s₁ => ob = .ref s.heap.objs.size ∧ s₁ = { s with heap := s.heap.push (newOb w) }) ⟨rfl, rfl⟩) ?_
  intro r s₁ hr
  match r, hr with
  | .ok (.ret ob), hr =>
    obtain ⟨rfl, rfl⟩ := hr
    have atS : (s.heap.push (newOb w)).get? s.heap.objs.size = some (newOb w) := Heap.get?_push_size _ rfl
    have isS : Shared.TypeIs { s with heap := s.heap.push (newOb w) } (.ref s.heap.objs.size) "set" := ⟨_, atS, rfl⟩
    have i1 := F.called_set.init.lookup
    have i2 := F.called_set.init.bind (.ref s.heap.objs.size)
    repeat (any_goals (first | assumption | wp_step))
    refine codeAny_mono (codeAny_call_builtin (R := wants (fun r s₂ => r = .none ∧ ∃ h' tk o es ep t, s₂ = { s with heap := h', toks := tk } ∧ SetS w h' s.heap.objs.size (met zs zs.length) o es ep t ∧ ∀ b o, s.heap.get? b = some o → h'.get? b = some o) E) F.called_set.init.plain F.entry_set_init (check_set_init_1 isS ?_)) ?_
    · obtain ⟨ol, el, cl, nl, dl⟩ := seq
      obtain ⟨oc, od, oda, osl⟩ := ol
      simp only at cl dl
      subst cl dl
      have el' : (s.heap.push (newOb w)).get? l = some { cls := .type "tuple", dict := od, data := .seq items nl, slots := osl } := Heap.get?_push_of_some _ el
      have s1 := F.sub_tuple_set
      have s2 := F.sub_tuple_frozenset
      have s3 : (Value.type "tuple" == Value.type "dict") = false := by decide
      have seq1 : (s.heap.push (newOb w)).IsTuple l items := ⟨_, el', rfl, nl, rfl⟩
      unfold Builtin.«set.__init__» noKeywords Builtin.Frozenset.updateFrom
      generalize hPI : pyIter = PI
      wp_walk
      subst hPI
      refine wpAny_pyIter_tuple seq1 ?_
      refine wpAny_bind (wpAny_runValue ?_)
      have below : l < s.heap.objs.size := Heap.lt_size el
      have calm3 : A.in1.in1.in1.handled = none := by simp [calm]
      have pushed : (s.heap.push (newOb w)).objs.size = s.heap.objs.size + 1 := Heap.size_push ..
      have offI : l ≠ (s.heap.push (newOb w)).objs.size := pushed ▸ Nat.ne_of_lt (Nat.lt_succ_of_lt below)
      have offS : s.heap.objs.size ∉ [(s.heap.push (newOb w)).objs.size, l] := by
        rw [pushed]
        intro q
        rcases List.mem_cons.mp q with q | q
        · exact Nat.ne_of_lt (Nat.lt_succ_self _) q
        · exact Nat.ne_of_gt below (List.mem_singleton.mp q)
      have val : ∀ (i : Nat) (v : Value), items[i]? = some v → ∃ z t, zs[i]? = some z ∧ v = .str z t := fun i v hv => strs_at txt i v (by rw [Array.getElem?_toList]; exact hv)
      have start : ((s.heap.push (newOb w)).push { cls := .type "tuple_iterator", data := .fields #[.ref l, .int 0 0] }).get? s.heap.objs.size = some (newOb w) := Heap.get?_push_of_some _ atS
      refine upd_loop ((Walks.tuple calm3 _ l offI items).toS) s.heap.objs.size offS zs size (by omega) val (items.size - 0) 0 _ (by omega) (Nat.zero_le _) ⟨⟨_, Heap.get?_push_size _ rfl, rfl, rfl⟩, (seq1.push _)⟩ ⟨_, _, _, _, setS_new start⟩ ?_
      intro s' o es ep t mv r
      obtain ⟨h', g', d', tk', os'⟩ := s'
      obtain rfl : g' = s.gens := mv.gens
      obtain rfl : d' = s.drawn := mv.drawn
      obtain rfl : os' = s.os := mv.os
      change wpAny _ _ _ _ _ _
      refine wpAny_pure ?_
      change wpAny _ _ (ret Value.none) _ _ _
      rw [size] at r
      refine wpAny_pure ⟨rfl, h', tk', o, es, ep, t, rfl, r, fun b ob e => ?_⟩
      have hb := Heap.lt_size e
      refine mv.heap b ob ?_ (Heap.get?_push_of_some _ (Heap.get?_push_of_some _ e))
      rw [pushed]
      intro q
      rcases List.mem_cons.mp q with q | q
      · exact Nat.ne_of_lt hb q
      · exact Nat.ne_of_lt (Nat.lt_succ_of_lt hb) (List.mem_singleton.mp q)
    · intro r₂ s₂ hr₂
      match r₂, hr₂ with
      | .ok (.ret rv), hr₂ =>
        obtain ⟨rfl, h', tk, o, es, ep, t, rfl, r, kept⟩ := hr₂
        repeat (any_goals (first | assumption | wp_step))
        exact h _ _ _ _ _ _ r kept
      | .error e, hr₂ => exact hr₂
      | .ok .next, hr₂ => exact hr₂.elim
      | .ok .brk, hr₂ => exact hr₂.elim
      | .ok .cont, hr₂ => exact hr₂.elim
  | .error e, hr => exact hr
  | .ok .next, hr => exact hr.elim
  | .ok .brk, hr => exact hr.elim
  | .ok .cont, hr => exact hr.elim
end
end TxtSet

set_option Elab.async false
set_option linter.all false
set_option maxRecDepth 100000
set_option maxHeartbeats 2000000
/-! Sets of texts as rules. -/
namespace TxtSet
open PySem PySem.Spec PyProof.Rows L2 Cau
/-- the set of the texts L at a -/
def SetT (w : World) (a : Addr) (L : List Str) : HO := .ext fun h => ∃ o es ep t, SetS w h a L o es ep t
theorem setT_ok {P : Program} {w : World} {H : Hp} {h : Heap} {a : Addr} {L : List Str} {o : Obj} {es : Array (Int × Value)} {ep : Nat} {t : SetTable} (R : SetS w h a L o es ep t) : ObjOk P w H h a (SetT w a L) :=
  ⟨⟨o, es, ep, t, R⟩, ⟨o, R.ob⟩, fun _ _ ⟨o, es, ep, t, r⟩ k => ⟨o, es, ep, t, r.keep k⟩⟩
theorem strs_vals : ∀ {zs : List Str} {us : List Value}, Vals (zs.map V.str) us → StrsAre us zs
  | [], _, .nil => .nil
  | z :: r, _, .cons h t => by
    obtain ⟨tk, rfl⟩ := h
    exact .cons z tk (strs_vals t)
def rSetT (K : PySem.W.Frag) (w : World) : List V → Hp → VK → Prop := fun xs H Q => ∃ (l : Addr) (zs : List Str), xs = [.ref l] ∧ (SqL K H l (zs.map V.str) ∨ SqT K H l (zs.map V.str)) ∧ zs.length < 99 ∧
  ∀ (a : Addr) (L : List Str), H a = none → L.Nodup → (∀ z, z ∈ L ↔ z ∈ zs) → Q (.ref a) (upd H a (SetT w a L))
theorem cr_setT {X : Cx} (calm : X.calm = true) : CallR X (.type "set") (rSetT X.K X.w) := by
  intro pins s σ H xs us Q I r ⟨l, zs, hx, hq, few, q⟩
  subst hx
  rw [Vals.ref1 r]
  have fresh := I.hok.fresh (Nat.le_refl s.heap.objs.size)
  have mem : ∀ z, z ∈ met zs zs.length ↔ z ∈ zs := fun z => by rw [met_mem, List.take_length]
  have done : ∀ (h' : Heap) (tk : Nat) o es ep t, SetS X.w h' s.heap.objs.size (met zs zs.length) o es ep t → (∀ b o, s.heap.get? b = some o → h'.get? b = some o) → EP X pins σ Q (.ref s.heap.objs.size) { s with heap := h', toks := tk } :=
    fun h' tk o es ep t r k => ⟨.ref _, _, I.laid (t' := tk) k (Nat.le_refl _) (setT_ok r), rfl, q _ _ fresh r.nd mem⟩
  rcases hq with hq | hq
  · obtain ⟨its, rv, p, hz⟩ := I.list hq
    exact set_of_list zs (I.ok.hd calm) p.isList (by simpa using strs_vals rv) few done
  · obtain ⟨its, rv, p, hz⟩ := I.tuple hq
    exact set_of_tuple zs (I.ok.hd calm) (show s.heap.IsTuple l its.toArray from p) (by simpa using strs_vals rv) few done
def rLenT (w : World) : List V → Hp → VK → Prop := fun xs H Q => ∃ (a : Addr) (L : List Str), xs = [.ref a] ∧ H a = some (SetT w a L) ∧ Q (.int L.length) H
theorem cr_lenT {X : Cx} : CallR X (.builtin "len") (rLenT X.w) := by
  intro pins s σ H xs us Q I r ⟨a, L, hx, ha, q⟩
  subst hx
  rw [Vals.ref1 r]
  obtain ⟨⟨o, es, ep, t, R⟩, _⟩ := I.hok a _ ha
  have few := R.few
  have sz := R.size
  refine call_len_set R.ob R.ex R.dat R.fit ?_ ⟨.int L.length, H, I.tok _, ⟨_, by rw [sz]⟩, q⟩
  rw [sz]
  have : L.length < 2 ^ 63 := Nat.lt_trans few (by decide)
  exact_mod_cast this
def rSortT (w : World) : List V → Hp → VK → Prop := fun xs H Q => ∃ (a : Addr) (L : List Str), xs = [.ref a] ∧ H a = some (SetT w a L) ∧ L.length < 64 ∧ ∀ (zs : List Str) (p : Addr), zs.Perm L → sortedS zs = true → H p = none → Q (.ref p) (upd H p (.lst (zs.map V.str)))
theorem strs_of {us : List Value} (h : ∀ u ∈ us, ∃ z t, u = Value.str z t) : StrsAre us (us.map fun u => match u with
    | .str z _ => z
    | _ => ("" : Str)) := by
  induction us with
  | nil => exact .nil
  | cons u r ih =>
    obtain ⟨z, t, rfl⟩ := h u List.mem_cons_self
    exact .cons z t (ih fun v hv => h v (List.mem_cons_of_mem _ hv))
theorem cr_sortT {X : Cx} (calm : X.calm = true) : CallR X (.builtin "sorted") (rSortT X.w) := by
  intro pins s σ H xs us Q I r ⟨a, L, hx, ha, few, q⟩
  subst hx
  rw [Vals.ref1 r]
  obtain ⟨⟨o, es, ep, t, R⟩, _⟩ := I.hok a _ ha
  refine Calls.call_function_entry kind_sorted plain_sorted entry_sorted (args_sorted1 _) ?_
  unfold Builtin.«sorted»
  refine wpAny_bind (m := checkCount "sorted" 1 1 _) (wpAny_pure ?_)
  refine wpAny_bind (collect_set (A := X.A.in1) (I.ok.hd calm) ⟨o, R.ob, R.ex.1, R.dat⟩ R.fit R.bound R.ris R.led ?_)
  intro s1 vs k1 grown g1 o1 pm
  obtain ⟨tx, htx⟩ : ∃ tx, tx = vs.map fun u => match u with
    | .str z _ => z
    | _ => ("" : Str) := ⟨_, rfl⟩
  have all : ∀ u ∈ vs, ∃ z t, u = Value.str z t := fun u hu => by
    obtain ⟨e, he, rfl⟩ := List.mem_map.mp (pm.mem_iff.mp hu)
    obtain ⟨z, tk, h1, _⟩ := R.tx e he
    exact ⟨z, tk, h1⟩
  have are : StrsAre vs tx := htx ▸ strs_of all
  have pmL : tx.Perm L := by
    refine List.Perm.trans ?_ R.pm
    have p2 := pm.map fun u => match u with
      | Value.str z _ => z
      | _ => ("" : Str)
    rw [List.map_map] at p2
    rw [htx]
    exact p2
  have len : vs.length = L.length := by
    rw [are.length, pmL.length_eq]
  have few' : vs.length < 64 := len ▸ few
  refine wpAny_bind (wpAny_newList ?_ (small64 few'))
  have laid : (s1.heap.push (seqObj "list" vs.toArray 0)).get? s1.heap.objs.size = some (seqObj "list" vs.toArray 0) := Heap.get?_push_size _ rfl
  refine wpAny_bind (wpAny_holding (wpAny_call_entry slot_list_sort ⟨_, laid, rfl⟩ entry_list_sort (list_sort_treeK strKind_oneLt laid are.keysOf (fun v₁ v₂ rest e => keyKind_strs (by rw [← e]; exact are)) few' ?_) (args_list_sort _)))
  intro st' hp hs
  obtain ⟨zs, z1, z2, z3⟩ := sorted_out_str are hp hs
  refine ⟨_, rfl, ?_⟩
  obtain ⟨c, hc⟩ := sortedHeap_at (vs := vs) (out := (arrOf st').map (·.2)) laid
  have free : H s1.heap.objs.size = none := I.hok.fresh grown
  have old : ∀ b u, s.heap.get? b = some u → (sortedHeap (s1.heap.push (seqObj "list" vs.toArray 0)) s1.heap.objs.size vs ((arrOf st').map (·.2))).get? b = some u := fun b u e => by
    have e1 := k1 b u e
    have lt := Heap.lt_size e1
    rw [sortedHeap_old (Nat.ne_of_lt lt) (by rw [size_push']; exact Nat.lt_succ_of_lt lt)]
    exact Heap.get?_push_of_some _ e1
  have zl : (zs.map V.str).length ≤ sizeLine := by
    rw [List.length_map, z2.length_eq, pmL.length_eq]
    exact small64 few
  have J : Inv X pins σ (upd H s1.heap.objs.size (.lst (zs.map V.str))) { s with heap := sortedHeap (s1.heap.push (seqObj "list" vs.toArray 0)) s1.heap.objs.size vs ((arrOf st').map (·.2)), gens := s1.gens, drawn := s1.drawn, toks := s1.toks } :=
    I.call (ch := []) (Un.laid old grown free) (I.hok.laid old grown ⟨zl, _, c, vals_of_strs z1, hc⟩) (by rw [g1]; exact I.bare) (fun _ z => nomatch z)
  have eo : ({ s1 with heap := sortedHeap (s1.heap.push (seqObj "list" vs.toArray 0)) s1.heap.objs.size vs ((arrOf st').map (·.2)) } : Shared) =
      { s with heap := sortedHeap (s1.heap.push (seqObj "list" vs.toArray 0)) s1.heap.objs.size vs ((arrOf st').map (·.2)), gens := s1.gens, drawn := s1.drawn, toks := s1.toks } := by
    obtain ⟨_, _, _, _, _⟩ := s1
    obtain ⟨_, _, _, _, _⟩ := s
    simp only at o1
    subst o1
    rfl
  refine wpAny_pure ?_
  have fin : EP X pins σ Q (.ref s1.heap.objs.size) { s1 with heap := sortedHeap (s1.heap.push (seqObj "list" vs.toArray 0)) s1.heap.objs.size vs ((arrOf st').map (·.2)) } := by
    rw [eo]
    exact ⟨.ref _, _, J, rfl, q zs _ (z2.trans pmL) z3 free⟩
  exact ⟨_, rfl, fin⟩
end TxtSet

set_option Elab.async false
set_option linter.all false
set_option maxRecDepth 100000
set_option maxHeartbeats 2000000
namespace Y6
open PySem PySem.Spec PyProof.Rows L2 Cau Dr15 Y1 Y2 Y3 Y4 Y5 TxtSet
/-- what the top has written of an own error without an __init__ -/
structure TxtE (K : PySem.W.Frag) (mg : Str → Option Value) (x : Str) (C : Addr) : Prop where
  g : mg x = some (.ref C)
  x : PySem.W.excIn K C [.type "ValueError", .type "Exception", .type "BaseException", .type "object"] "ValueError.__new__" = true
  k : PySem.W.keepIn K (.ref C) = true
  b : PySem.W.subIn K (.ref C) (.type "BaseException") = some true
  t : PySem.W.typeIn K (.ref C) = some (.type "type")
/-! ### lists of names -/
/-- a value as a list of names: the text of each item that is one -/
def Nv (K : PySem.W.Frag) (H : Hp) (x : V) (o : Option (List (Option Str))) : Prop :=
  (∃ p xs os, x = .ref p ∧ SqX K H p xs ∧ xs.length = os.length ∧ xs.length ≤ 90 ∧ (∀ (i : Nat) v z, xs[i]? = some v → os[i]? = some z → Tx K H v z) ∧ o = some os) ∨ (NotSeq H x ∧ o = none)
def namesB (os : List (Option Str)) : Bool := os.all nameO && decide (os.Nodup)
def namesO : Option (List (Option Str)) → Bool
  | some os => namesB os
  | none => false
theorem tx_same {K : PySem.W.Frag} {H H' : Hp} {v : V} {z : Option Str} (h : Tx K H v z) (s : Same H H') : Tx K H' v z := by
  rcases h with h | ⟨e, t, ty, b⟩
  · exact .inl h
  · refine .inr ⟨e, t, ?_, b⟩
    cases ty with
    | base b =>
      cases b with
      | non => exact .base .non
      | bl x => exact .base (.bl x)
      | int i => exact .base (.int i)
      | str x => exact .base (.str x)
      | flt x => exact .base (.flt x)
      | lst e => exact .base (.lst (s _ _ e))
      | frz e => exact .base (.frz (s _ _ e))
      | tup e => exact .base (.tup (s _ _ e))
      | dK e => exact .base (.dK (s _ _ e))
      | dT e => exact .base (.dT (s _ _ e))
    | byt y => exact .byt y
    | set e => exact .set (s _ _ e)
    | kList e c => exact .kList e c
    | kTuple e c => exact .kTuple e c
    | kDict e c => exact .kDict e c
    | fTuple e => exact .fTuple (s _ _ e)
    | fDict e => exact .fDict (s _ _ e)
theorem Nv.same {K : PySem.W.Frag} {H H' : Hp} {x : V} {o : Option (List (Option Str))} (h : Nv K H x o) (s : Same H H') : Nv K H' x o := by
  rcases h with ⟨p, xs, os, e, h, l, l2, a, r⟩ | ⟨h, r⟩
  · exact .inl ⟨p, xs, os, e, h.same s, l, l2, fun i v z e1 e2 => tx_same (a i v z e1 e2) s, r⟩
  · exact .inr ⟨h.same s, r⟩
/-- as many members as items: none comes twice -/
def thin : List Str → List Str
  | [] => []
  | z :: r => if z ∈ r then thin r else z :: thin r
theorem thin_mem {y : Str} : ∀ zs : List Str, y ∈ thin zs ↔ y ∈ zs
  | [] => Iff.rfl
  | z :: r => by
    unfold thin
    split
    · rename_i h
      rw [thin_mem r, List.mem_cons]
      exact ⟨.inr, fun q => q.elim (fun e => e ▸ h) id⟩
    · rw [List.mem_cons, List.mem_cons, thin_mem r]
theorem thin_nodup : ∀ zs : List Str, (thin zs).Nodup
  | [] => List.nodup_nil
  | z :: r => by
    unfold thin
    split
    · exact thin_nodup r
    · rename_i h
      exact List.nodup_cons.mpr ⟨fun q => h ((thin_mem r).mp q), thin_nodup r⟩
theorem thin_le : ∀ zs : List Str, (thin zs).length ≤ zs.length
  | [] => Nat.le_refl _
  | z :: r => by
    unfold thin
    split
    · exact Nat.le_succ_of_le (thin_le r)
    · exact Nat.succ_le_succ (thin_le r)
theorem thin_eq : ∀ zs : List Str, (thin zs).length = zs.length ↔ zs.Nodup
  | [] => by simp [thin]
  | z :: r => by
    unfold thin
    rw [List.nodup_cons]
    split
    · rename_i h
      have := thin_le r
      constructor
      · intro e
        simp at e
        omega
      · intro ⟨n, _⟩
        exact absurd h n
    · rename_i h
      rw [List.length_cons, List.length_cons]
      constructor
      · intro e
        exact ⟨h, (thin_eq r).mp (by omega)⟩
      · intro ⟨_, n⟩
        rw [(thin_eq r).mpr n]
theorem nodup_le : ∀ (l d : List Str), l.Nodup → (∀ x ∈ l, x ∈ d) → l.length ≤ d.length
  | [], _, _, _ => Nat.zero_le _
  | x :: l, d, n, h => by
    obtain ⟨n1, n2⟩ := List.nodup_cons.mp n
    have hx := h x List.mem_cons_self
    have q := nodup_le l (d.erase x) n2 fun y hy => by
      have ne : y ≠ x := fun z => n1 (z ▸ hy)
      exact (List.mem_erase_of_ne ne).mpr (h y (List.mem_cons_of_mem _ hy))
    rw [List.length_erase_of_mem hx] at q
    have : 0 < d.length := List.length_pos_of_mem hx
    rw [List.length_cons]
    omega
theorem set_len {L zs : List Str} (n : L.Nodup) (h : ∀ z, z ∈ L ↔ z ∈ zs) : decide ((L.length : Int) = (zs.length : Int)) = decide (zs.Nodup) := by
  have e : L.length = (thin zs).length := Nat.le_antisymm (nodup_le _ _ n fun x hx => (thin_mem zs).mpr ((h x).mp hx)) (nodup_le _ _ (thin_nodup zs) fun x hx => (h x).mpr ((thin_mem zs).mp hx))
  have t := thin_eq zs
  rw [Bool.eq_iff_iff, decide_eq_true_eq, decide_eq_true_eq, ← t, e]
  omega
section
variable {P : Program} {w : World} {K : PySem.W.Frag} {mg : Str → Option Value} {base : Heap}
theorem all_names : ∀ (xs : List V) (os : List (Option Str)), xs.length = os.length → (∀ (i : Nat) v z, xs[i]? = some v → os[i]? = some z → ∃ s, v = .str s ∧ z = some s) → ∃ zs : List Str, xs = zs.map V.str ∧ os = zs.map some
  | [], [], _, _ => ⟨[], rfl, rfl⟩
  | x :: xs, o :: os, l, h => by
    obtain ⟨s, rfl, rfl⟩ := h 0 x o rfl rfl
    obtain ⟨zs, rfl, rfl⟩ := all_names xs os (by simpa using l) fun i v z e1 e2 => h (i + 1) v z e1 e2
    exact ⟨s :: zs, rfl, rfl⟩
theorem nodup_some (zs : List Str) : decide ((zs.map some).Nodup) = decide (zs.Nodup) := by
  have gen : ∀ zs : List Str, (zs.map some).Nodup ↔ zs.Nodup := by
    intro zs
    induction zs with
    | nil => simp
    | cons z r ih =>
      rw [List.map_cons, List.nodup_cons, List.nodup_cons, ih]
      simp
  rw [Bool.eq_iff_iff, decide_eq_true_eq, decide_eq_true_eq, gen]
end
end Y6

set_option Elab.async false
set_option linter.all false
set_option maxRecDepth 100000
set_option maxHeartbeats 2000000
namespace Y7
open PySem PySem.Spec PyProof.Rows L2 Cau Dr15 Y1 Y2 Y3 Y4 Y5 Y6 TxtSet
def sheetL : List Str := ["o", "u", "uu", "v", "vv"]
def toolsL : List (Str × Str) := [("meet", ""), ("upright", "square"), ("circles", "compass")]
def toolW (w : Str) : Str := (toolsL.lookup w).getD w
/-- the table of the tools of other words -/
structure ToolsK (K : PySem.W.Frag) (w : World) (d : Addr) : Prop where
  ex : ∃ (es : Array DictEntry) (n : Nat), KDict K w d es n
  no : ∀ z, toolsL.lookup z = none → PySem.W.nsIn K d z = some none
  yes : ∀ z y, toolsL.lookup z = some y → ∃ t, PySem.W.nsIn K d z = some (some (.str y t))
def spDrawing (K : PySem.W.Frag) : Sp := fun vs H Q _ => ∃ (x : V) (o : Option (List Sd)), vs = [x] ∧ Sv K H x o ∧ ∀ H', Same H H' → Q (.bl (goesO o sheetL)) H'
def spCheckDrawing (K : PySem.W.Frag) (C : Addr) : Sp := fun vs H Q E => ∃ (x : V) (o : Option (List Sd)), vs = [x] ∧ Sv K H x o ∧ ((goesO o sheetL = true ∧ ∀ H', Same H H' → Q .non H') ∨ (goesO o sheetL = false ∧ ∀ H', Same H H' → E (.ref C) none H'))
def spCheckDeed (K : PySem.W.Frag) (C : Addr) : Sp := fun vs H Q E => ∃ (x : V) (o : Option (List V)), vs = [x] ∧ Dd K H x o ∧ ((deedO o = true ∧ ∀ H', Same H H' → Q .non H') ∨ (deedO o = false ∧ ∀ H', Same H H' → E (.ref C) none H'))
def spTool (K : PySem.W.Frag) (C : Addr) : Sp := fun vs H Q E => ∃ (p : Addr) (w : Str) (r : List V), vs = [.ref p] ∧ SqT K H p (.str w :: r) ∧ (V.str w :: r).all AtomV = true ∧ (V.str w :: r).length ≤ 100 ∧ deedL (.str w :: r) = true ∧ ∀ H', Same H H' → Q (.str (toolW w)) H'
section
variable {P : Program} {w : World} {K : PySem.W.Frag} {mg : Str → Option Value} {base : Heap}
theorem scDr : FnScope ["value"] ["value"] (defScope sIsDrawing) := ⟨rfl, rfl, rfl, by decide +kernel, rfl, by decide +kernel, by decide +kernel⟩
theorem ok_drawing {f fS d : Addr} {fd fdS : FuncData} (F : Fun K "is_drawing" "is_drawing" sIsDrawing f fd) (FS : Fun K "are_steps" "are_steps" sAreSteps fS fdS) (GS : FnOk P w K mg base CX0 3 fS fdS ["value", "names"] (spSteps K)) (bS : Binds K fdS ["value", "names"] []) (gS : mg "are_steps" = some (.ref fS))
    (Wd : WordsK K d sheetL) (gW : mg "SHEET_NAMES" = some (.ref d)) : FnOk P w K mg base CX0 4 f fd ["value"] (spDrawing K) := by
  refine F.ok scDr (fun vs H Q E h => ?_) (fun cdv A outer s H vs Q E hr h => ?_)
  · obtain ⟨x, o, rfl, _⟩ := h
    rfl
  · obtain ⟨x, o, rfl, hx, q⟩ := h
    refine ⟨_, pss_one (ps_ret (pe_call GS hr (by rfl) gS FS.kp bS .nil pass0 (pa_cons (pv 0) (pa_cons (pe_glob (v := .ref d) (by rfl) gW rfl) pa_nil)))), ?_⟩
    exact ⟨_, rfl, x, o, d, sheetL, rfl, hx, .inr (Wd H), by decide, q⟩
theorem scCDr : FnScope ["value"] ["value"] (defScope sCheckDrawing) := ⟨rfl, rfl, rfl, by decide +kernel, rfl, by decide +kernel, by decide +kernel⟩
theorem ok_checkDrawing {f fS C : Addr} {fd fdS : FuncData} (F : Fun K "check_drawing" "check_drawing" sCheckDrawing f fd) (FS : Fun K "is_drawing" "is_drawing" sIsDrawing fS fdS) (GS : FnOk P w K mg base CX0 4 fS fdS ["value"] (spDrawing K)) (bS : Binds K fdS ["value"] []) (gS : mg "is_drawing" = some (.ref fS))
    (T : TxtE K mg "BadDrawing" C) : FnOk P w K mg base (L2.CX P w) 5 f fd ["value"] (spCheckDrawing K C) := by
  refine F.okX scCDr (fun vs H Q E h => ?_) (fun cdv A outer s H vs Q E hr h => ?_)
  · obtain ⟨x, o, rfl, _⟩ := h
    rfl
  · obtain ⟨x, o, rfl, hx, q⟩ := h
    refine ⟨_, pss_one (ps_if (pt_not (pt_val (pe_call GS hr (by rfl) gS FS.kp bS .nil pass0 (pa_cons (pv 0) pa_nil)))) (pss_one (ps_raise rfl (takes_of rfl rfl rfl rfl) (pmk_own PySem.F.excBase_ValueError T.x T.g T.k (raises_own T.b T.t) rfl))) pss_nil), ?_⟩
    refine ⟨_, rfl, x, o, rfl, hx, fun H1 sm => ⟨_, rfl, ?_⟩⟩
    rcases q with ⟨e, q⟩ | ⟨e, q⟩
    · rw [e]
      exact iteF (q H1 sm)
    · rw [e]
      exact iteT (q H1 sm)
theorem scCDe : FnScope ["value"] ["value"] (defScope sCheckDeed) := ⟨rfl, rfl, rfl, by decide +kernel, rfl, by decide +kernel, by decide +kernel⟩
theorem ok_checkDeed {f fS C : Addr} {fd fdS : FuncData} (F : Fun K "check_deed" "check_deed" sCheckDeed f fd) (FS : Fun K "is_deed" "is_deed" sIsDeed fS fdS) (GS : FnOk P w K mg base CX0 2 fS fdS ["value"] (spDeed K)) (bS : Binds K fdS ["value"] []) (gS : mg "is_deed" = some (.ref fS))
    (T : TxtE K mg "BadDeed" C) : FnOk P w K mg base (L2.CX P w) 3 f fd ["value"] (spCheckDeed K C) := by
  refine F.okX scCDe (fun vs H Q E h => ?_) (fun cdv A outer s H vs Q E hr h => ?_)
  · obtain ⟨x, o, rfl, _⟩ := h
    rfl
  · obtain ⟨x, o, rfl, hx, q⟩ := h
    refine ⟨_, pss_one (ps_if (pt_not (pt_val (pe_call GS hr (by rfl) gS FS.kp bS .nil pass0 (pa_cons (pv 0) pa_nil)))) (pss_one (ps_raise rfl (takes_of rfl rfl rfl rfl) (pmk_own PySem.F.excBase_ValueError T.x T.g T.k (raises_own T.b T.t) rfl))) pss_nil), ?_⟩
    refine ⟨_, rfl, x, o, rfl, hx, fun H1 sm => ⟨_, rfl, ?_⟩⟩
    rcases q with ⟨e, q⟩ | ⟨e, q⟩
    · rw [e]
      exact iteF (q H1 sm)
    · rw [e]
      exact iteT (q H1 sm)
theorem scTl : FnScope ["deed", "word"] ["deed"] (defScope sToolOf) := ⟨rfl, rfl, rfl, by decide +kernel, rfl, by decide +kernel, by decide +kernel⟩
theorem ok_tool {f fC C d : Addr} {fd fdC : FuncData} (F : Fun K "tool_of" "tool_of" sToolOf f fd) (FC : Fun K "check_deed" "check_deed" sCheckDeed fC fdC) (GC : FnOk P w K mg base (L2.CX P w) 3 fC fdC ["value"] (spCheckDeed K C)) (bC : Binds K fdC ["value"] []) (gC : mg "check_deed" = some (.ref fC))
    (T : ToolsK K w d) (gT : mg "TOOLS_OF_OTHER_WORDS" = some (.ref d)) : FnOk P w K mg base (L2.CX P w) 4 f fd ["deed"] (spTool K C) := by
  refine F.okX scTl (fun vs H Q E h => ?_) (fun cdv A outer s H vs Q E hr h => ?_)
  · obtain ⟨p, z, r, rfl, _⟩ := h
    rfl
  · obtain ⟨p, z, r, rfl, hp, hat, hlen, hd, q⟩ := h
    obtain ⟨es, nn, KD⟩ := T.ex
    refine ⟨_, pss_cons (ps_expr (pe_call GC hr (by rfl) gC FC.kp bC .nil (passes_call (takes_of rfl rfl rfl rfl) (fun _ _ _ _ h => h)) (pa_cons (pv 0) pa_nil)))
      (pss_cons (ps_set (i := 1) scTl.nd rfl (.inl rfl) (pe_ix ix_tup (pv 0) pe_int (fun _ _ => rfl)))
      (pss_one (ps_ret (pe_ifExp (pt_cmpR (op_in_kd KD) (pv 1) (pe_glob (v := .ref d) (by rfl) gT rfl) (by rfl)) (pe_ix ix_kdict (pe_glob (v := .ref d) (by rfl) gT rfl) (pv 1) (fun _ _ => rfl)) (pv 1))))), ?_⟩
    refine ⟨_, rfl, .ref p, some (.str z :: r), rfl, .inl ⟨p, _, rfl, hp, hat, hlen, rfl⟩, .inl ⟨hd, fun H1 sm => ?_⟩⟩
    refine ⟨_, rfl, p, _, 0, _, rfl, rfl, sqT_same hp sm, atI_nat (j := 0) rfl, ?_⟩
    cases e : toolsL.lookup z with
    | none =>
      refine ⟨_, rfl, z, _, rfl, rfl, T.no z e, _, rfl, iteF2 rfl ⟨_, rfl, ?_⟩⟩
      have q1 := q H1 sm
      unfold toolW at q1
      rw [e] at q1
      exact q1
    | some y =>
      obtain ⟨t, ht⟩ := T.yes z y e
      refine ⟨_, rfl, z, _, rfl, rfl, ht, _, rfl, iteT2 rfl ⟨_, rfl, d, z, .str y, rfl, rfl, ⟨es, nn, _, KD.at_, KD.lit, ht, _, rfl⟩, ?_⟩⟩
      have q1 := q H1 sm
      unfold toolW at q1
      rw [e] at q1
      exact q1
end
end Y7

set_option Elab.async false
set_option linter.all false
set_option maxRecDepth 100000
set_option maxHeartbeats 2000000
/-! An own error over ValueError whose __init__ says super().__init__(text), then self.f = x. -/
namespace SupInit
open PySem PySem.Spec PyProof.Rows L2 Cau
def supScope (x : Str) : Scope := { kind := .function, names := [("self", .local), (x, .local), ("__class__", .free), ("super", .globalImplicit)], isGenerator := false, isCoroutine := false, more := [] }
/-- the error at a gets its field -/
def spSup (C : Addr) (fld : Str) : Sp := fun vs H Q _ => ∃ (a : Addr) (v : V), vs = [.ref a, v] ∧ H a = some (exo a C none) ∧ ∀ dx, H dx = none → dx ≠ a → Q .non (upd (upd H dx (exd dx [(fld, v)])) a (exo a C (some dx)))
/-- what the top has written of the class at C -/
structure SupC (P : Program) (K : PySem.W.Frag) (mg : Str → Option Value) (C : Addr) (fld : Str) : Prop where
  oex : OexC K C
  cd : ∃ cd, PySem.W.clsIn K C = some cd
  sub : PySem.W.mroIn K C (.ref C) = some true
  sup : mg "super" = none
  opa : PySem.W.nsIn K PySem.cStatics "thirdparty.any" = some none
  way : PySem.W.ks_superIn K C C "__init__" = some (some (.builtin "ValueError.__init__"))
  isV : PySem.W.subIn K (.ref C) (.type "ValueError") = some true
  top : (P.main.scope.names.lookup ("super" : Str)).isSome = false
  fre : PySem.W.findIn K (.ref C) fld = some none
section
variable {P : Program} {w : World} {K : PySem.W.Frag} {mg : Str → Option Value} {base : Heap}
/-- its body's context -/
def supX (P : Program) (w : World) (K : PySem.W.Frag) (mg : Str → Option Value) (base : Heap) (x qual : Str) (f cc cda : Addr) (A : Around) (outer : List Env) (s : Shared) (H : Hp) : Cx where
  prog := P
  w := w
  K := K
  mg := mg
  base := base
  A := A.deeper (PySem.W.ksEnv qual (supScope x) s.heap.objs.size f (.ref cda) cc)
  N := ["self", x]
  s_0 := s
  H_0 := H
  env := PySem.W.ksEnv qual (supScope x) s.heap.objs.size f (.ref cda) cc
  outer := outer
  stack := PySem.W.ksEnv qual (supScope x) s.heap.objs.size f (.ref cda) cc :: outer
  ex := []
  fn := fun _ => false
  calm := true
  pn := []
  xe := fun _ _ => False
theorem sup_start {x qual : Str} {f cc cda C : Addr} {A : Around} {outer : List Env} {s : Shared} {H : Hp} {u1 u2 : Value} {v1 v2 : V} {h0 : Heap} {tk : Nat} {cl : Value} {cld : Option Addr} {csl : Array (Option Value)} (hx : x ≠ "self" ∧ x ≠ "__class__" ∧ x ≠ "super") (hcell : K.lookup cc = some ⟨cl, cld, .cell (some (.ref C)), csl⟩) (hd : A.handled = none)
    (e0 : Env0 P w K mg base A outer s H) (r1 : RelV v1 u1) (r2 : RelV v2 u2) (ns : h0.Ns s.heap.objs.size fun y => ([("self", u1), (x, u2)] : List (Str × Value)).reverse.lookup y) (k : ∀ b o, s.heap.get? b = some o → h0.get? b = some o) :
    Inv (supX P w K mg base x qual f cc cda A outer s H) [] [some v1, some v2] H { s with heap := h0, toks := tk } := by
  have cellB : base.get? cc = some ⟨cl, cld, .cell (some (.ref C)), csl⟩ := e0.mod.kin _ _ hcell
  have cells : ∀ y c, (supX P w K mg base x qual f cc cda A outer s H).env.cells.lookup y = some c → y = "__class__" ∧ c = cc := fun y c h => by
    have h' : ([("__class__", cc)] : List (Str × Addr)).lookup y = some c := h
    rw [List.lookup_cons] at h'
    by_cases e : y = "__class__"
    · subst e
      simp at h'
      exact ⟨rfl, h'.symm⟩
    · have e' : (y == ("__class__" : Str)) = false := beq_eq_false_iff_ne.mpr e
      rw [e'] at h'
      simp at h'
  have lS : (supScope x).names.lookup ("self" : Str) = some NameKind.local := rfl
  have none' : ∀ b : Addr, b ∉ ([] : List Addr) := fun b z => by cases z
  exact
    { ok :=
        { mod := e0.mod, kind := rfl, glob := rfl, blt := rfl, above := Nat.le_refl _
          inj := fun y z c h1 h2 => (cells y c h1).1.trans (cells z c h2).1.symm
          has := fun y hy => by
            have hy' : (supScope x).names.lookup y = some .cell ∨ (supScope x).names.lookup y = some .free := hy
            unfold supScope at hy'
            simp only [List.lookup_cons, List.lookup_nil] at hy'
            by_cases e : y = "__class__"
            · subst e
              exact ⟨cc, rfl⟩
            · have e' : (y == ("__class__" : Str)) = false := beq_eq_false_iff_ne.mpr e
              rw [e'] at hy'
              cases e1 : (y == ("self" : Str)) <;> cases e2 : (y == x) <;> cases e3 : (y == ("super" : Str)) <;> rw [e1, e2, e3] at hy' <;> simp at hy'
          cab := fun _ _ z => by cases z
          hd := fun _ => hd
          frames := Around.frames_deeper e0.frames
          stk := .inr ⟨rfl, rfl⟩
          exf := fun b z => absurd z (none' b)
          bs := e0.bs, bsz := e0.bsz
          noex := fun b _ _ => none' b
          exfs := fun b z => absurd z (none' b)
          funs := e0.funs, frf := e0.frf }
      os := rfl, bare := e0.bare, base := Un.kept k
      loc := by
        refine ⟨_, ns, ?_⟩
        rintro i y v h1 h2 h3
        match i, h1, h2 with
        | 0, h1, h2 =>
          cases h1
          cases h2
          refine ⟨u1, r1, .inl ⟨rfl, ?_⟩⟩
          show ([(x, u2), ("self", u1)] : List (Str × Value)).lookup ("self" : Str) = some u1
          rw [List.lookup_cons, beq_eq_false_iff_ne.mpr (Ne.symm hx.1)]
          rfl
        | 1, h1, h2 =>
          cases h1
          cases h2
          refine ⟨u2, r2, .inl ⟨?_, ?_⟩⟩
          · show (supScope x).names.lookup x = some .local
            unfold supScope
            simp only [List.lookup_cons, beq_eq_false_iff_ne.mpr hx.1, beq_self_eq_true]
          · show ([(x, u2), ("self", u1)] : List (Str × Value)).lookup x = some u2
            rw [List.lookup_cons, beq_self_eq_true]
        | i + 2, h1, _ => cases h1
      cell := fun y c h => by
        obtain ⟨_, rfl⟩ := cells y c h
        exact ⟨_, _, k _ _ (e0.bs _ _ cellB).1, rfl⟩
      free := e0.hok.fresh (Nat.le_refl _)
      freeC := fun y c h => by
        obtain ⟨_, rfl⟩ := cells y c h
        exact (e0.bs _ _ cellB).2
      pin := fun p hp => absurd (show p ∈ ([] : List (Addr × Obj)) from hp) List.not_mem_nil
      hok := e0.hok.kept k
      len := rfl }
/-- super().__init__(text) -/
theorem sup_first {x qual t : Str} {f cc cda C a : Addr} {A : Around} {outer : List Env} {s s1 : Shared} {H : Hp} {y : Option V} {cl oc ccl : Value} {cld od cdd : Option Addr} {csl osl ccs : Array (Option Value)} {fd : FuncData} {ar : Arg} {vs : Array Value} {file : Str} {tf : Tok} {fld : Str} {j : Nat} {p0 p1 p2 p3 p4 p5 : Pos} {body : List Stmt}
    (T : SupC P K mg C fld) (hx : x ≠ "self" ∧ x ≠ "__class__" ∧ x ≠ "super") (hcell : K.lookup cc = some ⟨cl, cld, .cell (some (.ref C)), csl⟩) (lk : K.lookup f = some ⟨oc, od, .func fd, osl⟩) (har : (fd.params.posonlyargs ++ fd.params.args).head? = some ar) (hself : ar.arg = "self")
    (hcode : K.lookup cda = some ⟨ccl, cdd, .fields vs, ccs⟩) (hvs : vs[2]? = some (.str file tf)) (hfile : ((P.main.file : Str) == file) = true) {pl : Sem Bool}
    (he : ∀ env : Env, eval (.Call (.Attribute (.Call (.Name "super" p0) [] [] p1) "__init__" p2) [.Constant (.str t) j p3] [] p4) env = (do
      let ov ← attributeBase (.Call (.Name "super" p0) [] [] p1) "__init__" env (eval (.Call (.Name "super" p0) [] [] p1) env)
      standAt p2.atName
      let (f, first) ← holding [ov] (getMethod ov "__init__" pl)
      callWith p4 f first (backTo p4 (starEach [.Constant (.str t) j p3] env)) []))
    (I : Inv (supX P w K mg base x qual f cc cda A outer s H) [] [some (.ref a), y] H s1) (ha : H a = some (exo a C none)) {Q : Flow → Shared → Prop} {E : Value → Shared → Prop} (hQ : ∀ s2, Inv (supX P w K mg base x qual f cc cda A outer s H) [] [some (.ref a), y] H s2 → Q .next s2) :
    PySem.wpAt (model P w) (supX P w K mg base x qual f cc cda A outer s H).A (.func body (supX P w K mg base x qual f cc cda A outer s H).env) (exec (.Expr (.Call (.Attribute (.Call (.Name "super" p0) [] [] p1) "__init__" p2) [.Constant (.str t) j p3] [] p4) p5) (supX P w K mg base x qual f cc cda A outer s H).env) Q E s1 := by
  obtain ⟨cd, hcd⟩ := T.cd
  obtain ⟨nm, q, N, bs, bm, sn, sub, ab, col, dd, k0, k1, k2, k3, k5, hC, hbm⟩ := T.oex.cls
  have KI := I.kIn
  obtain ⟨t1, ho⟩ := exo_at I.hok ha
  obtain ⟨m, hns, hloc⟩ := I.loc
  obtain ⟨u1, ru, lo⟩ := hloc 0 "self" (.ref a) rfl rfl (.inl rfl)
  obtain rfl : u1 = Value.ref a := ru
  have ms : m "self" = some (.ref a) := by
    rcases lo with ⟨_, e⟩ | ⟨e | e, _⟩
    · exact e
    · have e' : some NameKind.local = some NameKind.cell := e
      cases e'
    · have e' : some NameKind.local = some NameKind.free := e
      cases e'
  obtain ⟨hh, g, d, tk, os⟩ := s1
  have hK := fun (b : Addr) (o : Obj) (e : K.lookup b = some o) => KI b o e
  have Dat := hK _ _ hC
  obtain ⟨mb, hb1, hb2⟩ := I.mod.blt
  have kX : (supX P w K mg base x qual f cc cda A outer s H).env.scope.kind = .function := rfl
  have kS : (supX P w K mg base x qual f cc cda A outer s H).env.kindOf "super" = some .globalImplicit := by
    show (supScope x).names.lookup ("super" : Str) = _
    unfold supScope
    simp only [List.lookup_cons, beq_eq_false_iff_ne.mpr (Ne.symm hx.2.2)]
    rfl
  have kC : (supX P w K mg base x qual f cc cda A outer s H).env.kindOf "__class__" = some .free := by
    show (supScope x).names.lookup ("__class__" : Str) = _
    unfold supScope
    simp only [List.lookup_cons, beq_eq_false_iff_ne.mpr (Ne.symm hx.2.1)]
    rfl
  have ne : a ≠ C := fun z => by
    rw [z, Dat] at ho
    cases ho
  refine ks_wpAt_Expr_any ?_ (by rfl) (by rfl)
  refine ks_wpAt_MethodCall ?_ (he _)
  refine ks_wpAt_super_base kS kC (by decide +kernel) rfl (hK _ _ lk) rfl har rfl (hK _ _ hcode) rfl hvs hfile T.top ?_
  refine PySem.W.ks_loadName_global kX kS (Calls.loadGlobal_builtin (show hh.Ns mainGlobals mg from I.mod.glob.keeps I.bk) T.sup (show hh.Ns builtinsNs mb from hb1.keeps I.bk) ((hb2 _ (by decide +kernel)).trans (show bootBuiltins "super" = some (.type "super") by rfl)) ⟨rfl, ?_⟩)
  refine wpAny_loadName_free kX kC (show _ = some cc from rfl) ⟨_, hK _ _ hcell, rfl⟩ ?_
  rw [hself]
  refine wpAny_loadName_local kX rfl hns ms ?_
  refine ks_wpAny_isType_cls Dat rfl ⟨rfl, ?_⟩
  refine ks_wpAny_call_super Dat rfl ho rfl (fun c z => by cases z) (PySem.W.looks_mroIn KI T.sub) fun h2 e2 k2 => ?_
  have I2 : Inv (supX P w K mg base x qual f cc cda A outer s H) [] [some (.ref a), y] H ⟨h2, g, d, tk, os⟩ := I.kept (t' := tk) k2
  have KI2 := I2.kIn
  have isV : PySem.W.Looks (model P w) h2 (isInstance (.ref a) (.type "ValueError")) true := by
    have at_ : PySem.W.InstAt h2 a _ C none := ⟨k2 _ _ ho, rfl, rfl, trivial⟩
    exact at_.type.andThen (PySem.W.looks_subIn KI2 T.isV)
  have way := T.way
  unfold PySem.W.ks_superIn at way
  rw [hcd] at way
  refine PySem.W.kxs_getMethod PySem.W.kxs_ValueError e2 (PySem.W.looks_opaque KI2 T.opa) (l₀ := cd.mro) ?_ rfl KI2 way isV ne (by decide +kernel) ?_
  · exact fun A Q E s k q => wpAny_bind ((PySem.W.looks_clsIn KI2 hcd) A _ E s k (wpAny_pure q))
  have I3 : Inv (supX P w K mg base x qual f cc cda A outer s H) [] [some (.ref a), y] H ⟨h2.push (PySem.W.kxs_mw "ValueError.__init__" a), g, d, tk + 1, os⟩ := I2.kept (t' := tk + 1) fun _ _ e => Heap.get?_push_of_some _ e
  have atU : (h2.push (PySem.W.kxs_mw "ValueError.__init__" a)).get? h2.objs.size = some (PySem.W.kxs_mw "ValueError.__init__" a) := Heap.get?_push_size _ rfl
  have offU : H h2.objs.size = none := I2.hok.fresh (Nat.le_refl _)
  refine PySem.W.kxs_callWith (i := "ValueError.__init__") (x := a) rfl (Calls.evalArgs_plain ?_)
  refine Calls.spliced_cons (Calls.Constant_str (k := j) (pos := p3) (Calls.spliced_nil ?_))
  refine ⟨atU, ?_⟩
  refine wpAny_call (codeAny_of_tree ?_)
  change wpAny _ _ (callAny (.ref h2.objs.size) _) _ _ _
  simp only [callAny]
  refine wpAny_bind (wpAny_load atU ?_)
  simp only [PySem.W.kxs_mw, show (Value.type "method-wrapper" == Value.type "method" || Value.type "method-wrapper" == Value.type "builtin_function_or_method" || Value.type "method-wrapper" == Value.type "method-wrapper") = true by decide, if_true]
  refine PySem.W.KFB.if_so (by decide) ?_
  have at3 : (h2.push (PySem.W.kxs_mw "ValueError.__init__" a)).get? a = some _ := Heap.get?_push_of_some _ (k2 _ _ ho)
  have atC : (h2.push (PySem.W.kxs_mw "ValueError.__init__" a)).get? C = some _ := I3.kIn _ _ hC
  refine wpAny_bind (PySem.W.check_bound_init F.excBase_ValueError.toExcCallFacts atC at3 rfl ?_)
  refine wpAny_bind (wpAny_pure (wpAny_pure ?_))
  refine ⟨plainId_quiet F.excBase_ValueError.init.plain _, codeAny_builtin F.excBase_ValueError.initEntry ?_⟩
  refine PySem.W.exc_init_tree at3 (show 1 ≤ sizeLine by decide) ?_
  intro h4 k4 e4 _
  have I3' : Inv (supX P w K mg base x qual f cc cda A outer s H) [] [some (.ref a), y] H ⟨h2.push (PySem.W.kxs_mw "ValueError.__init__" a), g, d, tk + 1 + 1, os⟩ := I3.tok _
  have J := I3'.write (t' := tk + 1 + 1) (x := a) (e := a) (o := exo a C none) (by rw [ha]; exact True.intro) (.inl rfl) k4 ⟨_, e4⟩ (exo_ok e4)
  have eu : upd H a (exo a C none) = H := by
    funext b
    by_cases hb : b = a
    · rw [hb, upd_same, ha]
    · rw [upd_ne hb]
  rw [eu] at J
  exact hQ _ J
theorem ok_sup {st : Stmt} {qual x t fld : Str} {f cc cda C : Addr} {cl oc ccl kV doc pm ct : Value} {cld od cdd an : Option Addr} {csl osl ccs : Array (Option Value)} {ar : Arg} {vs : Array Value} {file : Str} {tf : Tok} {j : Nat} {p0 p1 p2 p3 p4 p5 p6 p7 p8 p9 : Pos}
    (lk : K.lookup f = some ⟨oc, od, .func (PySem.W.ksFn "__init__" qual (defArgs st) (defBody st) (defScope st) .none kV doc pm an (.ref cda) ct cc), osl⟩) (hcd : PySem.W.codeIn K (.ref cda) qual = true)
    (hb : defBody st = [.Expr (.Call (.Attribute (.Call (.Name "super" p0) [] [] p1) "__init__" p2) [.Constant (.str t) j p3] [] p4) p5, .Assign [.Attribute (.Name "self" p6) fld p7] (.Name x p8) p9]) (hs : defScope st = supScope x)
    (T : SupC P K mg C fld) (hx : x ≠ "self" ∧ x ≠ "__class__" ∧ x ≠ "super") (hxd : (x == ("__debug__" : Str)) = false) (hxc : (x == ("__classdict__" : Str)) = false) (hcell : K.lookup cc = some ⟨cl, cld, .cell (some (.ref C)), csl⟩) (har : ((defArgs st).posonlyargs ++ (defArgs st).args).head? = some ar) (hself : ar.arg = "self")
    (hcode : K.lookup cda = some ⟨ccl, cdd, .fields vs, ccs⟩) (hvs : vs[2]? = some (.str file tf)) (hfile : ((P.main.file : Str) == file) = true) {pl : Sem Bool}
    (he : ∀ env : Env, eval (.Call (.Attribute (.Call (.Name "super" p0) [] [] p1) "__init__" p2) [.Constant (.str t) j p3] [] p4) env = (do
      let ov ← attributeBase (.Call (.Name "super" p0) [] [] p1) "__init__" env (eval (.Call (.Name "super" p0) [] [] p1) env)
      standAt p2.atName
      let (f, first) ← holding [ov] (getMethod ov "__init__" pl)
      callWith p4 f first (backTo p4 (starEach [.Constant (.str t) j p3] env)) []))
    (hsw : ∀ env : Env, swapsWith (.Name x p8) (some (.Attribute (.Name "self" p6) fld p7)) p9.line env = pure false) :
    FnOk P w K mg base C8.CX0 1 f (PySem.W.ksFn "__init__" qual (defArgs st) (defBody st) (defScope st) .none kV doc pm an (.ref cda) ct cc) ["self", x] (spSup C fld) := by
  refine ⟨fun vs H Q E h => ?_, fun A outer s H args us vs' Q E hr e0 hbd r h => ?_⟩
  · obtain ⟨a, v, rfl, _⟩ := h
    rfl
  · obtain ⟨a, v, rfl, ha, q⟩ := h
    obtain ⟨u1, u2, rfl, r1, r2⟩ := vals2 r
    have KS : K.In s.heap := e0.mod.kin.keeps fun b o e => (e0.bs b o e).1
    have lim : s.heap.NoLimit := e0.mod.nolimit.keeps fun b o e => (e0.bs b o e).1
    have nocell : ∀ y ∈ (supScope x).names, y.2 ≠ .cell := by
      intro y hy
      unfold supScope at hy
      simp only [List.mem_cons, List.not_mem_nil, or_false] at hy
      rcases hy with rfl | rfl | rfl | rfl <;> (intro z; cases z)
    have lx : (supScope x).names.lookup x = some NameKind.local := by
      unfold supScope
      simp only [List.lookup_cons, beq_eq_false_iff_ne.mpr hx.1, beq_self_eq_true]
    have locs : ∀ y ∈ ([("self", u1), (x, u2)] : List (Str × Value)), (supScope x).names.lookup y.1 = some NameKind.local := by
      intro y hy
      rcases List.mem_cons.mp hy with rfl | hy
      · rfl
      · cases List.mem_singleton.mp hy
        exact lx
    refine PySem.ks_codeAny_call_defAt (fd := PySem.W.ksFn "__init__" qual (defArgs st) (defBody st) (defScope st) .none kV doc pm an (.ref cda) ct cc) (binds := [("self", u1), (x, u2)]) hr.depth (KS _ _ lk) rfl lim (PySem.W.codeRec_of KS hcd) rfl hbd (by show ∀ y ∈ (defScope st).names, _; rw [hs]; exact nocell) (by intro y hy; show (defScope st).names.lookup y.1 = _; rw [hs]; exact locs y hy) ?_ (by show (defScope st).isCoroutine = false; rw [hs]; rfl) (by show (defScope st).isGenerator = false; rw [hs]; rfl) (by show (defScope st).kind = .function; rw [hs]; rfl)
    intro h0 ns k
    have env_is : callEnv (PySem.W.ksFn "__init__" qual (defArgs st) (defBody st) (defScope st) .none kV doc pm an (.ref cda) ct cc) s.heap.objs.size f = (supX P w K mg base x qual f cc cda A outer s H).env := by
      show PySem.W.ksEnv qual (defScope st) s.heap.objs.size f (.ref cda) cc = _
      rw [hs]
      rfl
    rw [env_is]
    have I := sup_start (tk := s.toks + 2) (cda := cda) (f := f) (qual := qual) hx hcell hr.hd e0 r1 r2 ns k
    obtain rfl : u1 = Value.ref a := r1
    have body_is : (PySem.W.ksFn "__init__" qual (defArgs st) (defBody st) (defScope st) .none kV doc pm an (.ref cda) ct cc).body = .stmts (defBody st) := rfl
    rw [hb]
    refine PySem.ks_wpAt_execs_cons ?_
    refine sup_first (A := A) (outer := outer) (s := s) T hx hcell lk har hself hcode hvs hfile he I ha ?_
    intro s2 I2
    refine wpAt_of_wpAny ?_
    have run := (pss_one (ps_ost (X := supX P w K mg base x qual f cc cda A outer s H) (pos := p9) (p' := p7) (f := fld) (pe_var (pos := p6) (i := 0) rfl (.inl rfl)) (pe_var (pos := p8) (i := 1) rfl (.inl lx) hxd hxc) (hsw _))).run [] s2 [some (.ref a), some v] H { nx := fun _ H' => Q .non H', rt := fun _ _ => False, bk := fun _ _ => False, ct := fun _ _ => False } I2
      ⟨v, rfl, .ref a, rfl, a, C, rfl, T.oex, T.fre, .inl ⟨ha, fun dx n ne => q dx n ne⟩⟩
    refine wpAny_mono run (fun fl s3 sp => ?_) (fun _ _ z => z.elim)
    cases fl with
    | next =>
      obtain ⟨σ', H', J, z⟩ := sp
      exact ⟨.non, H', J.os, J.bare, J.base, J.hok, rfl, z⟩
    | brk =>
      obtain ⟨_, _, _, z⟩ := sp
      exact z.elim
    | cont =>
      obtain ⟨_, _, _, z⟩ := sp
      exact z.elim
    | ret u =>
      obtain ⟨_, _, _, _, _, z⟩ := sp
      exact z.elim
end
end SupInit

set_option Elab.async false
set_option linter.all false
set_option maxRecDepth 100000
set_option maxHeartbeats 2000000
namespace Y8
open PySem PySem.Spec PyProof.Rows L2 Cau Dr15 Y1 Y2 Y3 Y4 Y5 Y6 Y7 TxtSet
abbrev St1 := Str × List V
def sdOf (p : St1) : Sd := .pair (.str p.1) (some p.2)
def wordL (xs : List V) : Str := match xs with
  | .str w :: _ => w
  | _ => ""
theorem sd_at {K : PySem.W.Frag} {H : Hp} {ys : List V} {st : List St1} (h : ∀ (i : Nat) y d, ys[i]? = some y → (st.map sdOf)[i]? = some d → SdOk K H y d) {i : Nat} {y : V} {p : St1} (e1 : ys[i]? = some y) (e2 : st[i]? = some p) :
    ∃ (yp zp : Addr), y = .ref yp ∧ SqT K H yp [.str p.1, .ref zp] ∧ SqT K H zp p.2 ∧ p.2.all AtomV = true ∧ p.2.length ≤ 100 := by
  have d := h i y (sdOf p) e1 (by rw [List.getElem?_map, e2]; rfl)
  obtain ⟨yp, z, rfl, hy, _, dd⟩ := d
  rcases dd with ⟨zp, xs, rfl, hz, ha, hl, e⟩ | ⟨_, e⟩
  · cases e
    exact ⟨yp, zp, rfl, hy, hz, ha, hl⟩
  · cases e
/-- each step of a drawing has a deed -/
theorem goes_deeds : ∀ (st : List St1) (kn : List Str), goesB (st.map sdOf) kn = true → ∀ p ∈ st, deedL p.2 = true ∧ nameS p.1 = true
  | [], _, _, p, hp => absurd hp List.not_mem_nil
  | q :: r, kn, h, p, hp => by
    rw [List.map_cons] at h
    unfold goesB at h
    cases e : stepB (sdOf q) kn with
    | none => rw [e] at h; cases h
    | some s =>
      rw [e] at h
      have h' : goesB (r.map sdOf) (kn ++ [s]) = true := h
      rcases List.mem_cons.mp hp with rfl | hp
      · have e' : stepB (.pair (.str p.1) (some p.2)) kn = some s := e
        rw [step_str] at e'
        split at e'
        · rename_i c
          simp only [Bool.and_eq_true] at c
          exact ⟨c.1.1.2, c.1.1.1⟩
        · cases e'
      · exact goes_deeds r _ h' p hp
theorem word_of {xs : List V} (h : deedL xs = true) : ∃ w r k, xs = .str w :: r ∧ formOf w = some k ∧ (r.take k).all nameV = true ∧ wordL xs = w := by
  obtain ⟨w, r, k, rfl, h1, h2⟩ := deed_shape h
  exact ⟨w, r, k, rfl, h1, h2, rfl⟩
section
variable {P : Program} {w : World} {K : PySem.W.Frag} {mg : Str → Option Value} {base : Heap}
end
end Y8

set_option Elab.async false
set_option linter.all false
set_option maxRecDepth 100000
set_option maxHeartbeats 2000000
namespace Y10
open PySem PySem.Spec PyProof.Rows L2 Cau Dr15 Y1 Y2 Y3 Y4 Y5 Y6 Y7 Y8 TxtSet
abbrev sShuf : Stmt := topS 46
/-! ### the state of the draws, kept -/
theorem seqL_kept {K : PySem.W.Frag} {H H' : Hp} {a w p : Addr} {xs : List V} (h : SqL K H p xs) (k : Kept a w H H') (h1 : p ≠ a) (h2 : p ≠ w) : SqL K H' p xs := by
  rcases h with (h | ⟨o, h⟩) | h
  · exact .inl (.inl (k _ _ h h1 h2))
  · exact .inl (.inr ⟨o, k _ _ h h1 h2⟩)
  · exact .inr h
theorem seqT_kept {K : PySem.W.Frag} {H H' : Hp} {a w p : Addr} {xs : List V} (h : SqT K H p xs) (k : Kept a w H H') (h1 : p ≠ a) (h2 : p ≠ w) : SqT K H' p xs := by
  rcases h with (h | ⟨o, h⟩) | h
  · exact .inl (.inl (k _ _ h h1 h2))
  · exact .inl (.inr ⟨o, k _ _ h h1 h2⟩)
  · exact .inr h
theorem St.mono {H : Hp} {a w c : Addr} {T T' : Nat} (h : St H a w c T) (l : T ≤ T') : St H a w c T' := by
  obtain ⟨h0, ws, cs, r, t, h1, h2, h3, h4, h5, h6, h7⟩ := h
  exact ⟨h0, ws, cs, r, t, h1, h2, h3, h4, h5, h6, by omega⟩
/-- but for new objects -/
theorem St.same {H H' : Hp} {a w c : Addr} {T : Nat} (h : St H a w c T) (k : Same H H') : St H' a w c T := by
  obtain ⟨h0, ws, cs, r, t, h1, h2, h3, h4⟩ := h
  exact ⟨h0, ws, cs, r, t, k _ _ h1, k _ _ h2, k _ _ h3, h4⟩
theorem Kept.of {a w : Addr} {H H' : Hp} (k : Same H H') : Kept a w H H' := fun b o e _ _ => k b o e
/-- what is new is no part of the state -/
theorem St.off {H : Hp} {a w c l : Addr} {T : Nat} (h : St H a w c T) (n : H l = none) : l ≠ a ∧ l ≠ w ∧ l ≠ c := by
  obtain ⟨_, ws, cs, r, t, h1, h2, h3, _⟩ := h
  exact ⟨(ne_of_none h1 n).symm, (ne_of_none h2 n).symm, (ne_of_none h3 n).symm⟩
/-- something else is written -/
theorem St.put {H : Hp} {a w c l : Addr} {T : Nat} {o : HO} (h : St H a w c T) (n : l ≠ a ∧ l ≠ w ∧ l ≠ c) : St (upd H l o) a w c T := by
  obtain ⟨h0, ws, cs, r, t, h1, h2, h3, h4⟩ := h
  exact ⟨h0, ws, cs, r, t, (upd_ne n.1.symm).trans h1, (upd_ne n.2.1.symm).trans h2, (upd_ne n.2.2.symm).trans h3, h4⟩
theorem kept_none {a w b : Addr} {H H' : Hp} (k : Kept a w H H') (h : H' b = none) (n : b ≠ a ∧ b ≠ w) : H b = none := by
  cases e : H b with
  | none => rfl
  | some o => rw [k b o e n.1 n.2] at h; cases h
/-- an object that was not there at the start is written -/
theorem Kept.put {a w l : Addr} {H H' : Hp} {o : HO} (k : Kept a w H H') (n : H l = none) : Kept a w H (upd H' l o) := fun b x e h1 h2 => by
  rw [upd_ne (ne_of_none e n)]
  exact k b x e h1 h2
theorem pow1000 {n : Nat} (h : n ≤ 1000) : (n : Int).natAbs < 2 ^ 1000 := Nat.lt_of_lt_of_le (show (n : Int).natAbs < 2 ^ 10 by omega) (Nat.pow_le_pow_right (by decide) (by decide))
theorem len_erase {α : Type} : ∀ (l : List α) (j : Nat), j < l.length → (l.eraseIdx j).length + 1 = l.length
  | a :: r, 0, _ => rfl
  | a :: r, j + 1, h => by
    rw [List.eraseIdx_cons_succ, List.length_cons, List.length_cons, len_erase r j (Nat.lt_of_succ_lt_succ h)]
theorem map_erase {α β : Type} (f : α → β) : ∀ (l : List α) (j : Nat), (l.map f).eraseIdx j = (l.eraseIdx j).map f
  | [], _ => rfl
  | a :: r, 0 => rfl
  | a :: r, j + 1 => by
    rw [List.map_cons, List.eraseIdx_cons_succ, List.eraseIdx_cons_succ, List.map_cons, map_erase f r j]
theorem perm_erase {α : Type} : ∀ (l : List α) (j : Nat) (h : j < l.length), (l[j] :: l.eraseIdx j).Perm l
  | a :: r, 0, _ => List.Perm.refl _
  | a :: r, j + 1, h => by
    rw [List.getElem_cons_succ, List.eraseIdx_cons_succ]
    exact (List.Perm.swap a _ _).trans ((perm_erase r j (Nat.lt_of_succ_lt_succ h)).cons a)
def spPick (K : PySem.W.Frag) : Sp := fun vs H Q _ => ∃ (a w c p : Addr) (T : Nat) (xs : List V), vs = [.ref a, .ref p] ∧ St H a w c T ∧ T ≤ 1000000 ∧ SqL K H p xs ∧ p ≠ a ∧ p ≠ w ∧ 0 < xs.length ∧ xs.length ≤ 1000 ∧
  ∀ (H' : Hp) (x : V), x ∈ xs → Kept a w H H' → St H' a w c (T + 1) → Q x H'
/-- a list of texts in another order -/
def spShuf (K : PySem.W.Frag) : Sp := fun vs H Q _ => ∃ (a w c p : Addr) (T : Nat) (xs : List Str), vs = [.ref a, .ref p] ∧ St H a w c T ∧ T + xs.length ≤ 1000000 ∧ SqL K H p (xs.map V.str) ∧ xs.length ≤ 900 ∧ (∀ x ∈ xs, PyData.strOk x = true) ∧
  ∀ (H' : Hp) (l : Addr) (ys : List Str), ys.Perm xs → H l = none → H' l = some (.lst (ys.map V.str)) → Kept a w H H' → St H' a w c (T + xs.length) → l ≠ a ∧ l ≠ w ∧ l ≠ c → Q (.ref l) H'
section
variable {P : Program} {w : World} {K : PySem.W.Frag} {mg : Str → Option Value} {base : Heap}
theorem scP : FnScope ["state", "some"] ["state", "some"] (defScope sPick) := ⟨rfl, rfl, rfl, by decide +kernel, rfl, by decide +kernel, by decide +kernel⟩
theorem ok_pick {f fD : Addr} {fd fdD : FuncData} (F : Fun K "_law_pick" "_law_pick" sPick f fd) (FD : Fun K "_law_draw" "_law_draw" sDraw fD fdD) (GD : FnOk P w K mg base CX0 2 fD fdD ["state", "room"] spDraw) (bD : Binds K fdD ["state", "room"] []) (gD : mg "_law_draw" = some (.ref fD)) (mlen : mg "len" = none) :
    FnOk P w K mg base CX0 3 f fd ["state", "some"] (spPick K) := by
  refine F.ok scP (fun vs H Q E h => ?_) (fun cdv A outer s H vs Q E hr h => ?_)
  · obtain ⟨a, w, c, p, T, xs, rfl, _⟩ := h
    rfl
  · obtain ⟨a, w, c, p, T, xs, rfl, hSt, hT, hS, npa, npw, hl0, hl1, q⟩ := h
    refine ⟨_, pss_one (ps_ret (pe_ix ix_list (pv 1) (pe_call GD hr (by rfl) gD FD.kp bD .nil pass0 (pa_cons (pv 0) (pa_cons (pe_callB call_len_seq (by rfl) mlen PySem.boot_len (pa_cons (pv 1) pa_nil)) pa_nil))) (fun _ _ => rfl))), ?_⟩
    refine ⟨_, rfl, _, rfl, _, rfl, p, xs, rfl, .inl hS, a, w, c, T, _, rfl, hSt, hT, by omega, pow1000 hl1, fun H' d h0 h1 k s' => ?_⟩
    obtain ⟨j, rfl⟩ : ∃ j : Nat, d = (j : Int) := ⟨d.toNat, by omega⟩
    have hd : j < xs.length := by omega
    exact ⟨p, xs, j, xs[j], rfl, rfl, seqL_kept hS k npa npw, atI_nat (List.getElem?_eq_getElem hd), q H' _ (List.getElem_mem _) k s'⟩
def shufN : List Str := ["state", "some", "left", "found"]
theorem scSh : FnScope shufN ["state", "some"] (defScope sShuf) := ⟨rfl, rfl, rfl, by decide +kernel, rfl, by decide +kernel, by decide +kernel⟩
theorem ok_shuf {f fD : Addr} {fd fdD : FuncData} (F : Fun K "_law_shuffled" "_law_shuffled" sShuf f fd) (FD : Fun K "_law_draw" "_law_draw" sDraw fD fdD) (GD : FnOk P w K mg base CX0 2 fD fdD ["state", "room"] spDraw) (bD : Binds K fdD ["state", "room"] []) (gD : mg "_law_draw" = some (.ref fD)) (mlen : mg "len" = none) (mli : mg "list" = none) :
    FnOk P w K mg base CX0 3 f fd ["state", "some"] (spShuf K) := by
  refine F.ok scSh (fun vs H Q E h => ?_) (fun cdv A outer s H vs Q E hr h => ?_)
  · obtain ⟨a, w, c, p, T, xs, rfl, _⟩ := h
    rfl
  · obtain ⟨a, w, c, p, T, xs, rfl, hSt, hT, hS, hl, hok, q⟩ := h
    refine ⟨_, pss_cons (ps_par (i := 2) (j := 3) rfl scSh.nd rfl rfl (by decide) rfl rfl (pa_cons (pe_callTy call_list_of (by rfl) mli (by decide +kernel) (pa_cons (pv 1) pa_nil)) (pa_cons (pe_lst pa_nil) pa_nil)) (by rfl))
      (pss_cons (ps_while PassesOwn.never (pt_cmpR (op_neD hr.units) (pv 2) (pe_lst pa_nil) (nomark _))
        (pss_one (ps_expr (pe_bm PySem.F.plainAttrs_list PySem.F.slot_list_append PySem.F.type_list_append mt_append (pv 3) (pa_cons
          (pe_bm PySem.F.plainAttrs_list PySem.F.slot_list_pop PySem.F.type_list_pop mt_popAt (pv 2) (pa_cons (pe_call GD hr (by rfl) gD FD.kp bD .nil pass0 (pa_cons (pv 0) (pa_cons (pe_callB call_len_seq (by rfl) mlen PySem.boot_len (pa_cons (pv 2) pa_nil)) pa_nil))) pa_nil)) pa_nil)))))
      (pss_one (ps_ret (pv 3)))), ?_⟩
    refine ⟨_, rfl, p, xs.map V.str, rfl, .inl hS, fun L nL => ?_⟩
    have oL := St.off hSt nL
    have S1 := St.put (o := .lst (xs.map V.str)) hSt oL
    refine ⟨Nat.zero_le _, fun Fo nF => ?_⟩
    have oF := St.off S1 nF
    have LF : L ≠ Fo := fun z => by rw [← z, upd_same] at nF; cases nF
    rw [upd_ne LF.symm] at nF
    have hL2 : (upd (upd H L (.lst (xs.map V.str))) Fo (.lst [])) L = some (.lst (xs.map V.str)) := (upd_ne LF).trans upd_same
    refine ⟨_, _, rfl, fun m σ H' => ∃ (ls fs : List Str) (T' : Nat), m = ls.length ∧ σ = [some (.ref a), some (.ref p), some (.ref L), some (.ref Fo)] ∧ H' L = some (.lst (ls.map V.str)) ∧ H' Fo = some (.lst (fs.map V.str)) ∧ Kept a w H H' ∧ St H' a w c T' ∧ T' + ls.length = T + xs.length ∧ (fs ++ ls).Perm xs,
      ⟨_, xs, [], T, rfl, rfl, hL2, upd_same, Kept.put (Kept.put (fun b o e _ _ => e) nL) nF, St.put S1 oF, rfl, List.Perm.refl _⟩, ?_⟩
    rintro m σ H' ⟨ls, fs, T', rfl, rfl, hL, hF, hK, hS', hT', hp⟩
    have hll : fs.length + ls.length = xs.length := by
      have := hp.length_eq
      rwa [List.length_append] at this
    refine ⟨_, rfl, Nat.zero_le _, fun t nt => ?_⟩
    have tL : L ≠ t := ne_of_none hL nt
    have tF : Fo ≠ t := ne_of_none hF nt
    have ot := St.off hS' nt
    have nt0 : H t = none := kept_none hK nt ⟨ot.1, ot.2.1⟩
    have hL3 : (upd H' t (.lst [])) L = some (.lst (ls.map V.str)) := (upd_ne tL).trans hL
    have hF3 : (upd H' t (.lst [])) Fo = some (.lst (fs.map V.str)) := (upd_ne tF).trans hF
    have hK3 : Kept a w H (upd H' t (.lst [])) := Kept.put hK nt0
    have hS3 : St (upd H' t (.lst [])) a w c T' := St.put hS' ot
    refine ⟨_, _, dp_strs (.inl (.inl hL3)), dp_nil upd_same, shaped_strs (fun x hx => hok x (hp.mem_iff.mp (List.mem_append_right _ hx))), shaped_nil, _, rfl, ?_⟩
    rw [eqv_nil]
    cases hls : ls with
    | nil =>
      refine iteF ?_
      refine ⟨_, rfl, ?_⟩
      subst hls
      rw [List.append_nil] at hp
      have hS4 : St (upd H' t (.lst [])) a w c (T + xs.length) := by
        have e : T' = T + xs.length := hT'
        exact e ▸ hS3
      exact q _ Fo fs hp nF hF3 hK3 hS4 oF
    | cons z0 r0 =>
      rw [← hls]
      have pos : 0 < ls.length := by rw [hls]; simp
      refine iteT2 (by rw [hls]; rfl) ?_
      refine ⟨_, fun _ _ z => z, ?_⟩
      refine ⟨_, rfl, .inl ⟨rfl, _, .inl (.inl hF3)⟩, _, rfl, .inl ⟨rfl, _, .inl (.inl hL3)⟩, _, rfl, _, rfl, L, ls.map V.str, rfl, .inl (.inl (.inl hL3)), a, w, c, T', _, rfl, hS3, by omega, ?_, ?_, fun H4 d h0 h1 k s4 => ?_⟩
      · rw [List.length_map]
        omega
      · rw [List.length_map]
        exact pow1000 (by omega)
      · obtain ⟨j, rfl⟩ : ∃ j : Nat, d = (j : Int) := ⟨d.toNat, by omega⟩
        rw [List.length_map] at h1
        have hj : j < ls.length := by omega
        have hL4 : H4 L = some (.lst (ls.map V.str)) := k _ _ hL3 oL.1 oL.2.1
        have hF4 : H4 Fo = some (.lst (fs.map V.str)) := k _ _ hF3 oF.1 oF.2.1
        have hK4 : Kept a w H H4 := hK3.trans k
        refine ⟨L, _, _, j, .str ls[j], rfl, rfl, hL4, by omega, by omega, ?_, by rw [List.getElem?_map, List.getElem?_eq_getElem hj]; rfl, ?_⟩
        · rw [List.length_map]
          unfold seqIndex?
          rw [if_neg (show ¬ ((j : Int) < 0) by omega)]
          simp [hj]
        · refine ⟨Fo, _, _, rfl, rfl, (upd_ne LF.symm).trans hF4, ?_, ?_⟩
          · rw [List.length_map]
            exact small1000 (by omega)
          · refine ⟨_, by have := len_erase ls j hj; omega, ls.eraseIdx j, fs ++ [ls[j]], T' + 1, rfl, rfl, ?_, ?_, Kept.put (Kept.put hK4 nL) nF, St.put (St.put s4 oL) oF, ?_, ?_⟩
            · rw [upd_ne LF, upd_same, map_erase]
            · rw [upd_same, List.map_append]
              rfl
            · have := len_erase ls j hj
              omega
            · rw [List.append_assoc]
              exact (List.Perm.append_left fs (perm_erase ls j hj)).trans hp
end
end Y10

set_option Elab.async false
set_option linter.all false
set_option maxRecDepth 100000
set_option maxHeartbeats 2000000
namespace Y11
open PySem PySem.Spec PyProof.Rows L2 Cau Dr15 Y1 Y2 Y3 Y4 Y5 Y6 Y7 Y8 Y10 TxtSet
abbrev sNm : Stmt := topS 47
/-! ### the names that may be drawn -/
def labelL : List Str := ["a", "b", "z", "meet", "gauge", "draw", "undo", "x", "y", "ok", "r1", "a1", "zzzzzzzz", "q9"]
def kOf (c : Nat) : Str := (⟨#[c]⟩ ++ "k") ++ ⟨#[c]⟩
def sOf (c : Nat) : Str := ⟨#[c]⟩ ++ "7"
def nearL (z : Str) : List Str := (z :: letT.cps.toList.map kOf) ++ letT.cps.toList.map sOf
def goodN (z : Str) : Bool := nameS z && PyData.strOk z && decide (z.length ≤ 8) && decide (z ≠ "notthere") && decide (z ≠ "n0")
theorem labels_good : labelL.all goodN = true := by decide +kernel
theorem ks_good : (letT.cps.toList.map kOf).all goodN = true := by decide +kernel
theorem ss_good : (letT.cps.toList.map sOf).all goodN = true := by decide +kernel
theorem ks_len : (letT.cps.toList.map kOf).length = 26 := by decide +kernel
theorem ss_len : (letT.cps.toList.map sOf).length = 26 := by decide +kernel
theorem ks_nodup : (letT.cps.toList.map kOf).Nodup := by decide +kernel
theorem near_good {z : Str} (h : z ∈ labelL) {y : Str} (hy : y ∈ nearL z) : goodN y = true := by
  unfold nearL at hy
  rw [List.mem_append, List.mem_cons] at hy
  rcases hy with (rfl | hy) | hy
  · exact List.all_eq_true.mp labels_good _ h
  · exact List.all_eq_true.mp ks_good _ hy
  · exact List.all_eq_true.mp ss_good _ hy
def freeN (kn : List Str) (z : Str) : Bool := !decide (z ∈ kn) && !decide (z ∈ sheetL)
theorem near_free (z : Str) (kn : List Str) (h : kn.length ≤ 20) : ∃ y r, (nearL z).filter (freeN kn) = y :: r := by
  cases e : (nearL z).filter (freeN kn) with
  | cons y r => exact ⟨y, r, rfl⟩
  | nil =>
    have all : ∀ y ∈ letT.cps.toList.map kOf, y ∈ kn ++ sheetL := fun y hy => by
      have hn : y ∈ nearL z := by
        unfold nearL
        rw [List.mem_append, List.mem_cons]
        exact .inl (.inr hy)
      have := List.filter_eq_nil_iff.mp e y hn
      unfold freeN at this
      rw [List.mem_append]
      by_cases h1 : y ∈ kn
      · exact .inl h1
      · by_cases h2 : y ∈ sheetL
        · exact .inr h2
        · exact absurd (by simp [h1, h2]) this
    have := nodup_le _ _ ks_nodup all
    rw [List.length_append] at this
    have e1 : (letT.cps.toList.map kOf).length = 26 := by decide +kernel
    have e2 : sheetL.length = 5 := rfl
    omega
def spNm (K : PySem.W.Frag) : Sp := fun vs H Q _ => ∃ (a w c b : Addr) (T : Nat) (kn : List Str), vs = [.ref a, .ref b] ∧ St H a w c T ∧ T ≤ 1000000 ∧ SqL K H b (kn.map V.str) ∧ b ≠ a ∧ b ≠ w ∧ kn.length ≤ 20 ∧
  ∀ (H' : Hp) (z : Str), goodN z = true → z ∉ kn → z ∉ sheetL → Kept a w H H' → St H' a w c (T + 1) → Q (.str z) H'
section
variable {P : Program} {w : World} {K : PySem.W.Frag} {mg : Str → Option Value} {base : Heap}
def nmN : List Str := ["state", "barred", "some", "label", "near", "mark", "one"]
theorem scNm : FnScope nmN ["state", "barred"] (defScope sNm) := ⟨rfl, rfl, rfl, by decide +kernel, rfl, by decide +kernel, by decide +kernel⟩
theorem ok_nm {f fP : Addr} {fd fdP : FuncData} (F : Fun K "_law_name" "_law_name" sNm f fd) (FP : Fun K "_law_pick" "_law_pick" sPick fP fdP) (GP : FnOk P w K mg base CX0 3 fP fdP ["state", "some"] (spPick K)) (bP : Binds K fdP ["state", "some"] []) (gP : mg "_law_pick" = some (.ref fP)) :
    FnOk P w K mg base CX0 4 f fd ["state", "barred"] (spNm K) := by
  refine F.ok scNm (fun vs H Q E h => ?_) (fun cdv A outer s H vs Q E hr h => ?_)
  · obtain ⟨a, w, c, b, T, kn, rfl, _⟩ := h
    rfl
  · obtain ⟨a, w, c, b, T, kn, rfl, hSt, hT, hB, nba, nbw, hkl, q⟩ := h
    refine ⟨_, pss_cons (ps_set (i := 2) scNm.nd rfl (.inl rfl) (pe_lst (pa_cons pe_str (pa_cons pe_str (pa_cons pe_str (pa_cons pe_str (pa_cons pe_str (pa_cons pe_str (pa_cons pe_str (pa_cons pe_str (pa_cons pe_str (pa_cons pe_str (pa_cons pe_str (pa_cons pe_str (pa_cons pe_str (pa_cons pe_str pa_nil))))))))))))))))
      (pss_cons (ps_set (i := 3) scNm.nd rfl (.inl rfl) (pe_call GP hr (by rfl) gP FP.kp bP .nil pass0 (pa_cons (pv 0) (pa_cons (pv 2) pa_nil))))
      (pss_cons (ps_set (i := 4) scNm.nd rfl (.inl rfl) (pe_op op_cat (pe_lst (pa_cons (pv 3) pa_nil))
          (pe_lc (own := [("mark", 5)]) (g := gName 5) (tt := tYes) rfl scNm.nd (pi_str pe_str)
            (blkOk_by (own := [("mark", 5)]) (N := nmN) (sc := defScope sNm) (by decide +kernel))
            (fun _ _ _ _ _ => pg_name (i := 5) scNm.nd rfl (.inl rfl)) (fun _ _ _ _ _ => pts_nil) (fun _ _ _ _ _ => pe_op op_add_str (pe_op op_add_str (pv 5) pe_str) (pv 5)))))
      (pss_cons (ps_set (i := 4) scNm.nd rfl (.inl rfl) (pe_op op_cat (pv 4)
          (pe_lc (own := [("mark", 5)]) (g := gName 5) (tt := tYes) rfl scNm.nd (pi_str pe_str)
            (blkOk_by (own := [("mark", 5)]) (N := nmN) (sc := defScope sNm) (by decide +kernel))
            (fun _ _ _ _ _ => pg_name (i := 5) scNm.nd rfl (.inl rfl)) (fun _ _ _ _ _ => pts_nil) (fun _ _ _ _ _ => pe_op op_add_str (pv 5) pe_str))))
      (pss_one (ps_ret (pe_ix ix_list
          (pe_lc (own := [("one", 6)]) (g := gName 6) rfl scNm.nd (pi_list (pv 4))
            (blkOk_by (own := [("one", 6)]) (N := nmN) (sc := defScope sNm) (by decide +kernel))
            (fun _ _ _ _ _ => pg_name (i := 6) scNm.nd rfl (.inl rfl))
            (fun _ _ _ _ _ => pts_one (PW.pt (pw_and (pt_cmpR (show OpR _ (compareOp .NotIn) (rIn K true) from op_notIn_seq) (pv 6) (pv 1) (by rfl))
              (pw_and1 (pt_cmpR (show OpR _ (compareOp .NotIn) (rIn K true) from op_notIn_seq) (pv 6) (pe_lst (pa_cons pe_str (pa_cons pe_str (pa_cons pe_str (pa_cons pe_str (pa_cons pe_str pa_nil)))))) (by rfl))))))
            (fun _ _ _ _ _ => pv 6)) pe_int (fun _ _ => rfl))))))), ?_⟩
    refine ⟨by show 14 ≤ sizeLine; decide, fun l nl => ?_⟩
    have ol := St.off hSt nl
    have k1 : Kept a w H (upd H l (.lst (labelL.map V.str))) := Kept.of (same_upd nl)
    have s1 : St (upd H l (.lst (labelL.map V.str))) a w c T := St.put hSt ol
    refine ⟨_, rfl, _, rfl, a, w, c, l, T, labelL.map V.str, rfl, s1, hT, .inl (.inl upd_same), ol.1, ol.2.1, by decide, by decide, fun H2 x hx k2 s2 => ?_⟩
    obtain ⟨z, hz, rfl⟩ := List.mem_map.mp hx
    have K2 : Kept a w H H2 := k1.trans k2
    have hB2 : SqL K H2 b (kn.map V.str) := seqL_kept hB K2 nba nbw
    -- the first of the near
    refine ⟨_, rfl, by show 1 ≤ sizeLine; decide, fun l1 n1 => ?_⟩
    refine ⟨letT, rfl, fun D nD => ?_⟩
    have lD : l1 ≠ D := fun e => by rw [← e, upd_same] at nD; cases nD
    have sD : Same H2 (upd H2 l1 (.lst [.str z])) := same_upd n1
    refine lc_it walk_str (fun i H' => ∃ bs : List Str, H' = upd (upd H2 l1 (.lst [.str z])) D (.lst (bs.map V.str)) ∧ bs = (letT.cps.toList.take i).map kOf) ⟨[], rfl, rfl⟩ (fun _ _ _ _ => trivial) ?_ ?_
    · rintro i x H3 H4 hi ⟨bs, rfl, hbs⟩ ⟨rfl, c1, hc1, rfl⟩
      have hil : bs.length < 27 := by
        have : letT.cps.size = 26 := by decide +kernel
        rw [hbs, List.length_map, List.length_take]
        omega
      refine ⟨rfl, _, rfl, _, _, rfl, rfl, by show 2 ≤ sizeLine; decide, _, rfl, _, _, rfl, rfl, by show 3 ≤ sizeLine; decide, _, upd_same, ?_, bs ++ [kOf c1], by rw [upd_upd, List.map_append]; rfl, ?_⟩
      · rw [List.length_map]
        exact small1000 (by omega)
      · rw [hbs, List.take_succ, List.map_append, Array.getElem?_toList, hc1]
        rfl
    · rintro H3 ⟨bs, rfl, hbs⟩
      have ebs : bs = letT.cps.toList.map kOf := by
        rw [hbs, show letT.cps.size = letT.cps.toList.length from rfl, List.take_length]
      subst ebs
      refine ⟨l1, D, _, _, rfl, rfl, (upd_ne lD).trans upd_same, upd_same, by rw [List.length_map, ks_len]; show 27 ≤ sizeLine; decide, fun p1 np1 => ?_⟩
      have S3 : Same H2 (upd (upd (upd H2 l1 (.lst [.str z])) D (.lst ((letT.cps.toList.map kOf).map V.str))) p1 (.lst ([.str z] ++ (letT.cps.toList.map kOf).map V.str))) := (same_upd n1).trans ((same_upd nD).trans (same_upd np1))
      generalize hH3 : upd (upd (upd H2 l1 (.lst [.str z])) D (.lst ((letT.cps.toList.map kOf).map V.str))) p1 (.lst ([.str z] ++ (letT.cps.toList.map kOf).map V.str)) = H3 at S3
      have hp1 : H3 p1 = some (.lst ((z :: letT.cps.toList.map kOf).map V.str)) := by rw [← hH3]; exact upd_same
      -- the second
      refine ⟨_, rfl, letT, rfl, fun D2 nD2 => ?_⟩
      have pD2 : p1 ≠ D2 := ne_of_none hp1 nD2
      refine lc_it walk_str (fun i H' => ∃ bs : List Str, H' = upd H3 D2 (.lst (bs.map V.str)) ∧ bs = (letT.cps.toList.take i).map sOf) ⟨[], rfl, rfl⟩ (fun _ _ _ _ => trivial) ?_ ?_
      · rintro i x H4 H5 hi ⟨bs, rfl, hbs⟩ ⟨rfl, c1, hc1, rfl⟩
        have hil : bs.length < 27 := by
          have : letT.cps.size = 26 := by decide +kernel
          rw [hbs, List.length_map, List.length_take]
          omega
        refine ⟨rfl, _, rfl, _, _, rfl, rfl, by show 2 ≤ sizeLine; decide, _, upd_same, ?_, bs ++ [sOf c1], by rw [upd_upd, List.map_append]; rfl, ?_⟩
        · rw [List.length_map]
          exact small1000 (by omega)
        · rw [hbs, List.take_succ, List.map_append, Array.getElem?_toList, hc1]
          rfl
      · rintro H4 ⟨bs, rfl, hbs⟩
        have ebs : bs = letT.cps.toList.map sOf := by
          rw [hbs, show letT.cps.size = letT.cps.toList.length from rfl, List.take_length]
        subst ebs
        refine ⟨p1, D2, _, _, rfl, rfl, (upd_ne pD2).trans hp1, upd_same, by rw [List.length_map, List.length_map, List.length_cons, ks_len, ss_len]; show 53 ≤ sizeLine; decide, fun p2 np2 => ?_⟩
        have S5 := S3.trans ((same_upd (o := .lst ((letT.cps.toList.map sOf).map V.str)) nD2).trans (same_upd (o := .lst ((z :: letT.cps.toList.map kOf).map V.str ++ (letT.cps.toList.map sOf).map V.str)) np2))
        generalize hH5 : upd (upd H3 D2 (.lst ((letT.cps.toList.map sOf).map V.str))) p2 (.lst ((z :: letT.cps.toList.map kOf).map V.str ++ (letT.cps.toList.map sOf).map V.str)) = H5 at S5
        have hp2 : H5 p2 = some (.lst ((nearL z).map V.str)) := by
          rw [← hH5, upd_same]
          unfold nearL
          rw [List.map_append]
        have hB5 : SqL K H5 b (kn.map V.str) := S5.seq hB2
        have len : (nearL z).length = 53 := by
          unfold nearL
          rw [List.length_append, List.length_cons]
          decide +kernel
        refine ⟨_, rfl, p2, rfl, ⟨_, .inl (.inl hp2)⟩, fun R nR => ?_⟩
        refine lc_list (K := K) (a := p2) (xs := (nearL z).map V.str) (fun i H' => ∃ cs : List Str, H' R = some (.lst (cs.map V.str)) ∧ cs = ((nearL z).take i).filter (freeN kn) ∧ Same H5 H') ⟨[], upd_same, rfl, same_upd nR⟩ (fun i H' _ ⟨_, _, _, sm⟩ => .inl (.inl (sm _ _ hp2))) ?_ ?_
        · rintro i x H6 hx ⟨cs, hR, hcs, sm⟩
          obtain ⟨y, rfl, hy⟩ : ∃ y, x = V.str y ∧ (nearL z)[i]? = some y := by
            rw [List.getElem?_map] at hx
            cases e : (nearL z)[i]? with
            | none => rw [e] at hx; cases hx
            | some y => rw [e] at hx; exact ⟨y, (Option.some.inj hx).symm, rfl⟩
          have hcl : cs.length ≤ 53 := by
            rw [hcs]
            refine Nat.le_trans (List.length_filter_le _ _) ?_
            rw [List.length_take]
            omega
          have step : ((nearL z).take (i + 1)).filter (freeN kn) = cs ++ (if freeN kn y = true then [y] else []) := by
            rw [hcs, List.take_succ, List.filter_append, hy]
            cases e : freeN kn y <;> simp [e]
          have no : ∀ H', H' R = some (.lst (cs.map V.str)) → Same H5 H' → freeN kn y = false → ∃ cs : List Str, H' R = some (.lst (cs.map V.str)) ∧ cs = ((nearL z).take (i + 1)).filter (freeN kn) ∧ Same H5 H' := fun H' h1 h2 e => ⟨cs, h1, by rw [step, e]; simp, h2⟩
          refine ⟨rfl, _, rfl, _, rfl, b, kn.map V.str, rfl, .inl (sm.seq hB5), rfl, strs_flat _, _, rfl, ?_⟩
          show if (!inV (.str y) (kn.map V.str)) = true then _ else _
          rw [inV_kn]
          by_cases hk : y ∈ kn
          · refine iteF2 (by rw [decide_eq_true hk]; rfl) (iteF (no _ hR sm ?_))
            unfold freeN
            simp [hk]
          · refine iteT2 (by rw [decide_eq_false hk]; rfl) ?_
            refine ⟨_, rfl, by show 5 ≤ sizeLine; decide, fun t nt => ?_⟩
            have tR : R ≠ t := ne_of_none hR nt
            have hR2 : (upd H6 t (.lst (sheetL.map V.str))) R = some (.lst (cs.map V.str)) := (upd_ne tR).trans hR
            have sm2 : Same H5 (upd H6 t (.lst (sheetL.map V.str))) := sm.trans (same_upd nt)
            refine ⟨t, sheetL.map V.str, rfl, .inl (.inl (.inl upd_same)), rfl, strs_flat _, _, rfl, ?_⟩
            show if (!inV (.str y) (sheetL.map V.str)) = true then _ else _
            rw [inV_kn]
            by_cases hs : y ∈ sheetL
            · refine iteF2 (by rw [decide_eq_true hs]; rfl) (no _ hR2 sm2 ?_)
              unfold freeN
              simp [hs]
            · refine iteT2 (by rw [decide_eq_false hs]; rfl) ⟨_, rfl, _, hR2, ?_, cs ++ [y], by rw [upd_same, List.map_append]; rfl, ?_, same_put sm2 nR⟩
              · rw [List.length_map]
                exact small1000 (by omega)
              · rw [step, if_pos (show freeN kn y = true by unfold freeN; simp [hk, hs])]
        · rintro H6 ⟨cs, hR, hcs, sm⟩
          rw [List.length_map, List.take_length] at hcs
          obtain ⟨y, r, e⟩ := near_free z kn hkl
          rw [e] at hcs
          subst hcs
          have hy : y ∈ (nearL z).filter (freeN kn) := by rw [e]; exact List.mem_cons_self
          rw [List.mem_filter] at hy
          have fr := hy.2
          unfold freeN at fr
          simp only [Bool.and_eq_true, Bool.not_eq_true', decide_eq_false_iff_not] at fr
          have S6 : Same H2 H6 := S5.trans sm
          exact ⟨R, _, 0, _, rfl, rfl, .inl (.inl hR), atI_nat (j := 0) rfl, q H6 y (near_good hz hy.1) fr.1 fr.2 (K2.trans (Kept.of S6)) (St.same s2 S6)⟩
end
end Y11

set_option Elab.async false
set_option linter.all false
set_option maxRecDepth 100000
set_option maxHeartbeats 2000000
namespace Y12
open PySem PySem.Spec PyProof.Rows L2 Cau Dr15 Y1 Y2 Y3 Y4 Y5 Y6 Y7 Y8 Y10 Y11 TxtSet
abbrev sDrawn : Stmt := topS 51
def WayOk (w : Str) (way : List V) : Prop := if wayW w = true then way = [.int 1] ∨ way = [.int 2] else way = []
/-- len of a list or a tuple -/
def rLenS (K : PySem.W.Frag) : List V → Hp → VK → Prop := fun xs H Q => ∃ p ys, xs = [V.ref p] ∧ (SqL K H p ys ∨ SqT K H p ys) ∧ Q (.int ys.length) H
def spDrawn (K : PySem.W.Frag) : Sp := fun vs H Q _ => ∃ (a w c p : Addr) (T : Nat) (w0 : Str) (k : Nat) (ns : List Str), vs = [.ref a, .str w0, .ref p] ∧ St H a w c T ∧ T + ns.length + 20 ≤ 1000000 ∧ formOf w0 = some k ∧ SqL K H p (ns.map V.str) ∧ p ≠ a ∧ p ≠ w ∧ 0 < ns.length ∧ ns.length ≤ 900 ∧ (∀ x ∈ ns, PyData.strOk x = true) ∧
  ∀ (H' : Hp) (q : Addr) (us : List Str) (way : List V), H q = none → H' q = some (.tup (.str w0 :: (us.map V.str ++ way))) → us.length = k → (∀ u ∈ us, u ∈ ns) → WayOk w0 way → Kept a w H H' → St H' a w c (T + ns.length + 20) → (q ≠ a ∧ q ≠ w ∧ q ≠ c) → Q (.ref q) H'
section
variable {P : Program} {w : World} {K : PySem.W.Frag} {mg : Str → Option Value} {base : Heap}
def drawnN : List Str := ["state", "word", "names", "left", "found", "spot"]
theorem scDw : FnScope drawnN ["state", "word", "names"] (defScope sDrawn) := ⟨rfl, rfl, rfl, by decide +kernel, rfl, by decide +kernel, by decide +kernel⟩
theorem ok_drawn {f fS fD fP fF fW : Addr} {fd fdS fdD fdP fdF fdW : FuncData} (F : Fun K "_law_deed" "_law_deed" sDrawn f fd)
    (FS : Fun K "_law_shuffled" "_law_shuffled" sShuf fS fdS) (GS : FnOk P w K mg base CX0 3 fS fdS ["state", "some"] (spShuf K)) (bS : Binds K fdS ["state", "some"] []) (gS : mg "_law_shuffled" = some (.ref fS))
    (FD : Fun K "_law_draw" "_law_draw" sDraw fD fdD) (GD : FnOk P w K mg base CX0 2 fD fdD ["state", "room"] spDraw) (bD : Binds K fdD ["state", "room"] []) (gD : mg "_law_draw" = some (.ref fD))
    (FP : Fun K "_law_pick" "_law_pick" sPick fP fdP) (GP : FnOk P w K mg base CX0 3 fP fdP ["state", "some"] (spPick K)) (bP : Binds K fdP ["state", "some"] []) (gP : mg "_law_pick" = some (.ref fP))
    (FF : Fun K "_law_forms" "_law_forms" sForms fF fdF) (GF : FnOk P w K mg base CX0 1 fF fdF [] spForms) (bF : Binds K fdF [] []) (gF : mg "_law_forms" = some (.ref fF))
    (FW : Fun K "_law_has_way" "_law_has_way" sHasWay fW fdW) (GW : FnOk P w K mg base CX0 1 fW fdW ["word"] spHasWay) (bW : Binds K fdW ["word"] []) (gW : mg "_law_has_way" = some (.ref fW))
    (mr : mg "range" = none) (mlen : mg "len" = none) (mt : mg "tuple" = none) : FnOk P w K mg base CX0 4 f fd ["state", "word", "names"] (spDrawn K) := by
  refine F.ok scDw (fun vs H Q E h => ?_) (fun cdv A outer s H vs Q E hr h => ?_)
  · obtain ⟨a, w, c, p, T, w0, k, ns, rfl, _⟩ := h
    rfl
  · obtain ⟨a, w, c, p, T, w0, k, ns, rfl, hSt, hT, hf, hS, npa, npw, hn0, hn, hok, q⟩ := h
    have hu := hu_of (hr.mono (Nat.zero_le _) : Room 0 _)
    have hr1 : Room 1 _ := hr.mono (by decide)
    have hr2 : Room 2 _ := hr.mono (by decide)
    refine ⟨_, pss_cons (ps_set (i := 3) scDw.nd rfl (.inr rfl) (pe_call GS hr (by rfl) gS FS.kp bS .nil pass0 (pa_cons (pv 0) (pa_cons (pv 2) pa_nil))))
      (pss_cons (ps_setLc (i := 4) (own := [("spot", 5)]) (g := gName 5) (tt := tYes) rfl scDw.nd rfl rfl (sw_true rfl rfl rfl (by decide +kernel))
          (pi_range1 (by rfl) mr (pa_cons (pe_dget hu (pe_call0 GF hr1 (by rfl) gF FF.kp bF .nil pass0) (pv 1) (fun _ _ => rfl)) pa_nil))
          (blkOk_by (own := [("spot", 5)]) (N := drawnN) (sc := defScope sDrawn) (by decide +kernel))
          (fun _ _ _ _ _ => pg_name (i := 5) scDw.nd rfl (.inl rfl)) (fun _ _ _ _ _ => pts_nil)
          (fun _ _ _ _ _ => pe_ifExp (PW.pt (pw_and (pt_cmpR op_lt (pv 5) (pe_callB (show CallR _ (.builtin "len") (rLenS K) from call_len_seq) (by rfl) mlen PySem.boot_len (pa_cons (pv 3) pa_nil)) (nomark _))
              (pw_and1 (pt_cmpR op_gt (pe_call GD hr2 (by rfl) gD FD.kp bD .nil pass0 (pa_cons (pv 0) (pa_cons pe_int pa_nil))) pe_int (nomark _)))))
            (pe_ix (show IxR _ (rIxL K) from ix_list) (pv 3) (pv 5) (fun _ _ => rfl))
            (pe_call GP hr (by rfl) gP FP.kp bP .nil pass0 (pa_cons (pv 0) (pa_cons (pv 2) pa_nil)))))
      (pss_one (ps_ret (pe_callTy call_tuple_of (by rfl) mt (by decide +kernel) (pa_cons (pe_op op_cat (pe_op op_cat (pe_lst (pa_cons (pv 1) pa_nil)) (pv 4))
          (pe_ifExp (pt_val (pe_call GW hr1 (by rfl) gW FW.kp bW .nil pass0 (pa_cons (pv 1) pa_nil)))
            (pe_lst (pa_cons (pe_op op_add pe_int (pe_call GD hr2 (by rfl) gD FD.kp bD .nil pass0 (pa_cons (pv 0) (pa_cons pe_int pa_nil)))) pa_nil)) (pe_lst pa_nil))) pa_nil))))), ?_⟩
    refine ⟨_, rfl, _, rfl, a, w, c, p, T, ns, rfl, hSt, by omega, hS, hn, hok, fun H1 l ys pm nl hl k1 s1 ol => ?_⟩
    refine ⟨rfl, fun fp nfp => ?_⟩
    have ofp := St.off s1 nfp
    have lfp : l ≠ fp := ne_of_none hl nfp
    have gk : DGet (upd H1 fp (.dK formsD)) fp (.str w0) (some (.int (k : Nat))) := by
      have e : valV formsD (.inr w0) = some (.int (k : Nat)) := by rw [forms_get, hf]; rfl
      exact e ▸ DGet.k (k := (.inr w0 : Key)) upd_same
    have k5 := (formOf_small hf).2
    refine ⟨_, rfl, fp, _, rfl, gk, (k : Int), rfl, by omega, by omega, fun D nD => ?_⟩
    have k2 : Kept a w H (upd H1 fp (.dK formsD)) := k1.trans (Kept.of (same_upd nfp))
    have s2 : St (upd H1 fp (.dK formsD)) a w c (T + ns.length) := St.put s1 ofp
    have hl2 : (upd H1 fp (.dK formsD)) l = some (.lst (ys.map V.str)) := (upd_ne lfp).trans hl
    generalize upd H1 fp (.dK formsD) = H2 at nD k2 s2 hl2
    have oD := St.off s2 nD
    have lD : l ≠ D := ne_of_none hl2 nD
    have nD0 : H D = none := kept_none k2 nD ⟨oD.1, oD.2.1⟩
    have yl : ys.length = ns.length := pm.length_eq
    refine lc_range (lo := 0) (n := (k : Int).toNat) (fun i H' => ∃ (us : List Str) (T' : Nat), H' D = some (.lst (us.map V.str)) ∧ us.length = i ∧ (∀ u ∈ us, u ∈ ns) ∧ Kept a w H H' ∧ Kept a w H2 H' ∧ St H' a w c T' ∧ T' ≤ T + ns.length + 2 * i)
      ⟨[], _, upd_same, rfl, fun _ h => absurd h List.not_mem_nil, Kept.put k2 nD0, Kept.put (fun b o e _ _ => e) nD, St.put s2 oD, by omega⟩ ?_ ?_
    · rintro i H3 hi ⟨us, T', hD, hul, hus, k3, k4, s3, hT'⟩
      have hik : i < k := hi
      have hl3 : H3 l = some (.lst (ys.map V.str)) := k4 _ _ hl2 ol.1 ol.2.1
      have fin : ∀ (H4 : Hp) (u : Str) (T2 : Nat), u ∈ ns → Kept a w H3 H4 → St H4 a w c T2 → T2 ≤ T' + 2 → ∃ acc, H4 D = some (.lst acc) ∧ acc.length < sizeLine ∧ ∃ (us : List Str) (T' : Nat), (upd H4 D (.lst (acc ++ [V.str u]))) D = some (.lst (us.map V.str)) ∧ us.length = i + 1 ∧ (∀ u ∈ us, u ∈ ns) ∧ Kept a w H (upd H4 D (.lst (acc ++ [V.str u]))) ∧ Kept a w H2 (upd H4 D (.lst (acc ++ [V.str u]))) ∧ St (upd H4 D (.lst (acc ++ [V.str u]))) a w c T' ∧ T' ≤ T + ns.length + 2 * (i + 1) := by
        intro H4 u T2 hu' k5' s5 l5
        refine ⟨_, k5' _ _ hD oD.1 oD.2.1, ?_, us ++ [u], T2, by rw [upd_same, List.map_append]; rfl, by rw [List.length_append, hul]; rfl, fun v hv => ?_, Kept.put (k3.trans k5') nD0, Kept.put (k4.trans k5') nD, St.put s5 oD, by omega⟩
        · rw [List.length_map]
          exact small1000 (by omega)
        · rcases List.mem_append.mp hv with hv | hv
          · exact hus v hv
          · rw [List.mem_singleton.mp hv]
            exact hu'
      refine ⟨rfl, ?_⟩
      have hp3 : SqL K H3 p (ns.map V.str) := seqL_kept hS k3 npa npw
      refine ⟨_, rfl, _, rfl, l, _, rfl, .inl (.inl (.inl hl3)), _, _, rfl, rfl, _, rfl, ite2 (fun hlt => ?_) (fun _ => ?_)⟩
      · have hlt' : i < ys.length := by
          have := of_decide_eq_true hlt
          rw [List.length_map] at this
          omega
        refine ⟨_, rfl, a, w, c, T', 9, rfl, s3, by omega, by decide, pow1000 (n := 9) (by decide), fun H4 d h0 h1 k6 s6 => ?_⟩
        refine ⟨_, _, rfl, rfl, _, rfl, ite2 (fun hd => ?_) (fun _ => ?_)⟩
        · have hl4 : H4 l = some (.lst (ys.map V.str)) := k6 _ _ hl3 ol.1 ol.2.1
          refine ⟨_, rfl, _, rfl, l, _, _, .str ys[i], rfl, rfl, .inl (.inl hl4), ?_, ?_⟩
          · rw [Int.zero_add]
            refine atI_nat (j := i) ?_
            rw [List.getElem?_map, List.getElem?_eq_getElem hlt']
            rfl
          · exact fin H4 ys[i] _ (pm.mem_iff.mp (List.getElem_mem _)) k6 s6 (by omega)
        · refine ⟨_, rfl, _, rfl, a, w, c, p, T' + 1, ns.map V.str, rfl, s6, by omega, seqL_kept hp3 k6 npa npw, npa, npw, by rwa [List.length_map], by rw [List.length_map]; omega, fun H5 x hx k7 s7 => ?_⟩
          obtain ⟨u, hu', rfl⟩ := List.mem_map.mp hx
          exact fin H5 u _ hu' (k6.trans k7) s7 (by omega)
      · refine ⟨_, rfl, _, rfl, a, w, c, p, T', ns.map V.str, rfl, s3, by omega, hp3, npa, npw, by rwa [List.length_map], by rw [List.length_map]; omega, fun H5 x hx k7 s7 => ?_⟩
        obtain ⟨u, hu', rfl⟩ := List.mem_map.mp hx
        exact fin H5 u _ hu' k7 s7 (by omega)
    · rintro H3 ⟨us, T', hD, hul, hus, k3, _, s3, hT'⟩
      have hul : us.length = k := hul
      refine ⟨_, rfl, by show 1 ≤ sizeLine; decide, fun l1 n1 => ?_⟩
      have D1 : D ≠ l1 := ne_of_none hD n1
      have hD1 : (upd H3 l1 (.lst [.str w0])) D = some (.lst (us.map V.str)) := (upd_ne D1).trans hD
      refine ⟨_, rfl, l1, D, _, _, rfl, rfl, upd_same, hD1, ?_, fun p1 np1 => ?_⟩
      · rw [List.length_map, hul]
        exact Nat.le_of_lt (small1000 (by show 1 + k ≤ 1000; omega))
      have S1 : Same H3 (upd (upd H3 l1 (.lst [.str w0])) p1 (.lst ([.str w0] ++ us.map V.str))) := (same_upd n1).trans (same_upd np1)
      generalize hH4 : upd (upd H3 l1 (.lst [.str w0])) p1 (.lst ([.str w0] ++ us.map V.str)) = H4 at S1
      have hp1 : H4 p1 = some (.lst ([.str w0] ++ us.map V.str)) := by rw [← hH4]; exact upd_same
      have np10 : H3 p1 = none := PySem.Spec.same_none (same_upd n1) np1
      have op1 := St.off s3 np10
      refine ⟨_, rfl, w0, rfl, fun H5 S5 => ⟨_, rfl, ?_⟩⟩
      have hp15 := S5 _ _ hp1
      have s5 : St H5 a w c T' := St.same s3 (S1.trans S5)
      have k5' : Kept a w H H5 := k3.trans (Kept.of (S1.trans S5))
      have fin : ∀ (H6 : Hp) (l3 : Addr) (way : List V) (T2 : Nat), H6 p1 = some (.lst ([.str w0] ++ us.map V.str)) → H6 l3 = some (.lst way) → way.length ≤ 1 → WayOk w0 way → Kept a w H H6 → St H6 a w c T2 → T2 ≤ T' + 1 →
          rCat (.ref p1) (.ref l3) H6 fun v H7 => ∃ p ys, [v] = [V.ref p] ∧ ((SqL K H7 p ys ∧ ∀ l, H7 l = none → Q (.ref l) (upd H7 l (.tup ys))) ∨ (SqT K H7 p ys ∧ Q (.ref p) H7)) := by
        intro H6 l3 way T2 e1 e2 e3 ok k6 s6 l6
        refine ⟨p1, l3, _, _, rfl, rfl, e1, e2, ?_, fun p2 np2 => ⟨p2, _, rfl, .inl ⟨.inl (.inl upd_same), fun q0 nq0 => ?_⟩⟩⟩
        · rw [List.length_append, List.length_map, hul]
          exact Nat.le_of_lt (small1000 (by show 1 + k + way.length ≤ 1000; omega))
        have op2 := St.off s6 np2
        have s7 := St.put (o := .lst ([.str w0] ++ us.map V.str ++ way)) s6 op2
        have oq := St.off s7 nq0
        have np20 : H p2 = none := kept_none k6 np2 ⟨op2.1, op2.2.1⟩
        have k7 := Kept.put (o := .lst ([.str w0] ++ us.map V.str ++ way)) k6 np20
        have nq00 : H q0 = none := kept_none k7 nq0 ⟨oq.1, oq.2.1⟩
        exact q _ q0 us way nq00 (by rw [upd_same]; rfl) hul hus ok (Kept.put k7 nq00) (St.mono (St.put s7 oq) (by omega)) oq
      cases hw : wayW w0 with
      | true =>
        refine iteT2 rfl ?_
        refine ⟨_, rfl, a, w, c, T', 2, rfl, s5, by omega, by decide, pow1000 (n := 2) (by decide), fun H6 d h0 h1 k6 s6 => ?_⟩
        refine ⟨1, d, rfl, rfl, by show 1 ≤ sizeLine; decide, fun l3 n3 => ?_⟩
        have hp16 : H6 p1 = some (.lst ([.str w0] ++ us.map V.str)) := k6 _ _ hp15 op1.1 op1.2.1
        have o3 := St.off s6 n3
        have p3 : p1 ≠ l3 := ne_of_none hp16 n3
        have n30 : H l3 = none := kept_none (k5'.trans k6) n3 ⟨o3.1, o3.2.1⟩
        refine fin _ l3 [.int (1 + d)] (T' + 1) ((upd_ne p3).trans hp16) upd_same (Nat.le_refl _) ?_ (Kept.put (k5'.trans k6) n30) (St.put s6 o3) (Nat.le_refl _)
        unfold WayOk
        rw [if_pos hw]
        have : d = 0 ∨ d = 1 := by omega
        rcases this with rfl | rfl
        · exact .inl rfl
        · exact .inr rfl
      | false =>
        refine iteF2 rfl ?_
        refine ⟨Nat.zero_le _, fun l3 n3 => ?_⟩
        have p3 : p1 ≠ l3 := ne_of_none hp15 n3
        have o3 := St.off s5 n3
        have n30 : H l3 = none := kept_none k5' n3 ⟨o3.1, o3.2.1⟩
        refine fin _ l3 [] T' ((upd_ne p3).trans hp15) upd_same (Nat.zero_le _) ?_ (Kept.put k5' n30) (St.put s5 o3) (Nat.le_succ _)
        unfold WayOk
        rw [if_neg (by rw [hw]; decide)]
end
end Y12

set_option Elab.async false
set_option linter.all false
set_option maxRecDepth 100000
set_option maxHeartbeats 2000000
namespace Y13
open PySem PySem.Spec PyProof.Rows L2 Cau Dr15 Y1 Y2 Y3 Y4 Y5 Y6 Y7 Y8 Y10 Y11 Y12 TxtSet
/-! ### tuples stay -/
def TK (K : PySem.W.Frag) (H H' : Hp) : Prop := ∀ q xs, SqT K H q xs → SqT K H' q xs
theorem TK.trans {K : PySem.W.Frag} {H H1 H2 : Hp} (x : TK K H H1) (y : TK K H1 H2) : TK K H H2 := fun q xs h => y q xs (x q xs h)
theorem TK.of {K : PySem.W.Frag} {H H' : Hp} (s : Same H H') : TK K H H' := fun q xs h => sqT_same h s
theorem TK.put {K : PySem.W.Frag} {H : Hp} {l : Addr} {zs : List V} {o : HO} (e : H l = some (.lst zs)) : TK K H (upd H l o) := fun q xs h => by
  rcases h with (h | ⟨u, h⟩) | h
  · have n : q ≠ l := fun z => by rw [z, e] at h; cases h
    exact .inl (.inl ((upd_ne n).trans h))
  · have n : q ≠ l := fun z => by rw [z, e] at h; cases h
    exact .inl (.inr ⟨u, (upd_ne n).trans h⟩)
  · exact .inr h
theorem TK.kept {K : PySem.W.Frag} {H H' : Hp} {a w c : Addr} {T : Nat} (s : St H a w c T) (k : Kept a w H H') : TK K H H' := fun q xs h => by
  obtain ⟨_, ws, cs, r, t, h1, h2, _⟩ := s
  rcases h with (h | ⟨u, h⟩) | h
  · exact .inl (.inl (k _ _ h (fun z => by rw [z, h1] at h; cases h) (fun z => by rw [z, h2] at h; cases h)))
  · exact .inl (.inr ⟨u, k _ _ h (fun z => by rw [z, h1] at h; cases h) (fun z => by rw [z, h2] at h; cases h)⟩)
  · exact .inr h
/-- a step that was drawn -/
def SdT (K : PySem.W.Frag) (H : Hp) (y : V) (p : St1) : Prop := ∃ yp zp, y = .ref yp ∧ SqT K H yp [.str p.1, .ref zp] ∧ SqT K H zp p.2 ∧ p.2.all AtomV = true ∧ p.2.length ≤ 100 ∧ AtomV (.str p.1) = true
theorem SdT.tk {K : PySem.W.Frag} {H H' : Hp} {y : V} {p : St1} (h : SdT K H y p) (t : TK K H H') : SdT K H' y p := by
  obtain ⟨yp, zp, e, h1, h2, h3⟩ := h
  exact ⟨yp, zp, e, t _ _ h1, t _ _ h2, h3⟩
theorem SdT.ok {K : PySem.W.Frag} {H : Hp} {y : V} {p : St1} (h : SdT K H y p) : SdOk K H y (sdOf p) := by
  obtain ⟨yp, zp, e, h1, h2, h3, h4, h5⟩ := h
  exact ⟨yp, .ref zp, e, h1, h5, .inl ⟨zp, p.2, rfl, h2, h3, h4, rfl⟩⟩
/-! ### the drawn deeds are deeds -/
theorem goes_snoc : ∀ (st : List St1) (kn : List Str) (p : St1), goesB (st.map sdOf) kn = true → stepB (sdOf p) (kn ++ st.map (·.1)) = some p.1 → goesB ((st ++ [p]).map sdOf) kn = true
  | [], kn, p, _, h => by
    rw [List.map_nil, List.append_nil] at h
    show goesB [sdOf p] kn = true
    unfold goesB
    rw [h]
    rfl
  | q :: r, kn, p, hg, h => by
    rw [List.map_cons] at hg
    rw [List.cons_append, List.map_cons]
    unfold goesB at hg ⊢
    cases e : stepB (sdOf q) kn with
    | none => rw [e] at hg; cases hg
    | some s =>
      rw [e] at hg
      have es : s = q.1 := by
        have e' : stepB (.pair (.str q.1) (some q.2)) kn = some s := e
        rw [step_str] at e'
        split at e'
        · exact (Option.some.inj e').symm
        · cases e'
      subst es
      refine goes_snoc r (kn ++ [q.1]) p hg ?_
      rw [List.append_assoc]
      exact h
theorem good_name {z : Str} (h : goodN z = true) : nameS z = true ∧ PyData.strOk z = true ∧ z.length ≤ 8 := by
  unfold goodN at h
  simp only [Bool.and_eq_true, decide_eq_true_eq] at h
  exact ⟨h.1.1.1.1, h.1.1.1.2, h.1.1.2⟩
theorem good_odd {z : Str} (h : goodN z = true) : z ≠ "notthere" ∧ z ≠ "n0" := by
  unfold goodN at h
  simp only [Bool.and_eq_true, decide_eq_true_eq] at h
  exact ⟨h.1.2, h.2⟩
theorem good_atom {z : Str} (h : goodN z = true) : AtomV (.str z) = true := by
  obtain ⟨_, h2, h3⟩ := good_name h
  show (decide (z.length ≤ 4000) && PyData.strOk z) = true
  rw [h2, decide_eq_true (show z.length ≤ 4000 by omega)]
  rfl
theorem word_atom {w : Str} {k : Nat} (h : formOf w = some k) : AtomV (.str w) = true := by
  have all : ∀ p ∈ formsL, AtomV (.str p.1) = true := by decide +kernel
  exact all (w, k) (PySem.mem_of_lookup h)
theorem way_len {w : Str} {way : List V} (h : WayOk w way) : way.length ≤ 1 := by
  unfold WayOk at h
  split at h
  · rcases h with rfl | rfl <;> exact Nat.le_refl _
  · subst h
    exact Nat.zero_le _
theorem way_atom {w : Str} {way : List V} (h : WayOk w way) : way.all AtomV = true := by
  unfold WayOk at h
  split at h
  · rcases h with rfl | rfl <;> rfl
  · subst h
    rfl
theorem drawn_deed {w : Str} {k : Nat} {us : List Str} {way : List V} (hf : formOf w = some k) (hl : us.length = k) (hu : ∀ u ∈ us, nameS u = true) (hw : WayOk w way) : deedL (.str w :: (us.map V.str ++ way)) = true := by
  have e1 : (us.map V.str ++ way).take k = us.map V.str := by
    rw [← hl, ← List.length_map (f := V.str), List.take_left]
  have e2 : (us.map V.str).all nameV = true := by
    rw [List.all_map, List.all_eq_true]
    exact fun u h => hu u h
  rw [deed_is hf, e1, e2]
  unfold WayOk at hw
  by_cases c : wayW w = true
  · rw [if_pos c] at hw
    rw [if_pos c]
    have e3 : (us.map V.str ++ way).length = k + 1 := by
      rw [List.length_append, List.length_map, hl]
      rcases hw with rfl | rfl <;> rfl
    rw [e3]
    rcases hw with rfl | rfl
    · have : (us.map V.str ++ [V.int 1]).getLastD .non = .int 1 := by simp [List.getLastD_eq_getLast?]
      rw [this]
      simp [wayV]
    · have : (us.map V.str ++ [V.int 2]).getLastD .non = .int 2 := by simp [List.getLastD_eq_getLast?]
      rw [this]
      simp [wayV]
  · rw [if_neg c] at hw
    rw [if_neg c, hw, List.append_nil, List.length_map, hl]
    simp
theorem drawn_names {w : Str} {k : Nat} {us : List Str} {way : List V} (hf : formOf w = some k) (hl : us.length = k) : namesL (.str w :: (us.map V.str ++ way)) = us := by
  rw [names_is hf, ← hl, ← List.length_map (f := V.str), List.take_left, List.filterMap_map]
  have : (txtOf ∘ V.str) = some := rfl
  rw [this, List.filterMap_some]
theorem cut_strs (xs : List Str) (lo hi : Option Int) : ∃ ys : List Str, cutV (xs.map V.str) lo hi = ys.map V.str ∧ (∀ y ∈ ys, y ∈ xs) ∧ ys.length ≤ xs.length := by
  refine ⟨(xs.drop (HT.sIx (xs.map V.str).length 0 lo)).take (HT.sIx (xs.map V.str).length (xs.map V.str).length hi - HT.sIx (xs.map V.str).length 0 lo), ?_, fun y h => List.mem_of_mem_drop (List.mem_of_mem_take h), ?_⟩
  · unfold cutV
    rw [List.map_take, List.map_drop]
  · rw [List.length_take, List.length_drop]
    omega
theorem sheet_good : sheetL.all goodN = true := by decide +kernel
theorem pe_weak {X : Cx} {e : Expr} {t t' : TE} (h : PE X e t) (k : ∀ σ H Q, t' σ H Q → t σ H Q) : PE X e t' := ⟨fun pins s σ H Q I q => h.run pins s σ H Q I (k σ H Q q)⟩
section
variable {P : Program} {w : World} {K : PySem.W.Frag} {mg : Str → Option Value} {base : Heap}
end
end Y13

set_option Elab.async false
set_option linter.all false
set_option maxRecDepth 100000
set_option maxHeartbeats 2000000
/-! An own error with a dict, told of at its address: isinstance, and its field. -/
namespace ErrD
open PySem PySem.Spec PyProof.Rows L2 Cau PySem.W
section
variable {prog : Program} {w : World} {K : Frag} {x D : Addr} {ox : Obj} {od : Option Obj}
theorem cls_found {C : Addr} {name : Str} {a g : Value} (hc : (clsIn K C).isSome = true) (ha : findIn K (.ref C) name = some (some a)) (hg : specialIn K a "__get__" = some (some g)) (ht : takesIn K a = some true) : findObj K C od name = some (.bind g a) := by
  obtain ⟨cd, e⟩ := Option.isSome_iff_exists.mp hc
  unfold findObj
  rw [e, Option.bind_some, ha, Option.bind_some]
  simp [hg, ht]
theorem cls_read (C : ExcC K D) {A : Around} {E : Value → Shared → Prop} {s : Shared} {Q : Option Value → Shared → Prop} (X : K.In s.heap) (I : InstAt s.heap x ox D od) (h : Q (some (.ref D)) { s with toks := s.toks + 1 }) :
    wpAny (model prog w) A (getAttr? (.ref x) "__class__") Q E s := by
  have some' : (clsIn K D).isSome = true := by
    obtain ⟨cd, e, _⟩ := any_some C.hd
    rw [e]
    rfl
  have found : findObj K D od "__class__" = some (.bind (.builtin "getset_descriptor.__get__") (.builtin "object.__class__")) := cls_found some' C.ha C.hn C.ht
  obtain ⟨hp, g, d, t, os⟩ := s
  have t0 := I.type (M := model prog w)
  have t1 := looks_findIn (M := model prog w) X C.hg
  have t2 := looks_findIn (M := model prog w) X C.hk
  have t3 := looks_find (M := model prog w) X I found
  have isB : Looks (model prog w) hp (isInstance (.ref x) (.type "BaseException")) true := t0.andThen (looks_subIn X C.hs)
  have n1 : (onTheHeap (Value.ref D) && Value.builtin "BaseException.__getattribute__" == Value.builtin "object.__getattribute__") = false := by
    rw [show (Value.builtin "BaseException.__getattribute__" == Value.builtin "object.__getattribute__") = false by decide +kernel]
    rfl
  have n2 : (false && onTheHeap (Value.builtin "BaseException.__getattribute__")) = false := rfl
  unfold getAttr? getAttrBy? getAttrBy
  refine wpAny_bind (wpAny_mkText (wpAny_bind (wpAny_attempt (wpAny_holding (wpAny_bind (t0.at (wpAny_bind (t1.at ?_))))))))
  change wpAny _ _ (if (onTheHeap (Value.ref D) && Value.builtin "BaseException.__getattribute__" == Value.builtin "object.__getattribute__") = true then _ else _) _ _ _
  rw [n1, if_neg Bool.false_ne_true]
  unfold getAttrByItsOwn hookBefore
  refine wpAny_bind ?_
  rw [if_pos (show onTheHeap (Value.ref D) = true from rfl)]
  refine t2.at (wpAny_bind (wpAny_attempt (wpAny_holding ?_)))
  unfold callGetattribute
  rw [n2, if_neg Bool.false_ne_true]
  unfold boundAndCalled
  rw [PySem.F.excAttr_ValueError.ga.bind (.ref x)]
  refine wpAny_bind (wpAny_pure ?_)
  change wpAny _ _ (call (.builtin "BaseException.__getattribute__") [.ref x, .str "__class__" t]) _ _ _
  refine wpAny_call (codeAny_call_builtin PySem.F.excAttr_ValueError.ga.plain PySem.F.entry_bexc_ga ?_)
  refine PySem.W.check_slot (M := model prog w) (s := ⟨hp, g, d, t + 1, os⟩) (i := "BaseException.__getattribute__") (owner := "BaseException") (n := "__getattribute__") (self := .ref x) (rest := [.str "__class__" t]) (kw := [])
    (by decide +kernel) (by decide +kernel) isB (PySem.F.args_bexc_ga (.ref x) (.str "__class__" t)) ?_
  unfold Builtin.«object.__getattribute__»
  refine wpAny_bind (wpAny_of_eq (a := ((Value.ref x : Value), [Value.str "__class__" t])) (by first | rfl | (simp only [slotArgs]; rfl)) ?_)
  refine wpAny_bind (wpAny_pure (wpAny_bind (t0.at (wpAny_bind (t3.at ?_)))))
  change wpAny _ _ (holding [Value.builtin "object.__class__"] (call (.builtin "getset_descriptor.__get__") [.builtin "object.__class__", .ref x, .ref D]) >>= ret) _ _ _
  refine wpAny_bind (wpAny_holding (wpAny_call (class_get (s := ⟨hp, g, d, t + 1, os⟩) (ox := ox) (od := od) X I C.hm ?_)))
  refine wpAny_pure ?_
  change wpAny _ _ (handedOut (.ref D)) _ _ _
  rw [handedOut_of (v := .ref D) rfl]
  first
    | exact wpAny_pure (wpAny_pure h)
    | exact wpAny_pure h
    | exact wpAny_pure (wpAny_bind (wpAny_pure (wpAny_pure h)))
theorem kit_err (C : ExcC K D) : KitX K (.ref x) (.ref D) (fun h => InstAt h x ox D od) where
  ty := fun _ _ _ I => I.type
  it := fun _ _ X _ => by
    obtain ⟨cd, e, _⟩ := any_some C.hd
    unfold clsIn at e
    split at e
    · rename_i ho
      intro A Q E s k q
      unfold isType loadHead
      exact wpAny_bind (wpAny_loadPart (k _ _ (X _ _ ho)) (wpAny_pure q))
    · cases e
  ne := fun h tp dd its n sl X htp => by
    obtain ⟨cd, e, _⟩ := any_some C.hd
    refine Bool.eq_false_iff.mpr fun q => ?_
    obtain rfl : D = tp := Value.ref.inj (beq_iff_eq.mp q)
    unfold clsIn at e
    split at e
    · rename_i ho
      cases (X _ _ ho).symm.trans htp
    · cases e
  ca := fun X I k => cls_read C X I k
end
def rIsErrD (K : PySem.W.Frag) (D : Addr) : List V → Hp → VK → Prop := fun xs H Q =>
  ∃ (e d : Addr) (fs : List (Str × V)) (c : V) (cv : Value) (b : Bool), xs = [.ref e, c] ∧ H e = some (ErrO (.ref D) (some d) e) ∧ H d = some (.xd fs) ∧ (∀ u, RelV c u → u = cv) ∧ PySem.W.kitOne K (.ref D) cv = some b ∧ Q (.bl b) H
theorem err_inst {X : Cx} {pins : List (Addr × Obj)} {σ : L2.St} {H : Hp} {s : Shared} {e d D : Addr} {fs : List (Str × V)} (I : Inv X pins σ H s) (he : H e = some (ErrO (.ref D) (some d) e)) (hd : H d = some (.xd fs)) :
    ∃ (ob od : Obj) (mA : Str → Option Value), PySem.W.InstAt s.heap e ob D (some od) ∧ s.heap.get? d = some od ∧ (∀ f, RelO (fs.lookup f) (mA f)) ∧ s.heap.Ns1 d mA := by
  obtain ⟨⟨⟨oc, odd, oda, osl⟩, vs, g, z, hf⟩, _⟩ := I.hok e _ he
  obtain ⟨z1, z2⟩ := z
  simp only at z1 z2 hf
  subst z1 z2 hf
  have hx : ObjOk X.prog X.w H s.heap d (.xd fs) := I.hok d _ hd
  obtain ⟨mA, hns, hr⟩ := hx
  obtain ⟨od, ho, hl⟩ := lookIn_ns hns
  exact ⟨_, od, mA, ⟨g, rfl, rfl, ho⟩, ho, hr, hns⟩
theorem call_isErrD {X : Cx} {D : Addr} (C : ExcC X.K D) : CallR X (.builtin "isinstance") (rIsErrD X.K D) := by
  intro pins s σ H xs us Q I r ⟨e, d, fs, c, cv, b, hx, he, hd, hcv, hb, q⟩
  subst hx
  obtain ⟨u1, u2, hu, r1, r2⟩ := vals2 r
  subst hu
  cases (show u1 = Value.ref e from r1)
  cases hcv _ r2
  obtain ⟨ob, od, mA, at_, _⟩ := err_inst I he hd
  exact PySem.W.kia_one (kit_err C) I.kIn at_ hb (fun z => nomatch z) fun tk => ⟨.bl b, H, I.tok tk, rfl, q⟩
/-- e.f -/
def tErrF (D : Addr) (f : Str) (te : TE) : TE := fun σ H Q => te σ H fun x H1 => ∃ (e d : Addr) (fs : List (Str × V)) (v : V), x = .ref e ∧ H1 e = some (ErrO (.ref D) (some d) e) ∧ H1 d = some (.xd fs) ∧ fs.lookup f = some v ∧ Q v H1
theorem pe_errF {X : Cx} {D : Addr} {e : Expr} {te : TE} {pos : Pos} {f : Str} (C : ExcC X.K D) (hno : PySem.W.findIn X.K (.ref D) f = some none) (he : PE X e te) (hb : attributeBase e f X.env (eval e X.env) = eval e X.env := by rfl) : PE X (.Attribute e f pos) (tErrF D f te) := by
  constructor
  intro pins s σ H Q I h
  refine attr_of hb (thn (he.run pins s σ H _ I h) ?_)
  rintro u s1 ⟨x, H1, I1, rx, a, d, fs, v, ex, hE, hd, l, q⟩
  subst ex
  obtain rfl : u = Value.ref a := rx
  obtain ⟨⟨⟨oc, odd, oda, osl⟩, vs, g, z, hf⟩, _⟩ := I1.hok a _ hE
  obtain ⟨z1, z2⟩ := z
  simp only at z1 z2 hf
  subst z1 z2 hf
  have hx : ObjOk X.prog X.w H1 s1.heap d (.xd fs) := I1.hok d _ hd
  obtain ⟨mA, hns, hr⟩ := hx
  obtain ⟨od, ho, hl⟩ := lookIn_ns hns
  obtain ⟨u, hu, ru⟩ := RelO.some_of (v := v) (o := mA f) (by rw [← l]; exact hr f)
  have at_ : PySem.W.InstAt s1.heap a _ D (some od) := ⟨g, rfl, rfl, ho⟩
  refine HandSPX.exc_get I1.kIn at_ C.hg C.hk C.hs (PySem.W.findObj_own C.hd hno rfl ?_) (handed_of ru) ⟨v, H1, I1.tok _, ru, q⟩
  rw [hl, hu]
end ErrD

set_option Elab.async false
set_option linter.all false
set_option maxRecDepth 100000
set_option maxHeartbeats 2000000
/-! The law's catcher, and what the seven odd values are. -/
namespace Y21
open PySem PySem.Spec PyProof.Rows L2 Cau Dr15 Y1 Y2 Y3 Y4 Y5 Y6 Y7 Y8
abbrev sCaught : Stmt := topS 48
theorem cau_here {X : Cx} {q : Str} {g CS : Addr} {cdg : Value} (hme : X.mg "RulerError" = some (.ref CS)) : LamX.GivesTo X cauN "_law_caught" (defScope sCaught) g cdg (defBody sCaught) "action" q (TCau X.K CS) :=
  cau_gives hme (by decide +kernel) rfl
theorem scCau : FnScope cauN ["action"] (defScope sCaught) := ⟨rfl, rfl, rfl, by decide +kernel, rfl, by decide +kernel, by decide +kernel⟩
section
variable {K : PySem.W.Frag} {H H' : Hp} {v : V}
theorem tx_lst {p : Addr} {xs : List V} (h : H p = some (.lst xs)) : Tx K H (.ref p) none := .inr ⟨rfl, "list", .base (.lst h), by decide +kernel⟩
end
end Y21

set_option Elab.async false
set_option linter.all false
set_option maxRecDepth 100000
set_option maxHeartbeats 2000000
/-! What stays where lambdas are made; texts and steps as data. -/
namespace Y22
open PySem PySem.Spec PyProof.Rows L2 Cau Dr15 Y1 Y2 Y3 Y4 Y5 Y6 Y7 Y8 Y10 Y11 Y12 Y13 Y21 TxtSet
/-- but the state, its list and the tables of code objects nothing is changed -/
def KeptN (a w : Addr) (H H' : Hp) : Prop := ∀ b o, H b = some o → (∀ ps, o ≠ .tbl ps) → b ≠ a → b ≠ w → H' b = some o
section
variable {K : PySem.W.Frag} {a w c l p : Addr} {T : Nat} {H H1 H2 H' : Hp} {o : HO} {xs zs : List V} {TT : List (Addr × Str)}
theorem KeptN.refl : KeptN a w H H := fun _ _ e _ _ _ => e
theorem KeptN.trans (x : KeptN a w H H1) (y : KeptN a w H1 H2) : KeptN a w H H2 := fun b o e n h1 h2 => y b o (x b o e n h1 h2) n h1 h2
theorem KeptN.of (k : Kept a w H H') : KeptN a w H H' := fun b o e _ h1 h2 => k b o e h1 h2
theorem KeptN.same (s : Same H H') : KeptN a w H H' := fun b o e _ _ _ => s b o e
theorem KeptN.ext (s : LamX.ExtN H H') : KeptN a w H H' := fun b o e n _ _ => s b o e n
theorem KeptN.put (k : KeptN a w H H') (n : H l = none) : KeptN a w H (upd H' l o) := fun b x e hn h1 h2 => by
  have z : b ≠ l := fun z => by rw [z, n] at e; cases e
  rw [upd_ne z]
  exact k b x e hn h1 h2
theorem KeptN.lst (k : KeptN a w H H') (h : H p = some (.lst xs)) (n : p ≠ a ∧ p ≠ w) : H' p = some (.lst xs) := k _ _ h (fun _ z => by cases z) n.1 n.2
theorem KeptN.seqL (k : KeptN a w H H') (h : SqL K H p xs) (n : p ≠ a ∧ p ≠ w) : SqL K H' p xs := by
  rcases h with (h | ⟨o, h⟩) | h
  · exact .inl (.inl (k _ _ h (fun _ z => by cases z) n.1 n.2))
  · exact .inl (.inr ⟨o, k _ _ h (fun _ z => by cases z) n.1 n.2⟩)
  · exact .inr h
theorem KeptN.none (k : KeptN a w H H') (s : St H a w c T) (h : H' l = none) (n : l ≠ a ∧ l ≠ w) (nt : ∀ ps, H l ≠ some (.tbl ps)) : H l = none := by
  cases e : H l with
  | none => rfl
  | some o =>
    have := k l o e (fun ps z => nt ps (by rw [e, z])) n.1 n.2
    rw [h] at this
    cases this
theorem KeptN.tk (k : KeptN a w H H') (s : St H a w c T) : TK K H H' := fun q xs h => by
  obtain ⟨_, ws, cs, r, t, h1, h2, _⟩ := s
  rcases h with (h | ⟨u, h⟩) | h
  · exact .inl (.inl (k _ _ h (fun _ z => by cases z) (fun z => by rw [z, h1] at h; cases h) (fun z => by rw [z, h2] at h; cases h)))
  · exact .inl (.inr ⟨u, k _ _ h (fun _ z => by cases z) (fun z => by rw [z, h1] at h; cases h) (fun z => by rw [z, h2] at h; cases h)⟩)
  · exact .inr h
theorem St.ext (h : St H a w c T) (e : LamX.ExtN H H') : St H' a w c T := by
  obtain ⟨h0, ws, cs, r, t, h1, h2, h3, h4⟩ := h
  exact ⟨h0, ws, cs, r, t, e _ _ h1 (fun _ z => by cases z), e _ _ h2 (fun _ z => by cases z), e _ _ h3 (fun _ z => by cases z), h4⟩
theorem tk_ext (e : LamX.ExtN H H') : TK K H H' := fun q xs h => by
  rcases h with (h | ⟨u, h⟩) | h
  · exact .inl (.inl (e _ _ h (fun _ z => by cases z)))
  · exact .inl (.inr ⟨u, e _ _ h (fun _ z => by cases z)⟩)
  · exact .inr h
theorem tabs_kept (t : LamX.Tabs TT H) (s : St H a w c T) (k : Kept a w H H') : LamX.Tabs TT H' := fun p hp => by
  obtain ⟨_, ws, cs, r, t0, h1, h2, _⟩ := s
  obtain ⟨ps, e1, e2, e3⟩ := t p hp
  refine ⟨ps, k _ _ e1 (fun z => by rw [z, h1] at e1; cases e1) (fun z => by rw [z, h2] at e1; cases e1), e2, fun pos cv hc => ?_⟩
  obtain ⟨d, f1, f2⟩ := e3 pos cv hc
  refine ⟨d, f1, k _ _ f2 (fun z => ?_) (fun z => ?_)⟩
  · rw [z, h1] at f2
    cases f2
  · rw [z, h2] at f2
    cases f2
theorem tabs_put (t : LamX.Tabs TT H) (e : H l = some (.lst zs)) : LamX.Tabs TT (upd H l o) := fun p hp => by
  obtain ⟨ps, e1, e2, e3⟩ := t p hp
  refine ⟨ps, (upd_ne fun z => by rw [z, e] at e1; cases e1).trans e1, e2, fun pos cv hc => ?_⟩
  obtain ⟨d, f1, f2⟩ := e3 pos cv hc
  refine ⟨d, f1, (upd_ne fun z => ?_).trans f2⟩
  rw [z, e] at f2
  cases f2
theorem tabs_same (t : LamX.Tabs TT H) (s : Same H H') : LamX.Tabs TT H' := t.ext s
end
/-! ### texts of a list from a place on and up to it -/
theorem cut_take (xs : List V) (n : Nat) (h : n ≤ xs.length) : cutV xs none (some (n : Int)) = xs.take n := by
  unfold cutV
  rw [HT.sIx_none, HT.sIx_nat, List.drop_zero, Nat.min_eq_left h, Nat.sub_zero]
theorem cut_drop (xs : List V) (n : Nat) (h : n ≤ xs.length) : cutV xs (some (n : Int)) none = xs.drop n := by
  unfold cutV
  rw [HT.sIx_none, HT.sIx_nat, Nat.min_eq_left h, List.take_of_length_le]
  rw [List.length_drop]
  omega
/-! ### steps as data -/
theorem deed_len {xs : List V} (h : deedL xs = true) : 3 ≤ xs.length ∧ xs.length ≤ 7 := by
  obtain ⟨w0, r, k, rfl, hf, _, _⟩ := word_of h
  obtain ⟨k2, k5⟩ := formOf_small hf
  rw [deed_is hf, Bool.and_eq_true] at h
  have h2 := h.2
  show 3 ≤ r.length + 1 ∧ r.length + 1 ≤ 7
  split at h2
  · rw [Bool.and_eq_true, decide_eq_true_eq] at h2
    omega
  · rw [decide_eq_true_eq] at h2
    omega
/-- _law_caught(lambda: body), its table among others -/
theorem pe_cau {X : Cx} {T : List (Addr × Str)} {fC CR c Pt : Addr} {k : Nat} {odC anC : Option Addr} {oslC : Array (Option Value)} {kVC docC pmC ctC ocC cdvC dVC : Value} {params : Arguments} {body : Expr} {scope : Scope} {p lpos pos : Pos} {t : XK → TE}
    (lkC : X.K.lookup fC = some ⟨ocC, odC, .func (PySem.W.fnOf "_law_caught" "_law_caught" (defArgs sCaught) (defBody sCaught) (defScope sCaught) dVC kVC docC pmC anC cdvC ctC), oslC⟩) (hcdC : PySem.W.codeIn X.K cdvC "_law_caught" = true) (kC : PySem.W.keepIn X.K (.ref fC) = true)
    (bC : Binds X.K (PySem.W.fnOf "_law_caught" "_law_caught" (defArgs sCaught) (defBody sCaught) (defScope sCaught) dVC kVC docC pmC anC cdvC ctC) ["action"] []) (gC : X.mg "_law_caught" = some (.ref fC)) (gRE : X.mg "RulerError" = some (.ref CR))
    (TB : LamX.TabB X.base X.mg c Pt) (hcode : X.env.code = .ref c) (hmT : (Pt, X.env.qual ++ "<lambda>") ∈ T) (huT : ∀ p ∈ T, p.1 = Pt → p.2 = X.env.qual ++ "<lambda>") (hr : Room (k + 2) X.A) (hg : Gl X "_law_caught") (L : LamX.LamS X.env.scope scope) (hdef : defaultsOf params X.env = ([], []))
    (hbind : ∀ (q : Str) (cl : List (Str × Addr)) (pm cv ctv : Value), bindArgs (PySem.W.kla_fn "<lambda>" q params body scope cl pm cv ctv) ⟨[], []⟩ = pure [])
    (hbody : ∀ (A : Around) (outer : List Env) (s : Shared) (H : Hp) (E : XK) (f c' : Addr), Room k (A.deeper (LamX.lamEnv X scope s.heap.objs.size f c')) → PE (LamX.lamCx X A outer s H E scope f c') body (t E)) :
    PE X (.Call (.Name "_law_caught" p) [.Lambda params body scope lpos] [] pos) (LamX.tLam T (TCau X.K CR) t) :=
  LamX.pe_lamcall hg gC kC lkC hcdC bC scCau rfl (.inl rfl) (cau_here gRE) TB hcode hmT huT hr L hdef hbind hbody
theorem ps_weak {X : Cx} {s : Stmt} {t t' : TS} (h : PS X s t) (k : ∀ D σ H, t' D σ H → t D σ H) : PS X s t' := ⟨fun pins st σ H D I q => h.run pins st σ H D I (k D σ H q)⟩
theorem passN {X : Cx} : Passes (L2.CX X.prog X.w) X E0 := passes_call (W := fun _ _ _ _ => False) takes0 (fun _ _ _ _ h => h)
end Y22

set_option Elab.async false
set_option linter.all false
set_option maxRecDepth 100000
set_option maxHeartbeats 4000000
namespace Y24
open PySem PySem.Spec PyProof.Rows L2 Cau Dr15 Y1 Y2 Y3 Y4 Y5 Y6 Y7 Y8 Y10 Y11 Y12 Y13 Y21 Y22 TxtSet
/-! ### True and False by identity -/
def rIsB (neg : Bool) : V → V → Hp → VK → Prop := fun x y H Q => ∃ a b : Bool, x = .bl a ∧ y = .bl b ∧ Q (.bl (if neg then !decide (a = b) else decide (a = b))) H
theorem op_isB {X : Cx} : OpR X (compareOp .Is) (rIsB false) := by
  intro pins s σ H x y v u Q I rx ry h
  obtain ⟨a, b, rfl, rfl, q⟩ := h
  cases (show v = Value.bool a from rx)
  cases (show u = Value.bool b from ry)
  exact wpAny_is_plain rfl (fin_bl I q (by cases a <;> cases b <;> rfl))
theorem op_isnB {X : Cx} : OpR X (compareOp .IsNot) (rIsB true) := by
  intro pins s σ H x y v u Q I rx ry h
  obtain ⟨a, b, rfl, rfl, q⟩ := h
  cases (show v = Value.bool a from rx)
  cases (show u = Value.bool b from ry)
  exact wpAny_isNot_plain rfl (fin_bl I q (by cases a <;> cases b <;> rfl))
/-! ### odd values stay -/
section
variable {K : PySem.W.Frag} {H H' : Hp} {v : V}
theorem seqL_ext {p : Addr} {xs : List V} (h : SqL K H p xs) (e : LamX.ExtN H H') : SqL K H' p xs := by
  rcases h with (h | ⟨o, h⟩) | h
  · exact .inl (.inl (e _ _ h (fun _ z => by cases z)))
  · exact .inl (.inr ⟨o, e _ _ h (fun _ z => by cases z)⟩)
  · exact .inr h
end
end Y24

set_option Elab.async false
set_option linter.all false
set_option maxRecDepth 100000
set_option maxHeartbeats 2000000
/-! Two sorted lists of texts without doubles and with the same members are one. -/
namespace Y18
open PySem PySem.Spec PyProof.Rows L2 Cau
theorem cps_inj {x y : Str} (h : x.cps.toList = y.cps.toList) : x = y := by
  cases x with
  | mk a =>
    cases y with
    | mk b => exact congrArg Str.mk (Array.toList_inj.mp h)
/-- not behind -/
def Upto (x y : Str) : Prop := ¬ y.cps.toList < x.cps.toList
theorem upto_trans {x y z : Str} (a : Upto x y) (b : Upto y z) : Upto x z := by
  have a' : x.cps.toList ≤ y.cps.toList := a
  have b' : y.cps.toList ≤ z.cps.toList := b
  exact (List.le_trans a' b' : x.cps.toList ≤ z.cps.toList)
theorem upto_same {x y : Str} (a : Upto x y) (b : Upto y x) : x = y := by
  have a' : x.cps.toList ≤ y.cps.toList := a
  have b' : y.cps.toList ≤ x.cps.toList := b
  exact cps_inj (List.le_antisymm a' b')
theorem upto_self (x : Str) : Upto x x := List.lt_irrefl _
theorem rising_all : ∀ (r : List Str) (p : Str), risingS p r = true → (∀ x ∈ r, Upto p x) ∧ sortedS r = true
  | [], _, _ => ⟨fun x h => absurd h List.not_mem_nil, rfl⟩
  | a :: r, p, h => by
    unfold risingS at h
    rw [Bool.and_eq_true] at h
    have pa : Upto p a := by
      have := h.1
      rw [ltCps_eq] at this
      simpa [Upto] using this
    obtain ⟨h1, _⟩ := rising_all r a h.2
    refine ⟨fun x hx => ?_, h.2⟩
    rcases List.mem_cons.mp hx with rfl | hx
    · exact pa
    · exact upto_trans pa (h1 x hx)
theorem sorted_one : ∀ (xs ys : List Str), sortedS xs = true → sortedS ys = true → xs.Nodup → ys.Nodup → (∀ t, t ∈ xs ↔ t ∈ ys) → xs = ys
  | [], [], _, _, _, _, _ => rfl
  | [], y :: t, _, _, _, _, h => absurd ((h y).mpr List.mem_cons_self) List.not_mem_nil
  | x :: r, [], _, _, _, _, h => absurd ((h x).mp List.mem_cons_self) List.not_mem_nil
  | x :: r, y :: t, h1, h2, n1, n2, h => by
    obtain ⟨a1, s1⟩ := rising_all r x h1
    obtain ⟨a2, s2⟩ := rising_all t y h2
    have xy : Upto x y := by
      rcases List.mem_cons.mp ((h y).mpr List.mem_cons_self) with rfl | hy
      · exact upto_self _
      · exact a1 y hy
    have yx : Upto y x := by
      rcases List.mem_cons.mp ((h x).mp List.mem_cons_self) with rfl | hx
      · exact upto_self _
      · exact a2 x hx
    have e := upto_same xy yx
    subst e
    rw [List.nodup_cons] at n1 n2
    have rest : r = t := sorted_one r t s1 s2 n1.2 n2.2 fun z => by
      constructor
      · intro hz
        rcases List.mem_cons.mp ((h z).mp (List.mem_cons_of_mem _ hz)) with rfl | q
        · exact absurd hz n1.1
        · exact q
      · intro hz
        rcases List.mem_cons.mp ((h z).mpr (List.mem_cons_of_mem _ hz)) with rfl | q
        · exact absurd hz n2.1
        · exact q
    rw [rest]
end Y18

set_option Elab.async false
set_option linter.all false
set_option maxRecDepth 100000
set_option maxHeartbeats 4000000
namespace Y25
open PySem PySem.Spec PyProof.Rows L2 Cau Dr15 Y1 Y2 Y3 Y4 Y5 Y6 Y7 Y8 Y10 Y11 Y12 Y13 Y18 Y21 Y22 Y24 TxtSet
/-! ### the tools' names, by the law's own table -/
def toolD : List (Key × V) := toolsL.map fun p => (.inr p.1, .str p.2)
theorem tool_new : mergeK [] toolD = toolD := by with_unfolding_all rfl
theorem tool_get (z : Str) : (valV toolD (.inr z)).getD (.str z) = .str (toolW z) := by
  have gen : ∀ l : List (Str × Str), valV (l.map fun p => ((.inr p.1 : Key), V.str p.2)) (.inr z) = (l.lookup z).map V.str := by
    intro l
    induction l with
    | nil => rfl
    | cons p r ih =>
      obtain ⟨a, k⟩ := p
      unfold valV at ih ⊢
      rw [List.map_cons, List.find?_cons, List.lookup_cons]
      by_cases h : z = a
      · subst h
        simp
      · have e1 : (z == a) = false := beq_eq_false_iff_ne.mpr h
        have e2 : decide ((Sum.inr a : Key) = Sum.inr z) = false := decide_eq_false fun q => h (Sum.inr.inj q).symm
        rw [e1]
        simp only [e2]
        exact ih
  have e : valV toolD (.inr z) = (toolsL.lookup z).map V.str := gen toolsL
  rw [e]
  unfold toolW
  cases toolsL.lookup z <;> rfl
theorem forms_keys : formsD.map (·.1) = (formsL.map (·.1)).map Sum.inr := by
  unfold formsD
  rw [List.map_map, List.map_map]
  rfl
theorem forms_ok : ∀ z ∈ formsL.map (·.1), PyData.strOk z = true ∧ (formOf z).isSome = true := by decide +kernel
theorem sorted_filter (f : Str → Bool) : ∀ xs : List Str, sortedS xs = true → sortedS (xs.filter f) = true
  | [], _ => rfl
  | x :: r, h => by
    obtain ⟨a, s⟩ := rising_all r x h
    have ih := sorted_filter f r s
    rw [List.filter_cons]
    split
    · have all : ∀ y ∈ r.filter f, Upto x y := fun y hy => a y (List.mem_filter.mp hy).1
      generalize r.filter f = t at ih all
      show risingS x t = true
      cases t with
      | nil => rfl
      | cons y t =>
        unfold risingS
        rw [Bool.and_eq_true]
        refine ⟨?_, ih⟩
        have := all y List.mem_cons_self
        rw [ltCps_eq]
        simpa [Upto] using this
    · exact ih
theorem tool_ok {xs : List V} (h : deedL xs = true) : PyData.strOk (toolW (wordL xs)) = true := by
  obtain ⟨w0, r, k, rfl, hf, _, _⟩ := word_of h
  have all : ∀ p ∈ formsL, PyData.strOk (toolW p.1) = true := by decide +kernel
  exact all (w0, k) (PySem.mem_of_lookup hf)
/-! ### tuples of texts as data -/
theorem canLay_tup {xs : List Str} (h : ∀ x ∈ xs, PyData.strOk x = true) : (PyData.tuple (xs.map PyData.str)).canLay0 = true := by
  have := canLay_strs xs h
  simpa [PyData.canLay0] using this
theorem shaped_tup {xs : List Str} (h : ∀ x ∈ xs, PyData.strOk x = true) : SeqAt.shaped (.tuple (xs.map PyData.str)) = true := by
  unfold SeqAt.shaped
  rw [canLay_tup h, PyData.depth, depth_strs]
  rfl
theorem dp_tups {K : PySem.W.Frag} {H : Hp} {q : Addr} {xs : List Str} (h : H q = some (.tup (xs.map V.str))) : Dp K H (.ref q) (.tuple (xs.map PyData.str)) := .tup (.inl (.inl h)) (dpAll_strs xs)
/-! ### a changed drawing stays while the state is drawn from -/
section
variable {K : PySem.W.Frag} {a w c : Addr} {T T' : Nat} {H H' : Hp} {v : V}
theorem NotTup.kept (h : NotTup H v) (s : St H a w c T) (s' : St H' a w c T') (k : Kept a w H H') : NotTup H' v := by
  cases h with
  | atom h => exact .atom h
  | @lst p xs h =>
    by_cases e1 : p = a
    · obtain ⟨_, _, _, _, _, h1, _⟩ := s
      rw [e1, h1] at h
      cases h
    · by_cases e2 : p = w
      · obtain ⟨_, _, _, _, _, _, h2, _⟩ := s'
        rw [e2]
        exact .lst h2
      · exact .lst (k _ _ h e1 e2)
  | @dK p kvs h =>
    by_cases e1 : p = a
    · obtain ⟨_, _, _, _, _, h1, _⟩ := s'
      rw [e1]
      exact .dK h1
    · by_cases e2 : p = w
      · obtain ⟨_, _, _, _, _, _, h2, _⟩ := s
        rw [e2, h2] at h
        cases h
      · exact .dK (k _ _ h e1 e2)
theorem SdOk.kept {d : Sd} (h : SdOk K H v d) (s : St H a w c T) (s' : St H' a w c T') (k : Kept a w H H') : SdOk K H' v d := by
  have t := TK.kept (K := K) s k
  cases d with
  | bad =>
    rcases h with h | ⟨p, xs, e, h1, h2⟩
    · exact .inl (NotTup.kept h s s' k)
    · exact .inr ⟨p, xs, e, t _ _ h1, h2⟩
  | pair n d =>
    obtain ⟨p, z, e, h1, h2, h3⟩ := h
    refine ⟨p, z, e, t _ _ h1, h2, ?_⟩
    rcases h3 with ⟨q, xs, e1, g1, g2⟩ | ⟨g1, g2⟩
    · exact .inl ⟨q, xs, e1, t _ _ g1, g2⟩
    · exact .inr ⟨NotTup.kept g1 s s' k, g2⟩
theorem sv_kept {l : Addr} {ds : List Sd} (h : Sv K H (.ref l) (some ds)) (n : l ≠ a ∧ l ≠ w) (s : St H a w c T) (s' : St H' a w c T') (k : Kept a w H H') : Sv K H' (.ref l) (some ds) := by
  rcases h with ⟨p, ys, ds', e, h, l1, l2, h3, e2⟩ | ⟨_, e⟩
  · cases e
    refine .inl ⟨l, ys, ds', rfl, ?_, l1, l2, fun i y d a b => SdOk.kept (h3 i y d a b) s s' k, e2⟩
    rcases h with h | h
    · exact .inl (seqL_kept h k n.1 n.2)
    · exact .inr (TK.kept s k _ _ h)
  · cases e
end
section
variable {P : Program} {w : World} {K : PySem.W.Frag} {mg : Str → Option Value} {base : Heap}
end
end Y25

set_option Elab.async false
set_option linter.all false
set_option maxRecDepth 100000
set_option maxHeartbeats 2000000
/-! Tables that the top has written. -/
namespace Y26
open PySem PySem.Spec PyProof.Rows L2 Cau Dr15 Y1 Y2 Y3 Y4 Y7
def txV : Value → Option Str
  | .str x _ => some x
  | _ => none
def nuV : Value → Option Int
  | .int i _ => some i
  | _ => none
theorem txV_some {v : Value} {x : Str} (h : txV v = some x) : ∃ t, v = .str x t := by
  cases v <;> try (cases h)
  exact ⟨_, rfl⟩
theorem nuV_some {v : Value} {x : Int} (h : nuV v = some x) : ∃ t, v = .int x t := by
  cases v <;> try (cases h)
  exact ⟨_, rfl⟩
theorem str_is {x z : Str} {t : Tok} : (Value.str x t).isStr z = (x == z) := by
  rw [PySem.W.isStr_of]
  rfl
/-- a look-up in entries whose keys are texts -/
theorem look_tab {β : Type} (g : Value → Option β) (z : Str) : ∀ (l : List DictEntry) (ps : List (Str × β)), (l.map fun e => (txV e.key, g e.val)) = (ps.map fun p => (some p.1, some p.2)) →
    (ps.lookup z = none → l.find? (·.key.isStr z) = none ∧ l.any (·.refKey) = false) ∧ ∀ b, ps.lookup z = some b → ∃ e, l.find? (·.key.isStr z) = some e ∧ g e.val = some b
  | [], [], _ => ⟨fun _ => ⟨rfl, rfl⟩, fun b h => by cases h⟩
  | [], p :: ps, h => by cases h
  | e :: l, [], h => by cases h
  | e :: l, p :: ps, h => by
    rw [List.map_cons, List.map_cons, List.cons.injEq, Prod.mk.injEq] at h
    obtain ⟨⟨hk, hv⟩, hr⟩ := h
    obtain ⟨t, et⟩ := txV_some hk
    have ih := look_tab g z l ps hr
    obtain ⟨y, b⟩ := p
    have ei : e.key.isStr z = (y == z) := by rw [et]; exact str_is
    rw [List.find?_cons, ei, List.lookup_cons]
    by_cases hz : y = z
    · subst hz
      have e1 : (y == y) = true := beq_self_eq_true _
      rw [e1]
      exact ⟨(fun h => by cases h), fun b' h => ⟨e, rfl, (by cases h; exact hv)⟩⟩
    · have e1 : (y == z) = false := beq_eq_false_iff_ne.mpr hz
      have e2 : (z == y) = false := beq_eq_false_iff_ne.mpr (Ne.symm hz)
      rw [e1, e2]
      refine ⟨fun h => ⟨(ih.1 h).1, ?_⟩, ih.2⟩
      rw [List.any_cons, (ih.1 h).2, Bool.or_false]
      unfold DictEntry.refKey
      rw [et]
section
variable {K : PySem.W.Frag} {w : World} {d : Addr} {es : Array DictEntry} {n : Nat}
theorem forms_of (hl : K.lookup d = some ⟨.type "dict", none, .dict es n, #[]⟩) (lit : PySem.W.KeysLit w.params es.toList) (low : (d == sysModules) = false) (tab : (es.toList.map fun e => (txV e.key, nuV e.val)) = (formsL.map fun p => (some p.1, some (p.2 : Int)))) : FormsK K w d := by
  have tab' : (es.toList.map fun e => (txV e.key, nuV e.val)) = ((formsL.map fun p => (p.1, (p.2 : Int))).map fun p => (some p.1, some p.2)) := by
    rw [tab, List.map_map]
    rfl
  have lk : ∀ z, (formsL.map fun p => (p.1, (p.2 : Int))).lookup z = (formOf z).map fun k => (k : Int) := by
    intro z
    unfold formOf
    generalize formsL = l
    induction l with
    | nil => rfl
    | cons p r ih =>
      rw [List.map_cons, List.lookup_cons, List.lookup_cons]
      cases z == p.1 <;> simp [ih]
  refine ⟨⟨es, n, hl, lit, low⟩, fun z h => ?_, fun z k h => ?_⟩
  · have q := (look_tab nuV z _ _ tab').1 (by rw [lk, h]; rfl)
    unfold PySem.W.nsIn
    simp only [hl, q.1, q.2]
    rfl
  · obtain ⟨e, q1, q2⟩ := (look_tab nuV z _ _ tab').2 (k : Int) (by rw [lk, h]; rfl)
    obtain ⟨t, et⟩ := nuV_some q2
    refine ⟨t, ?_⟩
    unfold PySem.W.nsIn
    simp only [hl, q1, et]
theorem tools_of (hl : K.lookup d = some ⟨.type "dict", none, .dict es n, #[]⟩) (lit : PySem.W.KeysLit w.params es.toList) (low : (d == sysModules) = false) (tab : (es.toList.map fun e => (txV e.key, txV e.val)) = (toolsL.map fun p => (some p.1, some p.2))) : ToolsK K w d := by
  refine ⟨⟨es, n, hl, lit, low⟩, fun z h => ?_, fun z k h => ?_⟩
  · have q := (look_tab txV z _ _ tab).1 h
    unfold PySem.W.nsIn
    simp only [hl, q.1, q.2]
    rfl
  · obtain ⟨e, q1, q2⟩ := (look_tab txV z _ _ tab).2 k h
    obtain ⟨t, et⟩ := txV_some q2
    refine ⟨t, ?_⟩
    unfold PySem.W.nsIn
    simp only [hl, q1, et]
theorem words_of {od : Option Addr} {us : Array Value} {m : Nat} {sl : Array (Option Value)} {ws : List Str} (hl : K.lookup d = some ⟨.type "tuple", od, .seq us m, sl⟩) (hv : Vals (ws.map V.str) us.toList) (hs : ws.length ≤ 1000) : WordsK K d ws := fun H => by
  refine .inr ⟨_, us, m, hl, rfl, rfl, ?_, hv⟩
  have e := hv.length
  rw [List.length_map] at e
  have e2 : us.toList.length = us.size := by simp
  have := small1000 hs
  omega
theorem vals_rev : ∀ {xs : List V} {us : List Value}, Vals xs us → Vals xs.reverse us.reverse
  | _, _, .nil => .nil
  | _, _, .cons r t => by
    rw [List.reverse_cons, List.reverse_cons]
    exact Vals.append (vals_rev t) (.cons r .nil)
end
/-- the statements within a class -/
def clsBody : Stmt → List Stmt
  | .ClassDef _ _ _ b _ _ _ _ _ _ _ => b
  | _ => []
end Y26

set_option Elab.async false
set_option linter.all false
set_option maxRecDepth 100000
set_option maxHeartbeats 2000000
/-! Chests: what one is, its word, two joined. -/
namespace Y30
open PySem PySem.Spec PyProof.Rows L2 Cau Dr15 Y1 Y2 Y3 Y4 Y5 Y6 Y7 Y18 Y25 TxtSet
abbrev sIsChest : Stmt := topS 29
abbrev sCheckChest : Stmt := topS 30
abbrev sCheckWord : Stmt := topS 32
abbrev sSetOf : Stmt := topS 33
abbrev sWordOf : Stmt := topS 34
abbrev sJoint : Stmt := topS 35
abbrev sNoMore : Stmt := topS 36
def toolsN : List Str := ["compass", "corner", "disc", "dividers", "gauge", "halver", "rims", "square", "strip"]
def allN : List Str := ["compass", "corner", "disc", "rims"]
def midN : List Str := ["dividers", "gauge", "halver", "strip"]
def wordsN : List Str := ["fractions", "middle", "all"]
/-- the tools that are among these -/
def ofT (zs : List Str) : List Str := toolsN.filter fun t => decide (t ∈ zs)
def chestS (zs : List Str) : Bool := decide (zs = ofT zs)
def toolV (v : V) : Bool := match txtOf v with
  | some z => decide (z ∈ toolsN)
  | none => false
def chestO : Option (List V) → Bool
  | some xs => xs.all toolV && chestS (xs.filterMap txtOf)
  | none => false
def rankC (c : List Str) : Nat := if c.any (fun t => decide (t ∈ allN)) = true then 2 else if c.any (fun t => decide (t ∈ midN)) = true then 1 else 0
def wordR : Nat → Str
  | 0 => "fractions"
  | 1 => "middle"
  | _ => "all"
def wordC (c : List Str) : Str := wordR (rankC c)
theorem tools_sorted : sortedS toolsN = true := by decide +kernel
theorem tools_nodup : toolsN.Nodup := by decide +kernel
theorem tools_ok : ∀ z ∈ toolsN, PyData.strOk z = true ∧ z.length ≤ 4000 := by decide +kernel
theorem ofT_mem {t : Str} {zs : List Str} : t ∈ ofT zs ↔ t ∈ toolsN ∧ t ∈ zs := by
  unfold ofT
  rw [List.mem_filter, decide_eq_true_eq]
theorem ofT_sorted (zs : List Str) : sortedS (ofT zs) = true := sorted_filter _ _ tools_sorted
theorem ofT_nodup (zs : List Str) : (ofT zs).Nodup := List.Pairwise.filter _ tools_nodup
theorem ofT_len (zs : List Str) : (ofT zs).length ≤ 9 := List.length_filter_le _ _
theorem ofT_congr {xs ys : List Str} (h : ∀ t, t ∈ xs ↔ t ∈ ys) : ofT xs = ofT ys := by
  unfold ofT
  congr 1
  funext t
  rw [decide_eq_decide]
  exact h t
theorem ofT_ofT (zs : List Str) : chestS (ofT zs) = true := by
  unfold chestS
  rw [decide_eq_true_eq]
  unfold ofT
  apply List.filter_congr
  intro t ht
  rw [decide_eq_decide, List.mem_filter, decide_eq_true_eq]
  exact ⟨fun h => ⟨ht, h⟩, fun h => h.2⟩
theorem chest_eq {c : List Str} (h : chestS c = true) : c = ofT c := of_decide_eq_true h
theorem chest_sub {c : List Str} (h : chestS c = true) : ∀ z ∈ c, z ∈ toolsN := fun z hz => by
  rw [chest_eq h] at hz
  exact (ofT_mem.mp hz).1
theorem chest_len {c : List Str} (h : chestS c = true) : c.length ≤ 9 := by
  rw [chest_eq h]
  exact ofT_len c
theorem chest_ok {c : List Str} (h : chestS c = true) : ∀ z ∈ c, PyData.strOk z = true := fun z hz => (tools_ok z (chest_sub h z hz)).1
theorem eqv_strs : ∀ xs ys : List Str, PyData.eqv (.list (xs.map PyData.str)) (.list (ys.map PyData.str)) = decide (xs = ys) := by
  have all : ∀ xs ys : List Str, PyData.eqvAll (xs.map PyData.str) (ys.map PyData.str) = decide (xs = ys) := by
    intro xs
    induction xs with
    | nil => intro ys; cases ys <;> simp [PyData.eqvAll]
    | cons x xs ih =>
      intro ys
      cases ys with
      | nil => simp [PyData.eqvAll]
      | cons y ys =>
        simp only [List.map_cons, PyData.eqvAll, PyData.eqv, ih]
        by_cases h1 : x = y <;> by_cases h2 : xs = ys <;> simp [h1, h2]
  intro xs ys
  simp only [PyData.eqv]
  exact all xs ys
theorem strs_map (zs : List Str) : (zs.map V.str).filterMap txtOf = zs := by
  induction zs with
  | nil => rfl
  | cons z r ih =>
    rw [List.map_cons, List.filterMap_cons]
    show z :: _ = _
    rw [ih]
theorem all_tools : ∀ xs : List V, xs.all toolV = true → ∃ zs : List Str, xs = zs.map V.str ∧ ∀ z ∈ zs, z ∈ toolsN
  | [], _ => ⟨[], rfl, fun z h => absurd h List.not_mem_nil⟩
  | x :: r, h => by
    rw [List.all_cons, Bool.and_eq_true] at h
    obtain ⟨zs, rfl, hz⟩ := all_tools r h.2
    cases x with
    | str u =>
      have hu : u ∈ toolsN := of_decide_eq_true h.1
      refine ⟨u :: zs, rfl, fun z hm => ?_⟩
      rcases List.mem_cons.mp hm with rfl | hm
      · exact hu
      · exact hz z hm
    | _ => exact absurd h.1 (by simp [toolV, txtOf])
/-- a value as a chest -/
def Cd (K : PySem.W.Frag) (H : Hp) (x : V) (o : Option (List V)) : Prop := (∃ p xs, x = .ref p ∧ SqT K H p xs ∧ xs.all AtomV = true ∧ xs.length ≤ 60 ∧ o = some xs) ∨ (NotTup H x ∧ o = none)
theorem Cd.same {K : PySem.W.Frag} {H H' : Hp} {x : V} {o : Option (List V)} (h : Cd K H x o) (s : Same H H') : Cd K H' x o := by
  rcases h with ⟨p, xs, e, h, r⟩ | ⟨h, r⟩
  · exact .inl ⟨p, xs, e, sqT_same h s, r⟩
  · exact .inr ⟨h.same s, r⟩
/-- a chest -/
def ChT (K : PySem.W.Frag) (H : Hp) (p : Addr) (c : List Str) : Prop := SqT K H p (c.map V.str) ∧ chestS c = true
theorem ChT.same {K : PySem.W.Frag} {H H' : Hp} {p : Addr} {c : List Str} (h : ChT K H p c) (s : Same H H') : ChT K H' p c := ⟨sqT_same h.1 s, h.2⟩
theorem atom_tool {z : Str} (h : z ∈ toolsN) : AtomV (.str z) = true := by
  obtain ⟨a, b⟩ := tools_ok z h
  show (decide (z.length ≤ 4000) && PyData.strOk z) = true
  rw [decide_eq_true b, a]
  rfl
theorem ChT.cd {K : PySem.W.Frag} {H : Hp} {p : Addr} {c : List Str} (h : ChT K H p c) : Cd K H (.ref p) (some (c.map V.str)) := by
  refine .inl ⟨p, _, rfl, h.1, ?_, ?_, rfl⟩
  · rw [List.all_map, List.all_eq_true]
    exact fun z hz => atom_tool (chest_sub h.2 z hz)
  · rw [List.length_map]
    have := chest_len h.2
    omega
theorem ChT.is {K : PySem.W.Frag} {H : Hp} {p : Addr} {c : List Str} (h : ChT K H p c) : chestO (some (c.map V.str)) = true := by
  show ((c.map V.str).all toolV && chestS ((c.map V.str).filterMap txtOf)) = true
  rw [strs_map, h.2, Bool.and_true, List.all_map, List.all_eq_true]
  exact fun z hz => decide_eq_true (chest_sub h.2 z hz)
def spIsChest (K : PySem.W.Frag) : Sp := fun vs H Q _ => ∃ (x : V) (o : Option (List V)), vs = [x] ∧ Cd K H x o ∧ ∀ H', Same H H' → Q (.bl (chestO o)) H'
def spCheckChest (K : PySem.W.Frag) (C : Addr) : Sp := fun vs H Q E => ∃ (x : V) (o : Option (List V)), vs = [x] ∧ Cd K H x o ∧ ((chestO o = true ∧ ∀ H', Same H H' → Q .non H') ∨ (chestO o = false ∧ ∀ H', Same H H' → E (.ref C) none H'))
def spCheckWord (K : PySem.W.Frag) (C : Addr) : Sp := fun vs H Q E => ∃ (x : V) (o : Option Str), vs = [x] ∧ Tx K H x o ∧ ((∃ z, o = some z ∧ z ∈ wordsN ∧ ∀ H', Same H H' → Q .non H') ∨ ((∀ z, o = some z → z ∉ wordsN) ∧ ∀ H', Same H H' → E (.ref C) none H'))
def spWordOf (K : PySem.W.Frag) : Sp := fun vs H Q _ => ∃ (p : Addr) (c : List Str), vs = [.ref p] ∧ SqT K H p (c.map V.str) ∧ Q (.str (wordC c)) H
def spSetOf (K : PySem.W.Frag) (C : Addr) : Sp := fun vs H Q E => (∃ p c, vs = [.ref p] ∧ ChT K H p c ∧ ∀ H', Same H H' → Q (.str (wordC c)) H') ∨ (∃ x o, vs = [x] ∧ Cd K H x o ∧ chestO o = false ∧ ∀ H', Same H H' → E (.ref C) none H')
def spTwo (K : PySem.W.Frag) (C : Addr) (R : List Str → List Str → Hp → VK → Prop) : Sp := fun vs H Q E => (∃ p c q e, vs = [.ref p, .ref q] ∧ ChT K H p c ∧ ChT K H q e ∧ ∀ H', Same H H' → R c e H' Q) ∨ (∃ x y o, vs = [x, y] ∧ Cd K H x o ∧ chestO o = false ∧ ∀ H', Same H H' → E (.ref C) none H') ∨
  (∃ p c y o, vs = [.ref p, y] ∧ ChT K H p c ∧ Cd K H y o ∧ chestO o = false ∧ ∀ H', Same H H' → E (.ref C) none H')
def spJoint (K : PySem.W.Frag) (C : Addr) : Sp := spTwo K C fun c e H Q => ∀ H' q, Same H H' → H q = none → H' q = some (.tup ((ofT (c ++ e)).map V.str)) → Q (.ref q) H'
def spNoMore (K : PySem.W.Frag) (C : Addr) : Sp := spTwo K C fun c e H Q => ∀ H', Same H H' → Q (.bl (decide (rankC c ≤ rankC e))) H'
theorem Tx.same' {K : PySem.W.Frag} {H H' : Hp} {v : V} {z : Option Str} (h : Tx K H v z) (s : Same H H') : Tx K H' v z := tx_same h s
section
variable {P : Program} {w : World} {K : PySem.W.Frag} {mg : Str → Option Value} {base : Heap}
theorem scIC : FnScope ["value", "tool"] ["value"] (defScope sIsChest) := ⟨rfl, rfl, rfl, by decide +kernel, rfl, by decide +kernel, by decide +kernel⟩
theorem ok_isChest {f d : Addr} {fd : FuncData} (F : Fun K "is_chest" "is_chest" sIsChest f fd) (Wd : WordsK K d toolsN) (gW : mg "TOOLS" = some (.ref d))
    (mi : mg "isinstance" = none) (mt : mg "tuple" = none) (ms : mg "str" = none) (ma : mg "all" = none) (mli : mg "list" = none) (mso : mg "sorted" = none) (mse : mg "set" = none) : FnOk P w K mg base CX0 1 f fd ["value"] (spIsChest K) := by
  refine F.ok scIC (fun vs H Q E h => ?_) (fun cdv A outer s H vs Q E hr h => ?_)
  · obtain ⟨x, o, rfl, _⟩ := h
    rfl
  · obtain ⟨x, o, rfl, hx, q⟩ := h
    refine ⟨_, pss_cons (ps_if (pt_not (pt_val (pe_callB call_isi (by rfl) mi (by decide +kernel) (pa_cons (pv 0) (pa_cons (pe_bltn (v := .ty "tuple") (by rfl) mt (by decide +kernel) rfl) pa_nil))))) (pss_one (ps_ret pe_bl)) pss_nil)
      (pss_cons (ps_if (pt_not (pt_val (pe_callB (cr_all rfl) (by rfl) ma (by decide +kernel) (pa_cons
          (pe_lc (own := [("tool", 1)]) (g := gName 1) (tt := tYes) rfl scIC.nd (pi_tup (pv 0))
            (blkOk_by (own := [("tool", 1)]) (N := ["value", "tool"]) (sc := defScope sIsChest) (by decide +kernel))
            (fun _ _ _ _ _ => pg_name (i := 1) scIC.nd rfl (.inl rfl)) (fun _ _ _ _ _ => pts_nil)
            (fun _ _ _ _ _ => pe_and (pe_callB (show CallR _ (.builtin "isinstance") (rIsi K) from call_isi) (by rfl) mi (by decide +kernel) (pa_cons (pv 1) (pa_cons (pe_bltn (v := .ty "str") (by rfl) ms (by decide +kernel) rfl) pa_nil)))
              (pe_one (pe_cmpR (show OpR _ (compareOp .In) (rIn K false) from op_in_seq) (pv 1) (pe_glob (v := .ref d) (by rfl) gW rfl) (by rfl))))) pa_nil)))) (pss_one (ps_ret pe_bl)) pss_nil)
      (pss_one (ps_ret (pe_cmpR (op_eqD hr.units) (pe_callTy call_list_of (by rfl) mli (by decide +kernel) (pa_cons (pv 0) pa_nil))
        (pe_callB (TxtSet.cr_sortT rfl) (by rfl) mso (by decide +kernel) (pa_cons (pe_callTy (cr_setT rfl) (by rfl) mse (by decide +kernel) (pa_cons (pv 0) pa_nil)) pa_nil)) (nomark _))))), ?_⟩
    have q' : ∀ b H', chestO o = b → Same H H' → Q (.bl b) H' := fun b H' e sm => by
      subst e
      exact q H' sm
    rcases hx with ⟨p, xs, rfl, hp, hat, hlen, rfl⟩ | ⟨hn, rfl⟩
    · refine ⟨_, rfl, .ref p, .ty "tuple", .type "tuple", .type "tuple", true, rfl, .ty _, sqT_ty hp, kit_ty (by decide +kernel), true, rfl, iteF ?_⟩
      refine ⟨_, rfl, p, rfl, ⟨_, hp⟩, fun D nD => ?_⟩
      refine lc_it (walk_tup (K := K) (a := p) (xs := xs)) (fun i H1 => ∃ bs : List Bool, H1 D = some (.lst (bs.map V.bl)) ∧ bs = (xs.take i).map toolV ∧ Same H H1) ⟨[], upd_same, rfl, same_upd nD⟩ ?_ ?_ ?_
      · rintro i H1 _ ⟨bs, _, _, sm⟩
        exact sqT_same hp sm
      · rintro i x H1 H2 hi ⟨bs, hD, hbs, sm⟩ ⟨rfl, hx⟩
        have hv : AtomV x = true := List.all_eq_true.mp hat x (List.mem_of_getElem? hx)
        have put : ∀ b, toolV x = b → ∃ acc, H2 D = some (.lst acc) ∧ acc.length < sizeLine ∧ ∃ bs' : List Bool, (upd H2 D (.lst (acc ++ [V.bl b]))) D = some (.lst (bs'.map V.bl)) ∧ bs' = (xs.take (i + 1)).map toolV ∧ Same H (upd H2 D (.lst (acc ++ [V.bl b]))) := fun b e => by
          refine ⟨_, hD, ?_, bs ++ [b], by rw [upd_same, List.map_append]; rfl, ?_, same_put sm nD⟩
          · rw [List.length_map, hbs, List.length_map, List.length_take]
            exact small1000 (by omega)
          · rw [List.take_succ, List.map_append, hx, hbs, ← e]
            rfl
        rcases tx_atom (K := K) (H := H2) hv with ⟨z, rfl, hz, _⟩ | ⟨hz, t, ht, hb⟩
        · refine ⟨rfl, _, rfl, .str z, .ty "str", .type "str", .type "str", true, rfl, .ty _, .base (.str z), kit_ty (by decide +kernel), true, rfl, iteT2 rfl ?_⟩
          refine ⟨_, rfl, d, toolsN.map V.str, rfl, .inr (Wd H2), rfl, strs_flat _, ?_⟩
          rw [inV_kn]
          exact put _ rfl
        · refine ⟨rfl, _, rfl, x, .ty "str", .type t, .type "str", false, rfl, .ty _, ht, kit_ty hb, false, rfl, iteF2 rfl (put _ ?_)⟩
          unfold toolV
          rw [hz]
      · rintro H1 ⟨bs, hD, hbs, sm⟩
        rw [List.take_length] at hbs
        refine ⟨D, bs, rfl, .inl (.inl hD), _, rfl, ?_⟩
        have eall : bs.all id = xs.all toolV := by
          rw [hbs, List.all_map]
          rfl
        rw [eall]
        cases e : xs.all toolV with
        | false =>
          refine iteT (q' _ _ ?_ sm)
          show (xs.all toolV && chestS (xs.filterMap txtOf)) = false
          rw [e]
          rfl
        | true =>
          refine iteF ?_
          obtain ⟨zs, rfl, hz⟩ := all_tools xs e
          rw [List.length_map] at hlen
          have hp1 := sqT_same hp sm
          refine ⟨_, rfl, p, _, rfl, .inr hp1, fun L nL => ?_⟩
          have S1 : Same H1 (upd H1 L (.lst (zs.map V.str))) := same_upd nL
          have hL : (upd H1 L (.lst (zs.map V.str))) L = some (.lst (zs.map V.str)) := upd_same
          generalize upd H1 L (.lst (zs.map V.str)) = H2 at S1 hL
          refine ⟨_, rfl, p, zs, rfl, .inr (sqT_same hp1 S1), by omega, fun a S na nd mem => ?_⟩
          refine ⟨a, S, rfl, upd_same, ?_, fun ys l pm srt nl => ?_⟩
          · have := nodup_le _ _ nd fun x hx => (mem x).mp hx
            omega
          have S2 : Same H2 (upd H2 a (SetT w a S)) := same_upd na
          have S3 : Same H2 (upd (upd H2 a (SetT w a S)) l (.lst (ys.map V.str))) := S2.trans (same_upd nl)
          have ey : ys = ofT zs := sorted_one _ _ srt (ofT_sorted _) (pm.nodup_iff.mpr nd) (ofT_nodup _) fun t => by
            rw [pm.mem_iff, mem, ofT_mem]
            exact ⟨fun h => ⟨hz t h, h⟩, fun h => h.2⟩
          refine ⟨_, _, dp_strs (.inl (.inl (S3 _ _ hL))), dp_strs (.inl (.inl upd_same)), shaped_strs fun x hx => (tools_ok x (hz x hx)).1, shaped_strs fun x hx => ?_, ?_⟩
          · rw [ey] at hx
            exact (tools_ok x (ofT_mem.mp hx).1).1
          · rw [eqv_strs]
            refine q' _ _ ?_ (sm.trans (S1.trans S3))
            show ((zs.map V.str).all toolV && chestS ((zs.map V.str).filterMap txtOf)) = _
            rw [e, strs_map, ey]
            rfl
    · obtain ⟨t, ht, hb⟩ := hn.ty (K := K)
      exact ⟨_, rfl, x, .ty "tuple", .type t, .type "tuple", false, rfl, .ty _, ht, kit_ty hb, false, rfl, iteT (q' _ _ rfl same_rfl)⟩
theorem scCC : FnScope ["value"] ["value"] (defScope sCheckChest) := ⟨rfl, rfl, rfl, by decide +kernel, rfl, by decide +kernel, by decide +kernel⟩
theorem ok_checkChest {f fS C : Addr} {fd fdS : FuncData} (F : Fun K "check_chest" "check_chest" sCheckChest f fd) (FS : Fun K "is_chest" "is_chest" sIsChest fS fdS) (GS : FnOk P w K mg base CX0 1 fS fdS ["value"] (spIsChest K)) (bS : Binds K fdS ["value"] []) (gS : mg "is_chest" = some (.ref fS))
    (T : TxtE K mg "BadChest" C) : FnOk P w K mg base (L2.CX P w) 2 f fd ["value"] (spCheckChest K C) := by
  refine F.okX scCC (fun vs H Q E h => ?_) (fun cdv A outer s H vs Q E hr h => ?_)
  · obtain ⟨x, o, rfl, _⟩ := h
    rfl
  · obtain ⟨x, o, rfl, hx, q⟩ := h
    refine ⟨_, pss_one (ps_if (pt_not (pt_val (pe_call GS hr (by rfl) gS FS.kp bS .nil pass0 (pa_cons (pv 0) pa_nil)))) (pss_one (ps_raise rfl (takes_of rfl rfl rfl rfl) (pmk_own PySem.F.excBase_ValueError T.x T.g T.k (raises_own T.b T.t) rfl))) pss_nil), ?_⟩
    refine ⟨_, rfl, x, o, rfl, hx, fun H1 sm => ⟨_, rfl, ?_⟩⟩
    rcases q with ⟨e, q⟩ | ⟨e, q⟩
    · rw [e]
      exact iteF (q H1 sm)
    · rw [e]
      exact iteT (q H1 sm)
theorem scCW : FnScope ["value"] ["value"] (defScope sCheckWord) := ⟨rfl, rfl, rfl, by decide +kernel, rfl, by decide +kernel, by decide +kernel⟩
theorem ok_checkWord {f d C : Addr} {fd : FuncData} (F : Fun K "check_word" "check_word" sCheckWord f fd) (Wd : WordsK K d wordsN) (gW : mg "WORDS" = some (.ref d)) (mi : mg "isinstance" = none) (ms : mg "str" = none)
    (T : TxtE K mg "BadWord" C) : FnOk P w K mg base (L2.CX P w) 1 f fd ["value"] (spCheckWord K C) := by
  refine F.okX scCW (fun vs H Q E h => ?_) (fun cdv A outer s H vs Q E hr h => ?_)
  · obtain ⟨x, o, rfl, _⟩ := h
    rfl
  · obtain ⟨x, o, rfl, hx, q⟩ := h
    refine ⟨_, pss_one (ps_if (PW.pt (pw_or (pt_not (pt_val (pe_callB call_isi (by rfl) mi (by decide +kernel) (pa_cons (pv 0) (pa_cons (pe_bltn (v := .ty "str") (by rfl) ms (by decide +kernel) rfl) pa_nil)))))
        (pw_or1 (pt_cmpR op_notIn_seq (pv 0) (pe_glob (v := .ref d) (by rfl) gW rfl) (by rfl))))) (pss_one (ps_raise rfl (takes_of rfl rfl rfl rfl) (pmk_own PySem.F.excBase_ValueError T.x T.g T.k (raises_own T.b T.t) rfl))) pss_nil), ?_⟩
    rcases hx with ⟨z, rfl, rfl, _⟩ | ⟨rfl, t, ht, hb⟩
    · refine ⟨_, rfl, .str z, .ty "str", .type "str", .type "str", true, rfl, .ty _, .base (.str z), kit_ty (by decide +kernel), true, rfl, iteF ?_⟩
      refine ⟨_, rfl, d, wordsN.map V.str, rfl, .inr (Wd H), rfl, strs_flat _, _, rfl, ?_⟩
      rw [inV_kn]
      rcases q with ⟨y, e, hy, q⟩ | ⟨no, q⟩
      · cases e
        exact iteF2 (by rw [decide_eq_true hy]; rfl) (q H same_rfl)
      · exact iteT2 (by rw [decide_eq_false (no z rfl)]; rfl) (q H same_rfl)
    · refine ⟨_, rfl, x, .ty "str", .type t, .type "str", false, rfl, .ty _, ht, kit_ty hb, false, rfl, iteT ?_⟩
      rcases q with ⟨y, e, _⟩ | ⟨_, q⟩
      · cases e
      · exact q H same_rfl
end
end Y30

set_option Elab.async false
set_option linter.all false
set_option maxRecDepth 100000
set_option maxHeartbeats 2000000
namespace Y31
open PySem PySem.Spec PyProof.Rows L2 Cau Dr15 Y1 Y2 Y3 Y4 Y5 Y6 Y7 Y18 Y25 Y30
section
variable {P : Program} {w : World} {K : PySem.W.Frag} {mg : Str → Option Value} {base : Heap}
theorem scWO : FnScope ["chest", "word", "tool"] ["chest"] (defScope sWordOf) := ⟨rfl, rfl, rfl, by decide +kernel, rfl, by decide +kernel, by decide +kernel⟩
theorem any_snoc {f : Str → Bool} {xs : List Str} {i : Nat} {z : Str} (h : xs[i]? = some z) : (xs.take (i + 1)).any f = ((xs.take i).any f || f z) := by
  rw [List.take_succ, h, List.any_append]
  simp
theorem ok_wordOf {f dA dM dW : Addr} {fd : FuncData} (F : Fun K "word_of_tools" "word_of_tools" sWordOf f fd) (WA : WordsK K dA allN) (gA : mg "TOOLS_FOR_ALL" = some (.ref dA)) (WM : WordsK K dM midN) (gM : mg "TOOLS_FOR_MIDDLE" = some (.ref dM))
    (WW : WordsK K dW wordsN) (gW : mg "WORDS" = some (.ref dW)) : FnOk P w K mg base CX0 1 f fd ["chest"] (spWordOf K) := by
  refine F.ok scWO (fun vs H Q E h => ?_) (fun cdv A outer s H vs Q E hr h => ?_)
  · obtain ⟨p, c, rfl, _⟩ := h
    rfl
  · obtain ⟨p, c, rfl, hp, q⟩ := h
    refine ⟨_, pss_cons (ps_set (i := 1) scWO.nd rfl (.inl rfl) (pe_ix ix_tup (pe_glob (v := .ref dW) (by rfl) gW rfl) pe_int (fun _ _ => rfl)))
      (pss_cons (ps_for PassesOwn.never rfl (pi_tup (pv 0)) (pg_name (i := 2) scWO.nd rfl (.inl rfl))
        (pss_cons (ps_if (pt_cmpR op_in_seq (pv 2) (pe_glob (v := .ref dA) (by rfl) gA rfl) (by rfl)) (pss_one (ps_ret (pe_ix ix_tup (pe_glob (v := .ref dW) (by rfl) gW rfl) pe_int (fun _ _ => rfl)))) pss_nil)
        (pss_one (ps_if (pt_cmpR op_in_seq (pv 2) (pe_glob (v := .ref dM) (by rfl) gM rfl) (by rfl)) (pss_one (ps_set (i := 1) scWO.nd rfl (.inl rfl) (pe_ix ix_tup (pe_glob (v := .ref dW) (by rfl) gW rfl) pe_int (fun _ _ => rfl)))) pss_nil))))
      (pss_one (ps_ret (pv 1)))), ?_⟩
    refine ⟨dW, wordsN.map V.str, 0, .str "fractions", rfl, rfl, WW H, atI_nat (j := 0) rfl, ?_⟩
    refine ⟨_, rfl, p, rfl, ⟨_, hp⟩, for_it (walk_tup (K := K) (a := p) (xs := c.map V.str)) (fun i σ H' => ∃ y2 : Option V, σ = [some (.ref p), some (.str (wordR (if (c.take i).any (fun t => decide (t ∈ midN)) = true then 1 else 0))), y2] ∧ (c.take i).any (fun t => decide (t ∈ allN)) = false ∧ H = H')
      ⟨none, rfl, rfl, rfl⟩ (fun i σ H' _ ⟨_, _, _, e⟩ => e ▸ hp) ?_ ?_⟩
    · rintro i x σ H2 H3 hi ⟨y2, rfl, hA, rfl⟩ ⟨rfl, hx⟩
      obtain ⟨z, rfl, hz⟩ : ∃ z, x = V.str z ∧ c[i]? = some z := by
        rw [List.getElem?_map] at hx
        cases e : c[i]? with
        | none => rw [e] at hx; cases hx
        | some z => rw [e] at hx; exact ⟨z, (Option.some.inj hx).symm, rfl⟩
      refine ⟨_, rfl, dA, allN.map V.str, rfl, .inr (WA _), rfl, strs_flat _, _, rfl, ?_⟩
      rw [inV_kn]
      have aA := any_snoc (f := fun t => decide (t ∈ allN)) hz
      have aM := any_snoc (f := fun t => decide (t ∈ midN)) hz
      by_cases e1 : z ∈ allN
      · refine iteT2 (decide_eq_true e1) ⟨dW, wordsN.map V.str, 2, .str "all", rfl, rfl, WW _, atI_nat (j := 2) rfl, ?_⟩
        have r2 : rankC c = 2 := by
          unfold rankC
          refine if_pos (List.any_eq_true.mpr ⟨z, List.mem_of_getElem? hz, decide_eq_true e1⟩)
        unfold wordC at q
        rw [r2] at q
        exact q
      · refine iteF2 (decide_eq_false e1) ?_
        refine ⟨_, rfl, dM, midN.map V.str, rfl, .inr (WM _), rfl, strs_flat _, _, rfl, ?_⟩
        rw [inV_kn]
        by_cases e2 : z ∈ midN
        · refine iteT2 (decide_eq_true e2) ⟨dW, wordsN.map V.str, 1, .str "middle", rfl, rfl, WW _, atI_nat (j := 1) rfl, ?_⟩
          refine ⟨some (.str z), ?_, ?_, rfl⟩
          · rw [aM, decide_eq_true e2, Bool.or_true]
            rfl
          · rw [aA, hA, decide_eq_false e1]
            rfl
        · refine iteF2 (decide_eq_false e2) ⟨some (.str z), ?_, ?_, rfl⟩
          · rw [aM, decide_eq_false e2, Bool.or_false]
            rfl
          · rw [aA, hA, decide_eq_false e1]
            rfl
    · rintro σ H2 ⟨y2, rfl, hA, rfl⟩
      rw [List.length_map, List.take_length] at hA ⊢
      refine ⟨_, rfl, ?_⟩
      unfold wordC rankC at q
      rw [hA] at q
      exact q
theorem scSO : FnScope ["chest"] ["chest"] (defScope sSetOf) := ⟨rfl, rfl, rfl, by decide +kernel, rfl, by decide +kernel, by decide +kernel⟩
theorem ok_setOf {f fC fW C : Addr} {fd fdC fdW : FuncData} (F : Fun K "set_of" "set_of" sSetOf f fd) (FC : Fun K "check_chest" "check_chest" sCheckChest fC fdC) (GC : FnOk P w K mg base (L2.CX P w) 2 fC fdC ["value"] (spCheckChest K C)) (bC : Binds K fdC ["value"] []) (gC : mg "check_chest" = some (.ref fC))
    (FW : Fun K "word_of_tools" "word_of_tools" sWordOf fW fdW) (GW : FnOk P w K mg base CX0 1 fW fdW ["chest"] (spWordOf K)) (bW : Binds K fdW ["chest"] []) (gW : mg "word_of_tools" = some (.ref fW)) : FnOk P w K mg base (L2.CX P w) 3 f fd ["chest"] (spSetOf K C) := by
  refine F.okX scSO (fun vs H Q E h => ?_) (fun cdv A outer s H vs Q E hr h => ?_)
  · rcases h with ⟨p, c, rfl, _⟩ | ⟨x, o, rfl, _⟩ <;> rfl
  · have hr1 : Room 1 _ := hr.mono (by decide)
    rcases h with ⟨p, c, rfl, hc, q⟩ | ⟨x, o, rfl, hx, ho, q⟩
    · refine ⟨_, pss_cons (ps_expr (pe_call GC hr (by rfl) gC FC.kp bC .nil (passes_call (takes_of rfl rfl rfl rfl) (fun _ _ _ _ h => h)) (pa_cons (pv 0) pa_nil)))
        (pss_one (ps_ret (pe_call GW hr1 (by rfl) gW FW.kp bW .nil pass0 (pa_cons (pv 0) pa_nil)))), ?_⟩
      refine ⟨_, rfl, .ref p, _, rfl, hc.cd, .inl ⟨hc.is, fun H1 sm => ?_⟩⟩
      exact ⟨_, rfl, p, c, rfl, (hc.same sm).1, q H1 sm⟩
    · refine ⟨_, pss_cons (ps_expr (pe_call GC hr (by rfl) gC FC.kp bC .nil (passes_call (takes_of rfl rfl rfl rfl) (fun _ _ _ _ h => h)) (pa_cons (pv 0) pa_nil)))
        (pss_one (ps_ret (pe_call GW hr1 (by rfl) gW FW.kp bW .nil pass0 (pa_cons (pv 0) pa_nil)))), ?_⟩
      exact ⟨_, rfl, x, o, rfl, hx, .inr ⟨ho, q⟩⟩
theorem scJo : FnScope ["one", "other"] ["one", "other"] (defScope sJoint) := ⟨rfl, rfl, rfl, by decide +kernel, rfl, by decide +kernel, by decide +kernel⟩
theorem ok_joint {f fC C : Addr} {fd fdC : FuncData} (F : Fun K "joint" "joint" sJoint f fd) (FC : Fun K "check_chest" "check_chest" sCheckChest fC fdC) (GC : FnOk P w K mg base (L2.CX P w) 2 fC fdC ["value"] (spCheckChest K C)) (bC : Binds K fdC ["value"] []) (gC : mg "check_chest" = some (.ref fC))
    (mt : mg "tuple" = none) (mso : mg "sorted" = none) (mse : mg "set" = none) : FnOk P w K mg base (L2.CX P w) 3 f fd ["one", "other"] (spJoint K C) := by
  refine F.okX scJo (fun vs H Q E h => ?_) (fun cdv A outer s H vs Q E hr h => ?_)
  · rcases h with ⟨p, c, q, e, rfl, _⟩ | ⟨x, y, o, rfl, _⟩ | ⟨p, c, y, o, rfl, _⟩ <;> rfl
  · refine ⟨_, pss_cons (ps_expr (pe_call GC hr (by rfl) gC FC.kp bC .nil (passes_call (takes_of rfl rfl rfl rfl) (fun _ _ _ _ h => h)) (pa_cons (pv 0) pa_nil)))
      (pss_cons (ps_expr (pe_call GC hr (by rfl) gC FC.kp bC .nil (passes_call (takes_of rfl rfl rfl rfl) (fun _ _ _ _ h => h)) (pa_cons (pv 1) pa_nil)))
      (pss_one (ps_ret (pe_callTy call_tuple_of (by rfl) mt (by decide +kernel) (pa_cons (pe_callB (TxtSet.cr_sortT rfl) (by rfl) mso (by decide +kernel) (pa_cons (pe_callTy (TxtSet.cr_setT rfl) (by rfl) mse (by decide +kernel) (pa_cons
        (pe_op op_catA (pv 0) (pv 1)) pa_nil)) pa_nil)) pa_nil))))), ?_⟩
    rcases h with ⟨p, c, r, e, rfl, hc, he, q⟩ | ⟨x, y, o, rfl, hx, ho, q⟩ | ⟨p, c, y, o, rfl, hc, hy, ho, q⟩
    · refine ⟨_, rfl, .ref p, _, rfl, hc.cd, .inl ⟨hc.is, fun H1 sm1 => ?_⟩⟩
      refine ⟨_, rfl, .ref r, _, rfl, (he.same sm1).cd, .inl ⟨he.is, fun H2 sm2 => ?_⟩⟩
      have hc2 := (hc.same sm1).same sm2
      have he2 := (he.same sm1).same sm2
      have lc := chest_len hc.2
      have le := chest_len he.2
      have sm := sm1.trans sm2
      -- the tools of both
      have fin : ∀ (H3 : Hp) (u : Addr), Same H2 H3 → SqT K H3 u ((c ++ e).map V.str) → ∃ (l : Addr) (zs : List Str), [V.ref u] = [.ref l] ∧ (SqL K H3 l (zs.map V.str) ∨ SqT K H3 l (zs.map V.str)) ∧ zs.length < 99 ∧ ∀ (a : Addr) (L : List Str), H3 a = none → L.Nodup → (∀ z, z ∈ L ↔ z ∈ zs) →
          ∃ (a1 : Addr) (L1 : List Str), [V.ref a] = [.ref a1] ∧ (upd H3 a (TxtSet.SetT w a L)) a1 = some (TxtSet.SetT w a1 L1) ∧ L1.length < 64 ∧ ∀ (zs : List Str) (p : Addr), zs.Perm L1 → sortedS zs = true → (upd H3 a (TxtSet.SetT w a L)) p = none →
            ∃ (p1 : Addr) (ys : List V), [V.ref p] = [.ref p1] ∧ ((SqL K (upd (upd H3 a (TxtSet.SetT w a L)) p (.lst (zs.map V.str))) p1 ys ∧ ∀ l, (upd (upd H3 a (TxtSet.SetT w a L)) p (.lst (zs.map V.str))) l = none → Q (.ref l) (upd (upd (upd H3 a (TxtSet.SetT w a L)) p (.lst (zs.map V.str))) l (.tup ys))) ∨
              (SqT K (upd (upd H3 a (TxtSet.SetT w a L)) p (.lst (zs.map V.str))) p1 ys ∧ Q (.ref p1) (upd (upd H3 a (TxtSet.SetT w a L)) p (.lst (zs.map V.str))))) := fun H3 u sm3 hu => by
        refine ⟨u, c ++ e, rfl, .inr hu, by rw [List.length_append]; omega, fun a L na nd mem => ?_⟩
        refine ⟨a, L, rfl, upd_same, ?_, fun zs l pm srt nl => ?_⟩
        · have := nodup_le _ _ nd fun x hx => (mem x).mp hx
          rw [List.length_append] at this
          omega
        refine ⟨l, zs.map V.str, rfl, .inl ⟨.inl (.inl upd_same), fun t nt => ?_⟩⟩
        have ez : zs = ofT (c ++ e) := sorted_one _ _ srt (ofT_sorted _) (pm.nodup_iff.mpr nd) (ofT_nodup _) fun t => by
          rw [pm.mem_iff, mem, ofT_mem]
          refine ⟨fun h => ⟨?_, h⟩, fun h => h.2⟩
          rcases List.mem_append.mp h with h | h
          · exact chest_sub hc.2 t h
          · exact chest_sub he.2 t h
        have S4 : Same H2 (upd (upd H3 a (TxtSet.SetT w a L)) l (.lst (zs.map V.str))) := sm3.trans ((same_upd na).trans (same_upd nl))
        refine q _ sm _ t (S4.trans (same_upd nt)) (PySem.Spec.same_none S4 nt) ?_
        rw [upd_same, ez]
      refine ⟨_, rfl, _, rfl, p, r, _, _, rfl, rfl, hc2.1, he2.1, ?_, fun e1 => ?_, fun n1 e2 => ?_, fun n1 n2 t nt => ?_⟩
      · rw [List.length_map, List.length_map]
        exact Nat.le_of_lt (small1000 (by omega))
      · refine fin _ _ same_rfl ?_
        have : c = [] := List.map_eq_nil_iff.mp e1
        rw [this]
        exact he2.1
      · refine fin _ _ same_rfl ?_
        have : e = [] := List.map_eq_nil_iff.mp e2
        rw [this, List.append_nil]
        exact hc2.1
      · refine fin _ _ (same_upd nt) ?_
        rw [List.map_append]
        exact .inl (.inl upd_same)
    · exact ⟨_, rfl, x, o, rfl, hx, .inr ⟨ho, q⟩⟩
    · refine ⟨_, rfl, .ref p, _, rfl, hc.cd, .inl ⟨hc.is, fun H1 sm1 => ?_⟩⟩
      exact ⟨_, rfl, y, o, rfl, hy.same sm1, .inr ⟨ho, fun H2 sm2 => q H2 (sm1.trans sm2)⟩⟩
theorem scNM : FnScope ["one", "other"] ["one", "other"] (defScope sNoMore) := ⟨rfl, rfl, rfl, by decide +kernel, rfl, by decide +kernel, by decide +kernel⟩
theorem rank_le (c : List Str) : rankC c ≤ 2 := by
  unfold rankC
  split
  · omega
  · split <;> omega
theorem word_at {n : Nat} (h : n ≤ 2) : wordsN[n]? = some (wordR n) ∧ ∀ m, m < n → wordsN[m]? ≠ some (wordR n) := by
  match n, h with
  | 0, _ => exact ⟨rfl, fun m h => absurd h (Nat.not_lt_zero _)⟩
  | 1, _ => exact ⟨rfl, fun m h => by
      have : m = 0 := by omega
      subst this
      decide +kernel⟩
  | 2, _ => exact ⟨rfl, fun m h => by
      match m, h with
      | 0, _ => decide +kernel
      | 1, _ => decide +kernel⟩
theorem ok_noMore {f fS dW C : Addr} {fd fdS : FuncData} (F : Fun K "no_more" "no_more" sNoMore f fd) (FS : Fun K "set_of" "set_of" sSetOf fS fdS) (GS : FnOk P w K mg base (L2.CX P w) 3 fS fdS ["chest"] (spSetOf K C)) (bS : Binds K fdS ["chest"] []) (gS : mg "set_of" = some (.ref fS))
    (WW : WordsK K dW wordsN) (tW : ∃ o, K.lookup dW = some o ∧ o.cls = .type "tuple" ∧ o.dict = none) (gW : mg "WORDS" = some (.ref dW)) : FnOk P w K mg base (L2.CX P w) 4 f fd ["one", "other"] (spNoMore K C) := by
  refine F.okX scNM (fun vs H Q E h => ?_) (fun cdv A outer s H vs Q E hr h => ?_)
  · rcases h with ⟨p, c, q, e, rfl, _⟩ | ⟨x, y, o, rfl, _⟩ | ⟨p, c, y, o, rfl, _⟩ <;> rfl
  · refine ⟨_, pss_one (ps_ret (pe_cmpR op_le
      (pe_bm PySem.F.plainAttrs_tuple PySem.F.slot_tuple_index PySem.F.type_tuple_index mt_tup_index (pe_glob (v := .ref dW) (by rfl) gW rfl) (pa_cons (pe_call GS hr (by rfl) gS FS.kp bS .nil (passes_call (takes_of rfl rfl rfl rfl) (fun _ _ _ _ h => h)) (pa_cons (pv 0) pa_nil)) pa_nil))
      (pe_bm PySem.F.plainAttrs_tuple PySem.F.slot_tuple_index PySem.F.type_tuple_index mt_tup_index (pe_glob (v := .ref dW) (by rfl) gW rfl) (pa_cons (pe_call GS hr (by rfl) gS FS.kp bS .nil (passes_call (takes_of rfl rfl rfl rfl) (fun _ _ _ _ h => h)) (pa_cons (pv 1) pa_nil)) pa_nil)) (nomark _))), ?_⟩
    rcases h with ⟨p, c, r, e, rfl, hc, he, q⟩ | ⟨x, y, o, rfl, hx, ho, q⟩ | ⟨p, c, y, o, rfl, hc, hy, ho, q⟩
    · refine ⟨.inr (.inl ⟨rfl, tW⟩), _, rfl, .inl ⟨p, c, rfl, hc, fun H1 sm1 => ?_⟩⟩
      obtain ⟨w1, w2⟩ := word_at (rank_le c)
      obtain ⟨w3, w4⟩ := word_at (rank_le e)
      refine ⟨dW, wordsN, wordC c, rankC c, rfl, rfl, WW _, w1, w2, ?_⟩
      refine ⟨.inr (.inl ⟨rfl, tW⟩), _, rfl, .inl ⟨r, e, rfl, he.same sm1, fun H2 sm2 => ?_⟩⟩
      refine ⟨dW, wordsN, wordC e, rankC e, rfl, rfl, WW _, w3, w4, _, _, rfl, rfl, ?_⟩
      have := q H2 (sm1.trans sm2) H2 same_rfl
      have e1 : decide (((rankC c : Nat) : Int) ≤ ((rankC e : Nat) : Int)) = decide (rankC c ≤ rankC e) := by
        rw [decide_eq_decide]
        omega
      show Q (.bl (decide (((rankC c : Nat) : Int) ≤ ((rankC e : Nat) : Int)))) H2
      rw [e1]
      exact this
    · exact ⟨.inr (.inl ⟨rfl, tW⟩), _, rfl, .inr ⟨x, o, rfl, hx, ho, q⟩⟩
    · refine ⟨.inr (.inl ⟨rfl, tW⟩), _, rfl, .inl ⟨p, c, rfl, hc, fun H1 sm1 => ?_⟩⟩
      obtain ⟨w1, w2⟩ := word_at (rank_le c)
      refine ⟨dW, wordsN, wordC c, rankC c, rfl, rfl, WW _, w1, w2, ?_⟩
      exact ⟨.inr (.inl ⟨rfl, tW⟩), _, rfl, .inr ⟨y, o, rfl, hy.same sm1, ho, fun H2 sm2 => q H2 (sm1.trans sm2)⟩⟩
end
end Y31

set_option Elab.async false
set_option linter.all false
set_option maxRecDepth 100000
set_option maxHeartbeats 2000000
/-! sorted of data, tuples without an item among them. -/
namespace Y32
open PySem PySem.Spec PyProof.Rows L2 Cau
open PySem.W (alike alikeAll dataLt dataKind AllAlike Sortable EachIs SortsAt)
/-- the first one is the tuple without an item, all are tuples -/
def EmptyFirst (ds : List PyData) : Prop := ∃ r, ds = .tuple [] :: r ∧ ∀ d ∈ ds, ∃ xs, d = .tuple xs
section
variable {prog : Program} {w : World} {A : Around} {s : Shared}
theorem tup_lt {E : Value → Shared → Prop} {Q : Value → Shared → Prop} {l b : Addr} {us vs : Array Value} {e r : Nat → Bool} (hl : s.heap.IsTuple l us) (hb : s.heap.IsTuple b vs)
    (he : ∀ j (a : j < us.size) (c : j < vs.size), SeqAt.EqAt A.in1 s us[j] vs[j] (e j)) (hr : ∀ j (a : j < us.size) (c : j < vs.size), e j = false → SeqAt.RcLt A.in1 s us[j] vs[j] (r j))
    (q : Q (.bool (SeqAt.firstLt e r (decide (us.size < vs.size)) (List.range (min us.size vs.size)))) s) : wpAny (model prog w) A (call (.builtin "tuple.__lt__") [.ref l, .ref b]) Q E s := by
  obtain ⟨⟨c1, d1, t1, s1⟩, o1, k1, n1, y1⟩ := hl
  obtain ⟨⟨c2, d2, t2, s2⟩, o2, k2, n2, y2⟩ := hb
  cases k1
  cases y1
  cases k2
  cases y2
  refine call_meets PySem.F.slot_tuple_lt ⟨_, o1, rfl⟩ PySem.F.entry_tuple_lt (PySem.F.args_tuple_lt_2 _ _) (SeqAt.tuple_ltAt l b us vs n1 n2 d1 d2 s1 s2 e r) ?_
  exact ⟨o1, o2, he, hr, q⟩
theorem one_tups {xs ys : List PyData} {a b : Value} {as bs : List Addr} {E : Value → Shared → Prop} {Q : Bool → Shared → Prop} (ra : PySem.Reads s.heap a (.tuple xs) as) (rb : PySem.Reads s.heap b (.tuple ys) bs) (h : alikeAll xs ys = true)
    (hu : A.units + min (PyData.tuple xs).depth (PyData.tuple ys).depth < cLine) (q : Q (dataLt (.tuple xs) (.tuple ys)) s) : wpAny (model prog w) A (oneLt' true a b) Q E s := by
  cases ra with
  | @tuple l o us n _ as1 h1 h2 h3 h4 =>
    cases rb with
    | @tuple l2 o2 vs n2 _ bs1 k1 k2 k3 k4 =>
      have z1 : us.size = xs.length := by simpa using SeqAt.ReadsAll.length _ _ _ h4
      have z2 : vs.size = ys.length := by simpa using SeqAt.ReadsAll.length _ _ _ k4
      have hin : A.in1.units + min (PyData.depthAll xs) (PyData.depthAll ys) < cLine := SeqAt.room_in hu
      rw [PySem.W.dataLt_tuple, ← PySem.W.firstLt_toks xs ys h, ← z1, ← z2] at q
      rw [oneLt'_eq]
      simp only [if_true]
      refine wpAny_bind (wpAny_cRoomFor (SeqAt.room_here hu) (wpAny_bind ?_))
      refine wpAny_callSpecialIfBound?_slot (T := "tuple") ⟨_, h1, h2⟩ PySem.F.slot_tuple_lt ?_
      refine tup_lt (e := SeqAt.pairEq xs ys) (r := fun j => dataLt (xs.getD j .none) (ys.getD j .none)) ⟨_, h1, h2, _, h3⟩ ⟨_, k1, k2, _, k3⟩ (fun j a c => ?_) (fun j a c hj => ?_) (wpAny_truthy_bool q)
      · have z := PySem.W.eqAt_alikeAll xs ys A.in1 s us.toList vs.toList _ _ h4 k4 h hin j (by simpa using a) (by simpa using c)
        simpa using z
      · have z := PySem.W.rcLt_alikeAll xs ys A.in1 s us.toList vs.toList _ _ h4 k4 h hin j (by simpa using a) (by simpa using c) hj
        simpa using z
end
section
variable {M : Model} {A : Around} {E : Value → Shared → Prop} {s : Shared}
/-- the first items of tuples -/
theorem firsts_of : ∀ (vs : List Value) (ds : List PyData), EachIs (fun v d => ∃ as, PySem.Reads s.heap v d as) vs ds → (∀ d ∈ ds, ∃ xs, d = .tuple xs) → ∃ fs : List (Option Value), fs.length = vs.length ∧ (∀ r, ds = .tuple [] :: r → ∃ g, fs = none :: g) ∧ ∀ (Q : List (Option Value) → Shared → Prop), Q fs s → wpAny M A (vs.mapM firstOfTuple') Q E s
  | [], ds, e, _ => by
    cases e
    refine ⟨[], rfl, (fun r h => by cases h), fun Q q => ?_⟩
    rw [List.mapM_nil]
    exact wpAny_pure q
  | v :: vs, ds, e, t => by
    cases e with
    | @cons _ d _ ds h e =>
      obtain ⟨fs, f1, f2, f3⟩ := firsts_of vs ds e fun d hd => t d (List.mem_cons_of_mem _ hd)
      obtain ⟨xs, rfl⟩ := t d List.mem_cons_self
      obtain ⟨as, h⟩ := h
      cases h with
      | @tuple l o us n _ as1 h1 h2 h3 h4 =>
        refine ⟨us[0]? :: fs, by simp [f1], fun r e => ?_, fun Q q => ?_⟩
        · injection e with e1 e2
          injection e1 with e1
          subst e1
          have z1 : us.size = 0 := by simpa using SeqAt.ReadsAll.length _ _ _ h4
          refine ⟨fs, ?_⟩
          have : us[0]? = none := by simp [z1]
          rw [this]
        · rw [List.mapM_cons]
          refine wpAny_bind ?_
          rw [PySem.W.kas_first_eq]
          refine wpAny_bind (PySem.W.Looks.here (show PySem.W.Looks M s.heap (typeOf (.ref l)) o.cls from (PySem.W.Looks.ld h1).andThen .now) ?_)
          rw [h2, if_neg (by decide)]
          refine wpAny_bind (listItems_at h1 h3 (wpAny_pure ?_))
          exact wpAny_bind (f3 _ (wpAny_pure q))
theorem kind_empty {vs : List Value} {ds : List PyData} {Q : SortKind → Shared → Prop} (e : EachIs (fun v d => ∃ as, PySem.Reads s.heap v d as) vs ds) (t : EmptyFirst ds) (q : Q oneType' s) : wpAny M A (keyKind' vs.toArray) Q E s := by
  obtain ⟨r, e1, t⟩ := t
  obtain ⟨fs, f1, f2, f3⟩ := firsts_of (M := M) (A := A) (E := E) vs ds e t
  obtain ⟨g, rfl⟩ := f2 r e1
  have hl := e.length
  have types : ∀ v ∈ vs, PySem.W.Looks M s.heap (typeOf v) (.type "tuple") := fun v hv => by
    obtain ⟨d, hd, as, rd⟩ := e.left v hv
    obtain ⟨xs, rfl⟩ := t d hd
    exact PySem.W.looks_reads rd
  obtain ⟨v0, vr, rfl⟩ : ∃ v0 vr, vs = v0 :: vr := by
    cases vs with
    | nil => cases f1
    | cons v0 vr => exact ⟨v0, vr, rfl⟩
  rw [keyKind'_eq, List.mapM_toArray, map_eq_pure_bind]
  refine wpAny_bind (wpAny_bind (f3 _ (wpAny_pure ?_)))
  rw [if_neg (by simp), if_neg (by simp)]
  rw [oneTypeOnly'_eq, List.mapM_toArray, map_eq_pure_bind]
  refine wpAny_bind (wpAny_bind (wpAny_bind (PySem.W.kas_mapM (r := Value.type "tuple") _ (fun v hv Q' hq => (types v hv).here hq) (wpAny_pure ?_))))
  have all : ((List.map (fun _ => Value.type "tuple") (v0 :: vr)).toArray.all fun x => x == Value.type "tuple") = true := by
    rw [List.all_toArray, List.all_map, List.all_eq_true]
    intro _ _
    rfl
  have hd : (List.map (fun _ => Value.type "tuple") (v0 :: vr)).toArray[0]? = some (Value.type "tuple") := by simp
  rw [hd]
  simp only [all, if_true]
  exact wpAny_pure (wpAny_pure q)
end
section
variable {prog : Program} {w : World} {A : Around} {s : Shared}
theorem sorts_data {vs : List Value} {ds : List PyData} (e : EachIs (fun v d => ∃ as, PySem.Reads s.heap v d as) vs ds) (al : AllAlike ds) (k : Sortable ds ∨ EmptyFirst ds) (hu : ∀ d ∈ ds, A.units + d.depth < cLine) : SortsAt prog w A s (dataKind s.heap ds) vs := by
  rcases k with k | k
  · exact SortsAt.data e al k hu
  · refine ⟨fun v hv => ?_, oneType', ?_, fun _ E Q q => kind_empty e k q⟩
    · obtain ⟨d, hd, as, r⟩ := e.left v hv
      exact ⟨_, PySem.W.dataKind_some al hd r⟩
    · intro E x y a b Q ha hb q
      obtain ⟨d, as, hd, ra, rfl⟩ := PySem.W.dataKind_inv ha
      obtain ⟨d', as', hd', rb, rfl⟩ := PySem.W.dataKind_inv hb
      have hdd := al d hd d' hd'
      have hr : A.units + min d.depth d'.depth < cLine := Nat.lt_of_le_of_lt (Nat.add_le_add_left (Nat.min_le_left _ _) _) (hu d hd)
      obtain ⟨_, _, t⟩ := k
      obtain ⟨xs, rfl⟩ := t d hd
      obtain ⟨ys, rfl⟩ := t d' hd'
      rw [keyLt'_oneType]
      exact one_tups ra rb (by simpa [alike] using hdd) hr q
end
/-- a list of data sorted: the items with their data, in another order -/
def rSortD (K : PySem.W.Frag) : List V → Hp → VK → Prop := fun vs H Q => ∃ (a : Addr) (bs : List (V × PyData)), vs = [.ref a] ∧ SqL K H a (bs.map (·.1)) ∧ (∀ b ∈ bs, Dp K H b.1 b.2 ∧ b.2.depth ≤ 8) ∧ AllAlike (bs.map (·.2)) ∧ (Sortable (bs.map (·.2)) ∨ EmptyFirst (bs.map (·.2))) ∧
  ∀ p, H p = none → Q (.ref p) (upd H p (.lst ((bs.mergeSort (PySem.W.dataLe false (·.2))).map (·.1))))
theorem vals_each : ∀ {bs : List (V × PyData)} {us : List Value}, Vals (bs.map (·.1)) us → EachIs (fun (u : Value) (b : V × PyData) => RelV b.1 u) us bs
  | [], _, .nil => .nil
  | _ :: _, _, .cons r t => .cons r (vals_each t)
theorem each_vals : ∀ {bs : List (V × PyData)} {us : List Value}, EachIs (fun (u : Value) (b : V × PyData) => RelV b.1 u) us bs → Vals (bs.map (·.1)) us
  | _, _, .nil => .nil
  | _, _, .cons r t => .cons r (each_vals t)
theorem cr_sortD {X : Cx} (hu : X.A.units + 64 < cLine) : CallR X (.builtin "sorted") (rSortD X.K) := by
  intro pins s σ H xs us Q I r ⟨a, bs, hx, hq, hd, al, srt, q⟩
  subst hx
  rw [Vals.ref1 r]
  obtain ⟨its, rv, p, hz⟩ := I.list hq
  have e0 := vals_each rv
  have er : EachIs (fun (v : Value) (b : V × PyData) => ∃ as, PySem.Reads s.heap v b.2 as) its bs := (PySem.W.each_mem e0).mono fun u b ⟨h, hb⟩ => Dp.reads I b.2 b.1 u (hd b hb).1 h
  have er2 := er.mono fun _ _ ⟨as, h⟩ => (⟨as, PyProof.Rows.Reads.keeps (fun _ _ => PySem.W.sorting_copy_old) h⟩ : ∃ as, PySem.Reads (PySem.W.sortingHeap (PySem.W.copyHeap s.heap its) (s.heap.objs.size + 1) its) _ _ as)
  have len := e0.length
  have sa := sorts_data (prog := X.prog) (w := X.w) (A := X.A.in1.in1) (s := { s with heap := PySem.W.sortingHeap (PySem.W.copyHeap s.heap its) (s.heap.objs.size + 1) its }) (PySem.W.each_map (R := fun v d => ∃ as, PySem.Reads (PySem.W.sortingHeap (PySem.W.copyHeap s.heap its) (s.heap.objs.size + 1) its) v d as) (fun b : V × PyData => b.2) er2) al srt fun d hd' => by
    obtain ⟨b, hb, rfl⟩ := List.mem_map.mp hd'
    have := (hd b hb).2
    show X.A.units + 1 + 1 + b.2.depth < cLine
    omega
  have e1 := PySem.W.sortVals_data false e0 er2 al
  refine PySem.W.sorted_vals p.isList sa ?_ ?_
  · rw [← rv.length]
    exact hz
  · obtain ⟨c, hc⟩ := sortedAll_at s.heap its (PySem.W.sortVals (dataKind (PySem.W.sortingHeap (PySem.W.copyHeap s.heap its) (s.heap.objs.size + 1) its) (bs.map (·.2))) false its its).toArray
    have gr : s.heap.objs.size ≤ s.heap.objs.size + 1 := Nat.le_succ _
    have lm : ((bs.mergeSort (PySem.W.dataLe false (·.2))).map (·.1)).length = (bs.map (·.1)).length := by
      rw [List.length_map, List.length_map, List.length_mergeSort]
    exact ⟨.ref _, _, I.laid (o := .lst ((bs.mergeSort (PySem.W.dataLe false (·.2))).map (·.1))) (t' := s.toks) (fun _ _ => sortedAll_old) gr ⟨lm ▸ hz, _, c, each_vals e1, hc⟩, rfl, q _ (I.hok.fresh gr)⟩
end Y32

set_option Elab.async false
set_option linter.all false
set_option maxRecDepth 100000
set_option maxHeartbeats 4000000
/-! All chests of a set. -/
namespace Y33
open PySem PySem.Spec PyProof.Rows L2 Cau Dr15 Y1 Y2 Y3 Y4 Y5 Y6 Y7 Y18 Y25 Y30 Y31 Y32
abbrev sWith : Stmt := topS 37
abbrev sIsPart : Stmt := topS 39
abbrev Ch := List Str
def tupD (c : Ch) : PyData := .tuple (c.map PyData.str)
/-- the chests behind one more tool -/
def more (t : Str) (cs : List Ch) : List Ch := cs.map (· ++ [t])
def firstC (k : Nat) : List Ch := (toolsN.take k).foldl (fun cs t => cs ++ more t cs) [[]]
def allC : List Ch := firstC 9
def withR (r : Nat) : List Ch := allC.filter fun c => decide (rankC c = r)
abbrev leC : Ch → Ch → Bool := PySem.W.dataLe false tupD
def srtC (cs : List Ch) : List Ch := cs.mergeSort leC
theorem take_snoc {k : Nat} {t : Str} (h : toolsN[k]? = some t) : firstC (k + 1) = firstC k ++ more t (firstC k) := by
  unfold firstC
  rw [List.take_succ, h, List.foldl_append]
  rfl
theorem upTo_len (k : Nat) : (firstC k).length ≤ 2 ^ k := by
  induction k with
  | zero => decide
  | succ k ih =>
    cases h : toolsN[k]? with
    | none =>
      have e : firstC (k + 1) = firstC k := by
        unfold firstC
        rw [List.take_succ, h]
        simp
      rw [e, Nat.pow_succ]
      omega
    | some t =>
      rw [take_snoc h, List.length_append, more, List.length_map, Nat.pow_succ]
      omega
theorem all_len : allC.length ≤ 512 := upTo_len 9
theorem with_len (r : Nat) : (withR r).length ≤ 512 := Nat.le_trans (List.length_filter_le _ _) all_len
theorem more_sub {S : List Str} {t : Str} {cs : List Ch} (h : ∀ c ∈ cs, ∀ z ∈ c, z ∈ S) : ∀ c ∈ more t cs, ∀ z ∈ c, z ∈ S ++ [t] := fun c hc z hz => by
  obtain ⟨d, hd, rfl⟩ := List.mem_map.mp hc
  rcases List.mem_append.mp hz with hz | hz
  · exact List.mem_append_left _ (h d hd z hz)
  · exact List.mem_append_right _ hz
theorem upTo_sub : ∀ k, ∀ c ∈ firstC k, ∀ z ∈ c, z ∈ toolsN.take k := by
  intro k
  induction k with
  | zero =>
    intro c hc z hz
    have : c = [] := List.mem_singleton.mp hc
    rw [this] at hz
    cases hz
  | succ k ih =>
    cases h : toolsN[k]? with
    | none =>
      have e : firstC (k + 1) = firstC k := by
        unfold firstC
        rw [List.take_succ, h]
        simp
      intro c hc z hz
      rw [e] at hc
      rw [List.take_succ]
      exact List.mem_append_left _ (ih c hc z hz)
    | some t =>
      intro c hc z hz
      rw [take_snoc h] at hc
      rw [List.take_succ, h]
      rcases List.mem_append.mp hc with hc | hc
      · exact List.mem_append_left _ (ih c hc z hz)
      · exact more_sub ih c hc z hz
theorem all_sub : ∀ c ∈ allC, ∀ z ∈ c, z ∈ toolsN := fun c hc z hz => List.mem_of_mem_take (upTo_sub 9 c hc z hz)
theorem upTo_size : ∀ k, ∀ c ∈ firstC k, c.length ≤ k := by
  intro k
  induction k with
  | zero =>
    intro c hc
    have : c = [] := List.mem_singleton.mp hc
    rw [this]
    exact Nat.le_refl _
  | succ k ih =>
    cases h : toolsN[k]? with
    | none =>
      have e : firstC (k + 1) = firstC k := by
        unfold firstC
        rw [List.take_succ, h]
        simp
      intro c hc
      rw [e] at hc
      exact Nat.le_succ_of_le (ih c hc)
    | some t =>
      intro c hc
      rw [take_snoc h] at hc
      rcases List.mem_append.mp hc with hc | hc
      · exact Nat.le_succ_of_le (ih c hc)
      · obtain ⟨d, hd, rfl⟩ := List.mem_map.mp hc
        have := ih d hd
        simp
        exact this
theorem all_size : ∀ c ∈ allC, c.length ≤ 9 := upTo_size 9
/-! ### tuples of texts as data -/
theorem alike_strs : ∀ xs ys : List Str, PySem.W.alikeAll (xs.map PyData.str) (ys.map PyData.str) = true
  | [], _ => by simp [PySem.W.alikeAll]
  | _ :: _, [] => by simp [PySem.W.alikeAll]
  | x :: xs, y :: ys => by
    rw [List.map_cons, List.map_cons, PySem.W.alikeAll, alike_strs xs ys]
    simp [PySem.W.alike]
theorem alike_tup (c e : Ch) : PySem.W.alike (tupD c) (tupD e) = true := by
  show PySem.W.alike (.tuple (c.map PyData.str)) (.tuple (e.map PyData.str)) = true
  rw [PySem.W.alike]
  exact alike_strs c e
theorem depth_tup (c : Ch) : (tupD c).depth = 1 := by
  show (PyData.tuple (c.map PyData.str)).depth = 1
  rw [PyData.depth, depth_strs]
theorem srt_ok (cs : List Ch) (h : (∀ c ∈ cs, c ≠ []) ∨ ∃ r, cs = [] :: r) : PySem.W.AllAlike (cs.map tupD) ∧ (PySem.W.Sortable (cs.map tupD) ∨ EmptyFirst (cs.map tupD)) := by
  refine ⟨PySem.W.AllAlike.of alike_tup, ?_⟩
  rcases h with h | ⟨r, rfl⟩
  · left
    left
    intro d hd
    obtain ⟨c, hc, rfl⟩ := List.mem_map.mp hd
    cases c with
    | nil => exact absurd rfl (h _ hc)
    | cons z r => exact ⟨_, _, rfl⟩
  · right
    refine ⟨r.map tupD, rfl, fun d hd => ?_⟩
    obtain ⟨c, _, rfl⟩ := List.mem_map.mp hd
    exact ⟨_, rfl⟩
/-! ### lists of chests -/
abbrev Pr := V × Ch
def PL (K : PySem.W.Frag) (H : Hp) (bs : List Pr) : Prop := ∀ b ∈ bs, ∃ p, b.1 = V.ref p ∧ SqT K H p (b.2.map V.str)
section
variable {K : PySem.W.Frag} {H H' : Hp} {bs bs' : List Pr}
theorem PL.same (h : PL K H bs) (s : Same H H') : PL K H' bs := fun b hb => by
  obtain ⟨p, e, t⟩ := h b hb
  exact ⟨p, e, sqT_same t s⟩
theorem PL.append (h : PL K H bs) (h' : PL K H bs') : PL K H (bs ++ bs') := fun b hb => (List.mem_append.mp hb).elim (h b) (h' b)
theorem PL.one {p : Addr} {c : Ch} (t : SqT K H p (c.map V.str)) : PL K H [(.ref p, c)] := fun b hb => by
  cases List.mem_singleton.mp hb
  exact ⟨p, rfl, t⟩
theorem PL.nil : PL K H [] := fun b hb => absurd hb List.not_mem_nil
theorem PL.at {i : Nat} {x : V} (h : PL K H bs) (e : (bs.map (·.1))[i]? = some x) : ∃ p c, x = .ref p ∧ SqT K H p (c.map V.str) ∧ bs[i]? = some (.ref p, c) := by
  rw [List.getElem?_map] at e
  cases g : bs[i]? with
  | none => rw [g] at e; cases e
  | some b =>
    rw [g] at e
    obtain ⟨p, e1, t⟩ := h b (List.mem_of_getElem? g)
    obtain ⟨v, c⟩ := b
    cases e
    simp only at e1
    subst e1
    exact ⟨p, c, rfl, t, rfl⟩
theorem PL.dp (h : PL K H bs) : ∀ b ∈ bs, Dp K H b.1 (tupD b.2) ∧ (tupD b.2).depth ≤ 8 := fun b hb => by
  obtain ⟨p, e, t⟩ := h b hb
  rw [e, depth_tup]
  exact ⟨.tup t (dpAll_strs _), by decide⟩
theorem PL.perm (h : PL K H bs) (p : bs'.Perm bs) : PL K H bs' := fun b hb => h b (p.mem_iff.mp hb)
end
/-- sorted of a list of chests -/
theorem sort_pl {K : PySem.W.Frag} {H : Hp} {Q : VK} {l : Addr} {bs : List Pr} (hl : SqL K H l (bs.map (·.1))) (h : PL K H bs) (ok : (∀ c ∈ bs.map (·.2), c ≠ []) ∨ ∃ r, bs.map (·.2) = [] :: r)
    (q : ∀ p (bs' : List Pr), H p = none → PL K H bs' → bs'.map (·.2) = srtC (bs.map (·.2)) → Q (.ref p) (upd H p (.lst (bs'.map (·.1))))) : rSortD K [.ref l] H Q := by
  obtain ⟨o1, o2⟩ := srt_ok _ ok
  have e2 : (bs.map fun b => (b.1, tupD b.2)).map (·.2) = (bs.map (·.2)).map tupD := by
    rw [List.map_map, List.map_map]
    rfl
  refine ⟨l, bs.map fun b => (b.1, tupD b.2), rfl, ?_, fun b hb => ?_, by rw [e2]; exact o1, by rw [e2]; exact o2, fun p np => ?_⟩
  · rw [List.map_map]
    exact hl
  · obtain ⟨b', hb', rfl⟩ := List.mem_map.mp hb
    exact h.dp b' hb'
  · have e3 : (bs.map fun b => ((b.1, tupD b.2) : V × PyData)).mergeSort (PySem.W.dataLe false (·.2)) = (bs.mergeSort (PySem.W.dataLe false (fun b : Pr => tupD b.2))).map fun b => (b.1, tupD b.2) :=
      (PySem.W.sort_maps (fun b : Pr => ((b.1, tupD b.2) : V × PyData)) (fun _ _ _ _ => rfl)).symm
    rw [e3, List.map_map]
    refine q p (bs.mergeSort (PySem.W.dataLe false (fun b : Pr => tupD b.2))) np (h.perm (List.mergeSort_perm _ _)) ?_
    exact PySem.W.sort_maps (fun b : Pr => b.2) (fun _ _ _ _ => rfl)
def spIsPart (K : PySem.W.Frag) : Sp := fun vs H Q _ => ∃ (p q : Addr) (c e : Ch), vs = [.ref p, .ref q] ∧ SqT K H p (c.map V.str) ∧ SqT K H q (e.map V.str) ∧ c.length ≤ 60 ∧ ∀ H', Same H H' → Q (.bl (c.all fun z => decide (z ∈ e))) H'
def spWith (K : PySem.W.Frag) (C : Addr) : Sp := fun vs H Q E => (∃ r, vs = [.str (wordR r)] ∧ r ≤ 2 ∧ ∀ (H' : Hp) (l : Addr) (bs : List Pr), Same H H' → H l = none → H' l = some (.lst (bs.map (·.1))) → PL K H' bs → bs.map (·.2) = srtC (withR r) → Q (.ref l) H') ∨
  (∃ x o, vs = [x] ∧ Tx K H x o ∧ (∀ z, o = some z → z ∉ wordsN) ∧ ∀ H', Same H H' → E (.ref C) none H')
theorem word_in {r : Nat} (h : r ≤ 2) : wordR r ∈ wordsN := by
  match r, h with
  | 0, _ => decide +kernel
  | 1, _ => decide +kernel
  | 2, _ => decide +kernel
theorem word_inj {r n : Nat} (h : r ≤ 2) (g : n ≤ 2) (e : wordR r = wordR n) : r = n := by
  match r, n, h, g with
  | 0, 0, _, _ => rfl
  | 1, 1, _, _ => rfl
  | 2, 2, _, _ => rfl
  | 0, 1, _, _ => exact absurd e (by decide +kernel)
  | 0, 2, _, _ => exact absurd e (by decide +kernel)
  | 1, 0, _, _ => exact absurd e (by decide +kernel)
  | 1, 2, _, _ => exact absurd e (by decide +kernel)
  | 2, 0, _, _ => exact absurd e (by decide +kernel)
  | 2, 1, _, _ => exact absurd e (by decide +kernel)
theorem with_srt {r : Nat} (h : r ≤ 2) : (∀ c ∈ withR r, c ≠ []) ∨ ∃ t, withR r = [] :: t := by
  match r, h with
  | 0, _ => exact .inr ⟨(withR 0).tail, by decide +kernel⟩
  | 1, _ =>
    refine .inl fun c hc e => ?_
    subst e
    have := (List.mem_filter.mp hc).2
    exact absurd this (by decide)
  | 2, _ =>
    refine .inl fun c hc e => ?_
    subst e
    have := (List.mem_filter.mp hc).2
    exact absurd this (by decide)
section
variable {P : Program} {w : World} {K : PySem.W.Frag} {mg : Str → Option Value} {base : Heap}
theorem scIP : FnScope ["part", "names", "name"] ["part", "names"] (defScope sIsPart) := ⟨rfl, rfl, rfl, by decide +kernel, rfl, by decide +kernel, by decide +kernel⟩
theorem ok_isPart {f : Addr} {fd : FuncData} (F : Fun K "is_part" "is_part" sIsPart f fd) (ma : mg "all" = none) : FnOk P w K mg base CX0 1 f fd ["part", "names"] (spIsPart K) := by
  refine F.ok scIP (fun vs H Q E h => ?_) (fun cdv A outer s H vs Q E hr h => ?_)
  · obtain ⟨p, q, c, e, rfl, _⟩ := h
    rfl
  · obtain ⟨p, r, c, e, rfl, hp, hr', hl, q⟩ := h
    refine ⟨_, pss_one (ps_ret (pe_callB (cr_all rfl) (by rfl) ma (by decide +kernel) (pa_cons
        (pe_lc (own := [("name", 2)]) (g := gName 2) (tt := tYes) rfl scIP.nd (pi_tup (pv 0))
          (blkOk_by (own := [("name", 2)]) (N := ["part", "names", "name"]) (sc := defScope sIsPart) (by decide +kernel))
          (fun _ _ _ _ _ => pg_name (i := 2) scIP.nd rfl (.inl rfl)) (fun _ _ _ _ _ => pts_nil)
          (fun _ _ _ _ _ => pe_cmpR (show OpR _ (compareOp .In) (rIn K false) from op_in_seq) (pv 2) (pv 1) (by rfl))) pa_nil))), ?_⟩
    refine ⟨_, rfl, p, rfl, ⟨_, hp⟩, fun D nD => ?_⟩
    refine lc_it (walk_tup (K := K) (a := p) (xs := c.map V.str)) (fun i H1 => ∃ bs : List Bool, H1 D = some (.lst (bs.map V.bl)) ∧ bs = (c.take i).map (fun z => decide (z ∈ e)) ∧ Same H H1) ⟨[], upd_same, rfl, same_upd nD⟩ ?_ ?_ ?_
    · rintro i H1 _ ⟨bs, _, _, sm⟩
      exact sqT_same hp sm
    · rintro i x H1 H2 hi ⟨bs, hD, hbs, sm⟩ ⟨rfl, hx⟩
      obtain ⟨z, rfl, hz⟩ : ∃ z, x = V.str z ∧ c[i]? = some z := by
        rw [List.getElem?_map] at hx
        cases g : c[i]? with
        | none => rw [g] at hx; cases hx
        | some z => rw [g] at hx; exact ⟨z, (Option.some.inj hx).symm, rfl⟩
      refine ⟨rfl, _, rfl, _, rfl, r, e.map V.str, rfl, .inr (sqT_same hr' sm), rfl, strs_flat _, ?_⟩
      refine ⟨_, hD, ?_, bs ++ [decide (z ∈ e)], ?_, ?_, same_put sm nD⟩
      · rw [List.length_map, hbs, List.length_map, List.length_take]
        exact small1000 (by omega)
      · rw [upd_same, List.map_append]
        show some (HO.lst (bs.map V.bl ++ [V.bl (inV (.str z) (e.map V.str))])) = _
        rw [inV_kn]
        rfl
      · rw [List.take_succ, List.map_append, hz, hbs]
        rfl
    · rintro H1 ⟨bs, hD, hbs, sm⟩
      rw [List.length_map, List.take_length] at hbs
      refine ⟨D, bs, rfl, .inl (.inl hD), ?_⟩
      have eall : bs.all id = c.all fun z => decide (z ∈ e) := by
        rw [hbs, List.all_map]
        rfl
      rw [eall]
      exact q H1 sm
def withN : List Str := ["word", "chests", "tool", "chest"]
theorem scWi : FnScope withN ["word"] (defScope sWith) := ⟨rfl, rfl, rfl, by decide +kernel, rfl, by decide +kernel, by decide +kernel⟩
theorem ok_with {f fC fW dT C : Addr} {fd fdC fdW : FuncData} (F : Fun K "chests_with" "chests_with" sWith f fd) (FC : Fun K "check_word" "check_word" sCheckWord fC fdC) (GC : FnOk P w K mg base (L2.CX P w) 1 fC fdC ["value"] (spCheckWord K C)) (bC : Binds K fdC ["value"] []) (gC : mg "check_word" = some (.ref fC))
    (FW : Fun K "word_of_tools" "word_of_tools" sWordOf fW fdW) (GW : FnOk P w K mg base CX0 1 fW fdW ["chest"] (spWordOf K)) (bW : Binds K fdW ["chest"] []) (gW : mg "word_of_tools" = some (.ref fW)) (WT : WordsK K dT toolsN) (gT : mg "TOOLS" = some (.ref dT))
    (mso : mg "sorted" = none) : FnOk P w K mg base (L2.CX P w) 2 f fd ["word"] (spWith K C) := by
  refine F.okX scWi (fun vs H Q E h => ?_) (fun cdv A outer s H vs Q E hr h => ?_)
  · rcases h with ⟨r, rfl, _⟩ | ⟨x, o, rfl, _⟩ <;> rfl
  · have hr1 : Room 1 _ := hr.mono (by decide)
    refine ⟨_, pss_cons (ps_expr (pe_call GC hr (by rfl) gC FC.kp bC .nil (passes_call (takes_of rfl rfl rfl rfl) (fun _ _ _ _ h => h)) (pa_cons (pv 0) pa_nil)))
      (pss_cons (ps_set (i := 1) scWi.nd rfl (.inl rfl) (pe_lst (pa_cons (pe_tup pa_nil) pa_nil)))
      (pss_cons (ps_for (passes_of rfl) rfl (pi_tup (pe_glob (v := .ref dT) (by rfl) gT rfl)) (pg_name (i := 2) scWi.nd rfl (.inr rfl))
        (pss_one (ps_set (i := 1) scWi.nd rfl (.inl rfl) (pe_op op_cat (pv 1) (pe_lc (own := [("chest", 3)]) (g := gName 3) (tt := tYes) rfl scWi.nd (pi_list (pv 1))
          (blkOk_by (own := [("chest", 3)]) (N := withN) (sc := defScope sWith) (by decide +kernel))
          (fun _ _ _ _ _ => pg_name (i := 3) scWi.nd rfl (.inl rfl)) (fun _ _ _ _ _ => pts_nil)
          (fun _ _ _ _ _ => pe_op (show OpR _ (binaryOp .Add) (rCatA K) from op_catA) (pv 3) (pe_tup (pa_cons (pv 2) pa_nil))))))))
      (pss_one (ps_ret (pe_callB (cr_sortD hr.units) (by rfl) mso (by decide +kernel) (pa_cons
        (pe_lc (own := [("chest", 3)]) (g := gName 3) rfl scWi.nd (pi_list (pv 1))
          (blkOk_by (own := [("chest", 3)]) (N := withN) (sc := defScope sWith) (by decide +kernel))
          (fun _ _ _ _ _ => pg_name (i := 3) scWi.nd rfl (.inl rfl)) (fun _ _ _ _ _ => pts_one (pt_cmpR op_eq (pe_call GW (hr1.mono (by decide)) (by rfl) gW FW.kp bW .nil pass0 (pa_cons (pv 3) pa_nil)) (pv 0) (nomark _)))
          (fun _ _ _ _ _ => pv 3)) pa_nil)))))), ?_⟩
    rcases h with ⟨r, rfl, hr2, q⟩ | ⟨x, o, rfl, hx, ho, q⟩
    · refine ⟨_, rfl, .str (wordR r), some (wordR r), rfl, .inl ⟨_, rfl, rfl, ?_, ?_⟩, .inl ⟨_, rfl, word_in hr2, fun H1 sm1 => ?_⟩⟩
      · have all : ∀ z ∈ wordsN, z.length ≤ 4000 := by decide +kernel
        exact all _ (word_in hr2)
      · have all : ∀ z ∈ wordsN, PyData.strOk z = true := by decide +kernel
        exact all _ (word_in hr2)
      refine ⟨Nat.zero_le _, fun t nt => ⟨by show 1 ≤ sizeLine; decide, fun l nl => ?_⟩⟩
      have S1 : Same H1 (upd (upd H1 t (.tup [])) l (.lst [.ref t])) := (same_upd nt).trans (same_upd nl)
      have nl1 : H1 l = none := PySem.Spec.same_none (same_upd nt) nl
      have ht : (upd (upd H1 t (.tup [])) l (.lst [.ref t])) t = some (.tup []) := same_upd nl _ _ upd_same
      refine ⟨dT, rfl, ⟨_, WT _⟩, for_it (walk_tup (K := K) (a := dT) (xs := toolsN.map V.str)) (fun i σ H' => ∃ (l : Addr) (bs : List Pr) (y2 : Option V), σ = [some (.str (wordR r)), some (.ref l), y2, none] ∧ H' l = some (.lst (bs.map (·.1))) ∧ H1 l = none ∧ PL K H' bs ∧ bs.map (·.2) = firstC i ∧ Same H1 H')
        ⟨l, [(.ref t, [])], none, rfl, upd_same, nl1, PL.one (.inl (.inl ht)), rfl, S1⟩ (fun i σ H' _ _ => WT H') ?_ ?_⟩
      · rintro i x σ H2 H3 hi ⟨l, bs, y2, rfl, hl, nl, pl, hb, sm⟩ ⟨rfl, hx⟩
        obtain ⟨z, rfl, hz⟩ : ∃ z, x = V.str z ∧ toolsN[i]? = some z := by
          rw [List.getElem?_map] at hx
          cases g : toolsN[i]? with
          | none => rw [g] at hx; cases hx
          | some z => rw [g] at hx; exact ⟨z, (Option.some.inj hx).symm, rfl⟩
        have i9 : i < 9 := by rwa [List.length_map] at hi
        have bl : bs.length ≤ 512 := by
          have h1 := upTo_len i
          rw [← hb, List.length_map] at h1
          exact Nat.le_trans h1 (Nat.le_trans (Nat.pow_le_pow_right (by decide) (show i ≤ 8 by omega)) (by decide))
        have bsz : ∀ b ∈ bs, b.2.length ≤ 9 := fun b hb' => by
          have := upTo_size i b.2 (hb ▸ List.mem_map.mpr ⟨b, hb', rfl⟩)
          omega
        refine ⟨_, rfl, _, rfl, l, rfl, ⟨_, .inl (.inl hl)⟩, fun D nD => ?_⟩
        have nD1 : H1 D = none := PySem.Spec.same_none sm nD
        have lD : l ≠ D := ne_of_none hl nD
        refine lc_list (K := K) (a := l) (xs := bs.map (·.1)) (fun j H' => ∃ ds : List Pr, H' D = some (.lst (ds.map (·.1))) ∧ H' l = some (.lst (bs.map (·.1))) ∧ PL K H' ds ∧ PL K H' bs ∧ ds.map (·.2) = more z ((bs.map (·.2)).take j) ∧ Same H1 H')
          ⟨[], upd_same, (upd_ne lD).trans hl, PL.nil, pl.same (same_upd nD), rfl, same_put sm nD1⟩ (fun j H' _ ⟨_, _, hl', _⟩ => .inl (.inl hl')) ?_ ?_
        · rintro j x H4 hx ⟨ds, hD, hl4, pd, pb, hds, sm4⟩
          obtain ⟨p, c, rfl, hp, hg⟩ := pb.at hx
          have hj : j < bs.length := (List.getElem?_eq_some_iff.mp hg).1
          have hcl : c.length ≤ 9 := bsz _ (List.mem_of_getElem? hg)
          have dl : ds.length ≤ 512 := by
            have h1 : (ds.map (·.2)).length ≤ bs.length := by
              rw [hds, more, List.length_map, List.length_take, List.length_map]
              omega
            rw [List.length_map] at h1
            omega
          refine ⟨rfl, _, rfl, _, rfl, by show 1 ≤ sizeLine; decide, fun u nu => ?_⟩
          have su : Same H4 (upd H4 u (.tup [.str z])) := same_upd nu
          have hu' : (upd H4 u (.tup [.str z])) u = some (.tup [.str z]) := upd_same
          generalize upd H4 u (.tup [.str z]) = H5 at su hu'
          have fin : ∀ (H6 : Hp) (v : Addr), Same H5 H6 → SqT K H6 v ((c ++ [z]).map V.str) → ∃ acc, H6 D = some (.lst acc) ∧ acc.length < sizeLine ∧ ∃ ds' : List Pr, (upd H6 D (.lst (acc ++ [.ref v]))) D = some (.lst (ds'.map (·.1))) ∧ (upd H6 D (.lst (acc ++ [.ref v]))) l = some (.lst (bs.map (·.1))) ∧ PL K (upd H6 D (.lst (acc ++ [.ref v]))) ds' ∧
              PL K (upd H6 D (.lst (acc ++ [.ref v]))) bs ∧ ds'.map (·.2) = more z ((bs.map (·.2)).take (j + 1)) ∧ Same H1 (upd H6 D (.lst (acc ++ [.ref v]))) := fun H6 v s6 hv => by
            have s46 := su.trans s6
            have hD6 := s46 _ _ hD
            have tupD_ne : ∀ {q : Addr} {xs : List V} {o : HO}, SqT K H6 q xs → SqT K (upd H6 D o) q xs := fun {q xs o} hq => by
              rcases hq with (hq | ⟨w', hq⟩) | hq
              · exact .inl (.inl ((upd_ne (ne_of hq hD6 (by intro z; cases z))).trans hq))
              · exact .inl (.inr ⟨w', (upd_ne (ne_of hq hD6 (by intro z; cases z))).trans hq⟩)
              · exact .inr hq
            refine ⟨_, hD6, ?_, ds ++ [(.ref v, c ++ [z])], ?_, (upd_ne lD).trans (s46 _ _ hl4), ?_, ?_, ?_, same_put (sm4.trans s46) nD1⟩
            · rw [List.length_map]
              exact small1000 (by omega)
            · rw [upd_same, List.map_append]
              rfl
            · intro b hb'
              rcases List.mem_append.mp hb' with hb' | hb'
              · obtain ⟨q, e, hq⟩ := (pd.same s46) b hb'
                exact ⟨q, e, tupD_ne hq⟩
              · cases List.mem_singleton.mp hb'
                exact ⟨v, rfl, tupD_ne hv⟩
            · intro b hb'
              obtain ⟨q, e, hq⟩ := (pb.same s46) b hb'
              exact ⟨q, e, tupD_ne hq⟩
            · rw [List.map_append, hds, List.take_succ, List.getElem?_map, hg]
              unfold more
              rw [List.map_append]
              rfl
          refine ⟨p, u, _, _, rfl, rfl, sqT_same hp su, .inl (.inl hu'), ?_, fun e => ?_, fun _ e => ?_, fun _ _ v nv => ?_⟩
          · rw [List.length_map]
            exact Nat.le_of_lt (small1000 (by simp; omega))
          · refine fin H5 u same_rfl ?_
            have : c = [] := List.map_eq_nil_iff.mp e
            rw [this]
            exact .inl (.inl hu')
          · cases e
          · refine fin _ v (same_upd nv) ?_
            rw [List.map_append]
            exact .inl (.inl upd_same)
        · rintro H4 ⟨ds, hD, hl4, pd, pb, hds, sm4⟩
          rw [List.length_map, ← List.length_map (f := (·.2)), List.take_length] at hds
          have dl : ds.length = bs.length := by
            have := congrArg List.length hds
            rwa [more, List.length_map, List.length_map, List.length_map] at this
          refine ⟨l, D, _, _, rfl, rfl, hl4, hD, ?_, fun m nm => ?_⟩
          · rw [List.length_map, List.length_map]
            exact Nat.le_of_lt (small1000 (by
              have h1 := upTo_len i
              rw [← hb, List.length_map] at h1
              have h2 : 2 ^ i ≤ 2 ^ 8 := Nat.pow_le_pow_right (by decide) (by omega)
              omega))
          · refine ⟨m, bs ++ ds, some (.str z), rfl, ?_, PySem.Spec.same_none sm4 nm, (PL.append pb pd).same (same_upd nm), ?_, sm4.trans (same_upd nm)⟩
            · rw [upd_same, List.map_append]
            · rw [List.map_append, hds, take_snoc hz, hb]
      · rintro σ H2 ⟨l, bs, y2, rfl, hl, nl, pl, hb, sm⟩
        rw [List.length_map] at hb
        have hb9 : bs.map (·.2) = allC := hb
        have bl : bs.length ≤ 512 := by
          have h1 := all_len
          rw [← hb9, List.length_map] at h1
          exact h1
        refine ⟨_, rfl, l, rfl, ⟨_, .inl (.inl hl)⟩, fun D nD => ?_⟩
        have nD1 : H1 D = none := PySem.Spec.same_none sm nD
        have lD : l ≠ D := ne_of_none hl nD
        refine lc_list (K := K) (a := l) (xs := bs.map (·.1)) (fun j H' => H' l = some (.lst (bs.map (·.1))) ∧ H' = upd H2 D (.lst (((bs.take j).filter fun b => decide (rankC b.2 = r)).map (·.1))))
          ⟨(upd_ne lD).trans hl, rfl⟩ (fun j H' _ ⟨hl', _⟩ => .inl (.inl hl')) ?_ ?_
        · rintro j x H4 hx ⟨hl4, rfl⟩
          have sD : Same H2 (upd H2 D (.lst (((bs.take j).filter fun b => decide (rankC b.2 = r)).map (·.1)))) := same_upd nD
          obtain ⟨p, c, rfl, hp, hg⟩ := (pl.same sD).at hx
          refine ⟨rfl, _, rfl, p, c, rfl, hp, ?_⟩
          refine ⟨_, rfl, rfl, _, rfl, ?_⟩
          have step : (bs.take (j + 1)).filter (fun b => decide (rankC b.2 = r)) = (bs.take j).filter (fun b => decide (rankC b.2 = r)) ++ (if rankC c = r then [(.ref p, c)] else []) := by
            rw [List.take_succ, List.filter_append, hg]
            by_cases e : rankC c = r <;> simp [e]
          by_cases e : rankC c = r
          · refine iteT2 (decide_eq_true (by show V.str (wordR (rankC c)) = V.str (wordR r); rw [e])) ⟨_, rfl, _, upd_same, ?_, (upd_ne lD).trans hl4, ?_⟩
            · rw [List.length_map]
              have := List.length_filter_le (fun b : Pr => decide (rankC b.2 = r)) (bs.take j)
              rw [List.length_take] at this
              exact small1000 (by omega)
            · rw [upd_upd, step, if_pos e, List.map_append]
              rfl
          · refine iteF2 (decide_eq_false fun z => e ?_) ⟨hl4, ?_⟩
            · have z' : wordR (rankC c) = wordR r := V.str.inj z
              exact word_inj (rank_le c) hr2 z'
            · rw [step, if_neg e, List.append_nil]
        · rintro H4 ⟨hl4, rfl⟩
          rw [List.length_map, List.take_length] at *
          have sD : Same H2 (upd H2 D (.lst ((bs.filter fun b => decide (rankC b.2 = r)).map (·.1)))) := same_upd nD
          have hD : (upd H2 D (.lst ((bs.filter fun b => decide (rankC b.2 = r)).map (·.1)))) D = some (.lst ((bs.filter fun b => decide (rankC b.2 = r)).map (·.1))) := upd_same
          generalize upd H2 D (.lst ((bs.filter fun b => decide (rankC b.2 = r)).map (·.1))) = H5 at sD hD
          have ef : (bs.filter fun b => decide (rankC b.2 = r)).map (·.2) = withR r := by
            unfold withR
            rw [← hb9, List.filter_map]
            rfl
          have plf : PL K H5 (bs.filter fun b => decide (rankC b.2 = r)) := fun b hb' => (pl.same sD) b (List.mem_filter.mp hb').1
          refine sort_pl (.inl (.inl hD)) plf (by rw [ef]; exact with_srt hr2) fun p bs' np pl' he => ?_
          have s15 := sm1.trans (sm.trans sD)
          refine q _ p bs' (s15.trans (same_upd np)) (PySem.Spec.same_none s15 np) upd_same (pl'.same (same_upd np)) ?_
          rw [he, ef]
    · exact ⟨_, rfl, x, o, rfl, hx, .inr ⟨ho, q⟩⟩
end
end Y33

set_option Elab.async false
set_option linter.all false
set_option maxRecDepth 100000
set_option maxHeartbeats 4000000
/-! The chests of a set by their size, and the least ones. -/
namespace Y34
open PySem PySem.Spec PyProof.Rows L2 Cau Dr15 Y30 Y31 Y32 Y33
/-- the chest whose tools are the bits of a number -/
def decM (m : Nat) : Ch := (toolsN.zipIdx.filter fun p => m.testBit p.2).map (·.1)
def tm : Nat → List Nat
  | 0 => [0, 128]
  | 1 => [8, 16, 32, 256, 24, 40, 136, 264, 48, 144, 272, 160, 288, 384, 56, 152, 280, 168, 296, 392, 176, 304, 400, 416, 184, 312, 408, 424, 432, 440]
  | _ => [1, 2, 4, 64, 3, 5, 9, 17, 33, 65, 129, 257, 6, 10, 18, 34, 66, 130, 258, 12, 20, 36, 68, 132, 260, 72, 80, 96, 192, 320, 7, 11, 19, 35, 67, 131, 259, 13, 21, 37, 69, 133, 261, 25, 41, 73, 137, 265, 49, 81, 145, 273, 97, 161, 289, 193, 321, 385, 14, 22, 38, 70, 134, 262, 26, 42, 74, 138, 266, 50, 82, 146, 274, 98, 162, 290, 194, 322, 386, 28, 44, 76, 140, 268, 52, 84, 148, 276, 100, 164, 292, 196, 324, 388, 88, 104, 200, 328, 112, 208, 336, 224, 352, 448, 15, 23, 39, 71, 135, 263, 27, 43, 75, 139, 267, 51, 83, 147, 275, 99, 163, 291, 195, 323, 387, 29, 45, 77, 141, 269, 53, 85, 149, 277, 101, 165, 293, 197, 325, 389, 57, 89, 153, 281, 105, 169, 297, 201, 329, 393, 113, 177, 305, 209, 337, 401, 225, 353, 417, 449, 30, 46, 78, 142, 270, 54, 86, 150, 278, 102, 166, 294, 198, 326, 390, 58, 90, 154, 282, 106, 170, 298, 202, 330, 394, 114, 178, 306, 210, 338, 402, 226, 354, 418, 450, 60, 92, 156, 284, 108, 172, 300, 204, 332, 396, 116, 180, 308, 212, 340, 404, 228, 356, 420, 452, 120, 216, 344, 232, 360, 456, 240, 368, 464, 480, 31, 47, 79, 143, 271, 55, 87, 151, 279, 103, 167, 295, 199, 327, 391, 59, 91, 155, 283, 107, 171, 299, 203, 331, 395, 115, 179, 307, 211, 339, 403, 227, 355, 419, 451, 61, 93, 157, 285, 109, 173, 301, 205, 333, 397, 117, 181, 309, 213, 341, 405, 229, 357, 421, 453, 121, 185, 313, 217, 345, 409, 233, 361, 425, 457, 241, 369, 433, 465, 481, 62, 94, 158, 286, 110, 174, 302, 206, 334, 398, 118, 182, 310, 214, 342, 406, 230, 358, 422, 454, 122, 186, 314, 218, 346, 410, 234, 362, 426, 458, 242, 370, 434, 466, 482, 124, 188, 316, 220, 348, 412, 236, 364, 428, 460, 244, 372, 436, 468, 484, 248, 376, 472, 488, 496, 63, 95, 159, 287, 111, 175, 303, 207, 335, 399, 119, 183, 311, 215, 343, 407, 231, 359, 423, 455, 123, 187, 315, 219, 347, 411, 235, 363, 427, 459, 243, 371, 435, 467, 483, 125, 189, 317, 221, 349, 413, 237, 365, 429, 461, 245, 373, 437, 469, 485, 249, 377, 441, 473, 489, 497, 126, 190, 318, 222, 350, 414, 238, 366, 430, 462, 246, 374, 438, 470, 486, 250, 378, 442, 474, 490, 498, 252, 380, 444, 476, 492, 500, 504, 127, 191, 319, 223, 351, 415, 239, 367, 431, 463, 247, 375, 439, 471, 487, 251, 379, 443, 475, 491, 499, 253, 381, 445, 477, 493, 501, 505, 254, 382, 446, 478, 494, 502, 506, 508, 255, 383, 447, 479, 495, 503, 507, 509, 510, 511]
def sizeD (c : Ch) : PyData := .tuple [.int (c.length : Nat), tupD c]
abbrev leP : Ch → Ch → Bool := PySem.W.dataLe false sizeD
def bySize (r : Nat) : List Ch := (srtC (withR r)).mergeSort leP
def stepL (ls : List Ch) (c : Ch) : List Ch := if (ls.any fun p => p.all fun z => decide (z ∈ c)) = true then ls else ls ++ [c]
def lstR : Nat → List Ch
  | 0 => [[]]
  | 1 => midN.map fun t => [t]
  | _ => allN.map fun t => [t]
/-! ### the order as one of signs -/
abbrev Tk := Int ⊕ List Nat
def tokC : Ch → List Tk
  | [] => [.inl 0]
  | z :: r => .inl 1 :: .inr z.cps.toList :: tokC r
def tokP (c : Ch) : List Tk := .inl 1 :: .inl (c.length : Nat) :: .inl 1 :: (tokC c ++ [.inl 0])
theorem toks_strs : ∀ c : Ch, PySem.W.keyToksAll (c.map PyData.str) = tokC c
  | [] => by rw [List.map_nil, PySem.W.keyToksAll]; rfl
  | z :: r => by
    rw [List.map_cons, PySem.W.keyToksAll, toks_strs r, PySem.W.keyToks]
    rfl
theorem toks_tup (c : Ch) : PySem.W.keyToks (tupD c) = tokC c := by
  unfold tupD
  rw [PySem.W.keyToks, toks_strs]
theorem toks_pair (c : Ch) : PySem.W.keyToks (sizeD c) = tokP c := by
  unfold sizeD
  rw [PySem.W.keyToks, PySem.W.keyToksAll, PySem.W.keyToksAll, PySem.W.keyToksAll, PySem.W.keyToks, toks_tup]
  rfl
abbrev lt_ : List Tk → List Tk → Bool := PyProof.Rows.lexLt PyProof.Rows.itemOrd
theorem leC_is (a b : Ch) : leC a b = !lt_ (tokC b) (tokC a) := by
  show (!PySem.W.dataLt (tupD b) (tupD a)) = _
  unfold PySem.W.dataLt
  rw [toks_tup, toks_tup]
theorem leP_is (a b : Ch) : leP a b = !lt_ (tokP b) (tokP a) := by
  show (!PySem.W.dataLt (sizeD b) (sizeD a)) = _
  unfold PySem.W.dataLt
  rw [toks_pair, toks_pair]
theorem tokC_inj : ∀ {a b : Ch} {x y : List Tk}, tokC a ++ x = tokC b ++ y → a = b
  | [], [], _, _, _ => rfl
  | [], z :: r, _, _, h => by
    have := (List.cons.inj h).1
    exact absurd (Sum.inl.inj this) (by decide)
  | z :: r, [], _, _, h => by
    have := (List.cons.inj h).1
    exact absurd (Sum.inl.inj this) (by decide)
  | z :: r, z' :: r', x, y, h => by
    have h1 := (List.cons.inj h).2
    have h2 := (List.cons.inj h1).1
    have h3 := (List.cons.inj h1).2
    have ez : z = z' := PySem.W.str_of_cps (Sum.inr.inj h2)
    have er : r = r' := tokC_inj (x := x) (y := y) h3
    rw [ez, er]
theorem leC_anti (a b : Ch) (h1 : leC a b = true) (h2 : leC b a = true) : a = b := by
  rw [leC_is, Bool.not_eq_true'] at h1 h2
  have e := lex_total (O := PyProof.Rows.itemOrd) _ _ h1 h2
  exact (tokC_inj (x := []) (y := []) (by rw [List.append_nil, List.append_nil]; exact e)).symm
theorem leP_anti (a b : Ch) (h1 : leP a b = true) (h2 : leP b a = true) : a = b := by
  rw [leP_is, Bool.not_eq_true'] at h1 h2
  have e : tokP b = tokP a := lex_total (O := PyProof.Rows.itemOrd) _ _ h1 h2
  unfold tokP at e
  have e1 := (List.cons.inj (List.cons.inj (List.cons.inj e).2).2).2
  exact (tokC_inj e1).symm
theorem srt_total : PySem.W.TotalLe leC := PySem.W.sortLe_total _ _ _
theorem siz_total : PySem.W.TotalLe leP := PySem.W.sortLe_total _ _ _
/-- two lists in order with the same items are one -/
theorem one_order {α : Type} {le : α → α → Bool} (anti : ∀ a b, le a b = true → le b a = true → a = b) : ∀ {l m : List α}, l.Pairwise (fun a b => le a b = true) → m.Pairwise (fun a b => le a b = true) → l.Perm m → l = m
  | [], m, _, _, p => (List.Perm.eq_nil p.symm).symm
  | x :: l, [], _, _, p => absurd p.length_eq (by simp)
  | x :: l, y :: m, h1, h2, p => by
    rw [List.pairwise_cons] at h1 h2
    have e : x = y := by
      rcases List.mem_cons.mp (p.mem_iff.mp (List.mem_cons_self (a := x) (l := l))) with e | hx
      · exact e
      · rcases List.mem_cons.mp (p.mem_iff.mpr (List.mem_cons_self (a := y) (l := m))) with e | hy
        · exact e.symm
        · exact anti x y (h1.1 y hy) (h2.1 x hx)
    subst e
    rw [one_order anti h1.2 h2.2 p.cons_inv]
/-- neighbours in order -/
def chain {α : Type} (lt : α → α → Bool) : List α → Bool
  | x :: y :: r => !lt y x && chain lt (y :: r)
  | _ => true
theorem chain_pair {α : Type} {lt : α → α → Bool} {le : α → α → Bool} (e : ∀ a b, le a b = !lt b a) (tr : ∀ a b c, le a b = true → le b c = true → le a c = true) : ∀ l : List α, chain lt l = true → l.Pairwise (fun a b => le a b = true)
  | [], _ => .nil
  | [x], _ => List.pairwise_singleton _ _
  | x :: y :: r, h => by
    unfold chain at h
    rw [Bool.and_eq_true] at h
    have ih := chain_pair e tr (y :: r) h.2
    refine List.pairwise_cons.mpr ⟨fun z hz => ?_, ih⟩
    have xy : le x y = true := by rw [e]; exact h.1
    rcases List.mem_cons.mp hz with rfl | hz
    · exact xy
    · exact tr x y z xy ((List.pairwise_cons.mp ih).1 z hz)
/-! ### what is reckoned -/
theorem all_dec : allC = (List.range 512).map decM := by decide +kernel
theorem rank_dec : ∀ r < 3, (tm r).Perm ((List.range 512).filter fun m => decide (rankC (decM m) = r)) := by decide +kernel
theorem chain_dec : ∀ r < 3, chain (fun a b => lt_ (tokP a) (tokP b)) ((tm r).map decM) = true := by decide +kernel
theorem fold_dec : ∀ r < 3, ((tm r).map decM).foldl stepL [] = lstR r := by decide +kernel
theorem chain_lst : ∀ r < 3, chain (fun a b => lt_ (tokC a) (tokC b)) (lstR r) = true := by decide +kernel
theorem with_lens : (withR 0).length = 2 ∧ (withR 1).length = 30 ∧ (withR 2).length = 480 := by decide +kernel
end Y34

set_option Elab.async false
set_option linter.all false
set_option maxRecDepth 100000
set_option maxHeartbeats 4000000
/-! least_chests. -/
namespace Y35
open PySem PySem.Spec PyProof.Rows L2 Cau Dr15 Y1 Y2 Y3 Y4 Y5 Y6 Y7 Y10 Y12 Y13 Y18 Y25 Y30 Y31 Y32 Y33 Y34
abbrev sLeast : Stmt := topS 38
theorem dec_perm {r : Nat} (h : r < 3) : (withR r).Perm ((tm r).map decM) := by
  unfold withR
  rw [all_dec, List.filter_map]
  exact ((rank_dec r h).map decM).symm
theorem size_is {r : Nat} (h : r < 3) : bySize r = (tm r).map decM :=
  one_order leP_anti (PySem.W.sort_pairwise siz_total _) (chain_pair leP_is siz_total.trans _ (chain_dec r h)) (((List.mergeSort_perm _ _).trans (List.mergeSort_perm _ _)).trans (dec_perm h))
theorem size_fold {r : Nat} (h : r < 3) : (bySize r).foldl stepL [] = lstR r := by
  rw [size_is h]
  exact fold_dec r h
theorem lst_srt {r : Nat} (h : r < 3) : srtC (lstR r) = lstR r :=
  one_order leC_anti (PySem.W.sort_pairwise srt_total _) (chain_pair leC_is srt_total.trans _ (chain_lst r h)) (List.mergeSort_perm _ _)
theorem lst_ok {r : Nat} (h : r < 3) : (∀ c ∈ lstR r, c ≠ []) ∨ ∃ t, lstR r = [] :: t := by
  match r, h with
  | 0, _ => exact .inr ⟨[], rfl⟩
  | 1, _ => exact .inl (by decide +kernel)
  | 2, _ => exact .inl (by decide +kernel)
theorem size_mem {r : Nat} {c : Ch} (h : c ∈ bySize r) : c.length ≤ 9 := by
  have h1 : c ∈ withR r := ((List.mergeSort_perm _ _).trans (List.mergeSort_perm _ _)).mem_iff.mp h
  exact all_size c (List.mem_filter.mp h1).1
theorem size_len (r : Nat) : (bySize r).length ≤ 512 := by
  unfold bySize srtC
  rw [List.length_mergeSort, List.length_mergeSort]
  exact with_len r
theorem stepL_sub : ∀ (cs ls : List Ch), ∀ c ∈ cs.foldl stepL ls, c ∈ ls ∨ c ∈ cs
  | [], ls, c, h => .inl h
  | x :: cs, ls, c, h => by
    rcases stepL_sub cs (stepL ls x) c h with h | h
    · unfold stepL at h
      split at h
      · exact .inl h
      · rcases List.mem_append.mp h with h | h
        · exact .inl h
        · rw [List.mem_singleton.mp h]
          exact .inr List.mem_cons_self
    · exact .inr (List.mem_cons_of_mem _ h)
theorem stepL_len : ∀ (cs ls : List Ch), (cs.foldl stepL ls).length ≤ ls.length + cs.length
  | [], ls => Nat.le_refl _
  | x :: cs, ls => by
    have h := stepL_len cs (stepL ls x)
    have h2 : (stepL ls x).length ≤ ls.length + 1 := by
      unfold stepL
      split
      · omega
      · rw [List.length_append]
        exact Nat.le_refl _
    show (cs.foldl stepL (stepL ls x)).length ≤ _
    rw [List.length_cons]
    omega
/-! ### chests with their sizes -/
def PP (K : PySem.W.Frag) (H : Hp) (bs : List (V × Pr)) : Prop := ∀ b ∈ bs, ∃ u p, b.1 = V.ref u ∧ SqT K H u [.int (b.2.2.length : Nat), .ref p] ∧ b.2.1 = .ref p ∧ SqT K H p (b.2.2.map V.str)
section
variable {K : PySem.W.Frag} {H H' : Hp}
theorem PP.tk {bs : List (V × Pr)} (h : PP K H bs) (t : TK K H H') : PP K H' bs := fun b hb => by
  obtain ⟨u, p, e1, h1, e2, h2⟩ := h b hb
  exact ⟨u, p, e1, t _ _ h1, e2, t _ _ h2⟩
theorem PL.tk {bs : List Pr} (h : PL K H bs) (t : TK K H H') : PL K H' bs := fun b hb => by
  obtain ⟨p, e, h1⟩ := h b hb
  exact ⟨p, e, t _ _ h1⟩
theorem tk_one {l : Addr} {xs : List V} (h : H l = some (.lst xs)) (k : Kept l l H H') : TK K H H' := fun q ys hq => by
  rcases hq with (hq | ⟨o, hq⟩) | hq
  · exact .inl (.inl (k _ _ hq (ne_of hq h (by intro z; cases z)) (ne_of hq h (by intro z; cases z))))
  · exact .inl (.inr ⟨o, k _ _ hq (ne_of hq h (by intro z; cases z)) (ne_of hq h (by intro z; cases z))⟩)
  · exact .inr hq
theorem alike_pair (c e : Ch) : PySem.W.alike (sizeD c) (sizeD e) = true := by
  show PySem.W.alike (.tuple [.int (c.length : Nat), tupD c]) (.tuple [.int (e.length : Nat), tupD e]) = true
  rw [PySem.W.alike, PySem.W.alikeAll, PySem.W.alikeAll, alike_tup, PySem.W.alike]
  simp [PySem.W.alikeAll]
theorem depth_pair (c : Ch) : (sizeD c).depth = 2 := by
  show (PyData.tuple [.int (c.length : Nat), tupD c]).depth = 2
  rw [PyData.depth, PyData.depthAll, PyData.depthAll, depth_tup, PyData.depth]
  simp [PyData.depthAll]
theorem sort_pp {Q : VK} {l : Addr} {bs : List (V × Pr)} (hl : SqL K H l (bs.map (·.1))) (h : PP K H bs)
    (q : ∀ p (bs' : List (V × Pr)), H p = none → PP K H bs' → bs'.map (·.2.2) = (bs.map (·.2.2)).mergeSort leP → Q (.ref p) (upd H p (.lst (bs'.map (·.1))))) : rSortD K [.ref l] H Q := by
  have e2 : (bs.map fun b => (b.1, sizeD b.2.2)).map (·.2) = (bs.map (·.2.2)).map sizeD := by
    rw [List.map_map, List.map_map]
    rfl
  refine ⟨l, bs.map fun b => (b.1, sizeD b.2.2), rfl, ?_, fun b hb => ?_, by rw [e2]; exact PySem.W.AllAlike.of alike_pair, .inl (.inl fun d hd => ?_), fun p np => ?_⟩
  · rw [List.map_map]
    exact hl
  · obtain ⟨b', hb', rfl⟩ := List.mem_map.mp hb
    obtain ⟨u, p, e, h1, e3, h2⟩ := h b' hb'
    refine ⟨?_, by rw [depth_pair]; decide⟩
    show Dp K H b'.1 (sizeD b'.2.2)
    rw [e]
    exact .tup h1 (.cons (.int _) (.cons (.tup h2 (dpAll_strs _)) .nil))
  · rw [e2] at hd
    obtain ⟨c, _, rfl⟩ := List.mem_map.mp hd
    exact ⟨_, _, rfl⟩
  · have e3 : (bs.map fun b => ((b.1, sizeD b.2.2) : V × PyData)).mergeSort (PySem.W.dataLe false (·.2)) = (bs.mergeSort (PySem.W.dataLe false (fun b : V × Pr => sizeD b.2.2))).map fun b => (b.1, sizeD b.2.2) :=
      (PySem.W.sort_maps (fun b : V × Pr => ((b.1, sizeD b.2.2) : V × PyData)) (fun _ _ _ _ => rfl)).symm
    rw [e3, List.map_map]
    refine q p (bs.mergeSort (PySem.W.dataLe false (fun b : V × Pr => sizeD b.2.2))) np (fun b hb => h b ((List.mergeSort_perm _ _).mem_iff.mp hb)) ?_
    exact PySem.W.sort_maps (fun b : V × Pr => b.2.2) (fun _ _ _ _ => rfl)
end
def spLeast (K : PySem.W.Frag) (C : Addr) : Sp := fun vs H Q E => (∃ r, vs = [.str (wordR r)] ∧ r ≤ 2 ∧ ∀ (H' : Hp) (l : Addr) (bs : List Pr), Same H H' → H l = none → H' l = some (.lst (bs.map (·.1))) → PL K H' bs → bs.map (·.2) = lstR r → Q (.ref l) H') ∨
  (∃ x o, vs = [x] ∧ Tx K H x o ∧ (∀ z, o = some z → z ∉ wordsN) ∧ ∀ H', Same H H' → E (.ref C) none H')
section
variable {P : Program} {w : World} {K : PySem.W.Frag} {mg : Str → Option Value} {base : Heap}
def leastN : List Str := ["word", "least", "chest", "_", "part"]
theorem scLe : FnScope leastN ["word"] (defScope sLeast) := ⟨rfl, rfl, rfl, by decide +kernel, rfl, by decide +kernel, by decide +kernel⟩
theorem ok_least {f fW fP C : Addr} {fd fdW fdP : FuncData} (F : Fun K "least_chests" "least_chests" sLeast f fd) (FW : Fun K "chests_with" "chests_with" sWith fW fdW) (GW : FnOk P w K mg base (L2.CX P w) 2 fW fdW ["word"] (spWith K C)) (bW : Binds K fdW ["word"] []) (gW : mg "chests_with" = some (.ref fW))
    (FP : Fun K "is_part" "is_part" sIsPart fP fdP) (GP : FnOk P w K mg base CX0 1 fP fdP ["part", "names"] (spIsPart K)) (bP : Binds K fdP ["part", "names"] []) (gP : mg "is_part" = some (.ref fP))
    (mso : mg "sorted" = none) (ml : mg "len" = none) (man : mg "any" = none) : FnOk P w K mg base (L2.CX P w) 3 f fd ["word"] (spLeast K C) := by
  refine F.okX scLe (fun vs H Q E h => ?_) (fun cdv A outer s H vs Q E hr h => ?_)
  · rcases h with ⟨r, rfl, _⟩ | ⟨x, o, rfl, _⟩ <;> rfl
  · have hr1 : Room 1 _ := hr.mono (by decide)
    refine ⟨_, pss_cons (ps_set (i := 1) scLe.nd rfl (.inl rfl) (pe_lst pa_nil))
      (pss_cons (ps_for (passes_of rfl) rfl (pi_list (pe_callB (cr_sortD hr.units) (by rfl) mso (by decide +kernel) (pa_cons
          (pe_lc (own := [("chest", 2)]) (g := gName 2) (tt := tYes) rfl scLe.nd (pi_list (pe_call GW hr (by rfl) gW FW.kp bW .nil (passes_call (takes_of rfl rfl rfl rfl) (fun _ _ _ _ h => h)) (pa_cons (pv 0) pa_nil)))
            (blkOk_by (own := [("chest", 2)]) (N := leastN) (sc := defScope sLeast) (by decide +kernel))
            (fun _ _ _ _ _ => pg_name (i := 2) scLe.nd rfl (.inl rfl)) (fun _ _ _ _ _ => pts_nil)
            (fun _ _ _ _ _ => pe_tup (pa_cons (pe_callB (show CallR _ (.builtin "len") (rLenS K) from call_len_seq) (by rfl) ml PySem.boot_len (pa_cons (pv 2) pa_nil)) (pa_cons (pv 2) pa_nil)))) pa_nil)))
        (pg_tup (by rfl) (pgs_cons (pg_name (i := 3) scLe.nd rfl (.inl rfl)) (pgs_cons (pg_name (i := 2) scLe.nd rfl (.inr rfl)) pgs_nil)))
        (pss_one (ps_if (pt_not (pt_val (pe_callB (cr_any rfl) (by rfl) man (by decide +kernel) (pa_cons
            (pe_lc (own := [("part", 4)]) (g := gName 4) (tt := tYes) rfl scLe.nd (pi_list (pv 1))
              (blkOk_by (own := [("part", 4)]) (N := leastN) (sc := defScope sLeast) (by decide +kernel))
              (fun _ _ _ _ _ => pg_name (i := 4) scLe.nd rfl (.inl rfl)) (fun _ _ _ _ _ => pts_nil)
              (fun _ _ _ _ _ => pe_call GP (hr1.mono (by decide)) (by rfl) gP FP.kp bP .nil pass0 (pa_cons (pv 4) (pa_cons (pv 2) pa_nil)))) pa_nil))))
          (pss_one (ps_expr (pe_bm PySem.F.plainAttrs_list PySem.F.slot_list_append PySem.F.type_list_append mt_append (pv 1) (pa_cons (pv 2) pa_nil)))) pss_nil)))
      (pss_one (ps_ret (pe_callB (cr_sortD hr.units) (by rfl) mso (by decide +kernel) (pa_cons (pv 1) pa_nil))))), ?_⟩
    rcases h with ⟨r, rfl, hr2, q⟩ | ⟨x, o, rfl, hx, ho, q⟩
    · refine ⟨Nat.zero_le _, fun ll nll => ?_⟩
      have S1 : Same H (upd H ll (.lst [])) := same_upd nll
      have hll : (upd H ll (.lst [])) ll = some (.lst []) := upd_same
      generalize upd H ll (.lst []) = H1 at S1 hll
      refine ⟨_, rfl, .inl ⟨r, rfl, hr2, fun H2 lw bs S2 nlw hlw pl hbs => ?_⟩⟩
      have bl : bs.length ≤ 512 := by
        have := congrArg List.length hbs
        rw [List.length_map, srtC, List.length_mergeSort] at this
        rw [this]
        exact with_len r
      refine ⟨lw, rfl, ⟨_, .inl (.inl hlw)⟩, fun D nD => ?_⟩
      refine lc_list (K := K) (a := lw) (xs := bs.map (·.1)) (fun j H' => ∃ ds : List (V × Pr), H' D = some (.lst (ds.map (·.1))) ∧ PP K H' ds ∧ ds.map (·.2.2) = (bs.map (·.2)).take j ∧ Same H2 H')
        ⟨[], upd_same, fun b hb => absurd hb List.not_mem_nil, rfl, same_upd nD⟩ (fun j H' _ ⟨_, _, _, _, sm⟩ => .inl (.inl (sm _ _ hlw))) ?_ ?_
      · rintro j x H3 hx ⟨ds, hD, pp, hds, sm⟩
        obtain ⟨p, c, rfl, hp, hg⟩ := (pl.same sm).at hx
        have dl : ds.length ≤ 512 := by
          have := congrArg List.length hds
          rw [List.length_map, List.length_take, List.length_map] at this
          omega
        refine ⟨rfl, _, rfl, p, _, rfl, .inr hp, _, rfl, by show 2 ≤ sizeLine; decide, fun u nu => ?_⟩
        have uD : D ≠ u := ne_of_none hD nu
        have sU : Same H3 (upd H3 u (.tup [.int ((c.map V.str).length : Nat), .ref p])) := same_upd nu
        have hu : (upd H3 u (.tup [.int ((c.map V.str).length : Nat), .ref p])) u = some (.tup [.int ((c.map V.str).length : Nat), .ref p]) := upd_same
        generalize upd H3 u (.tup [.int ((c.map V.str).length : Nat), .ref p]) = H4 at sU hu
        have kD : Kept D D H4 (upd H4 D (.lst (ds.map (·.1) ++ [.ref u]))) := fun b o e n _ => (upd_ne n).trans e
        have tD : TK K H4 (upd H4 D (.lst (ds.map (·.1) ++ [.ref u]))) := tk_one (sU _ _ hD) kD
        refine ⟨_, sU _ _ hD, ?_, ds ++ [(.ref u, (.ref p, c))], ?_, ?_, ?_, same_put (sm.trans sU) nD⟩
        · rw [List.length_map]
          exact small1000 (by omega)
        · rw [upd_same, List.map_append]
          rfl
        · intro b hb
          rcases List.mem_append.mp hb with hb | hb
          · exact PP.tk (PP.tk pp (TK.of sU)) tD b hb
          · cases List.mem_singleton.mp hb
            refine ⟨u, p, rfl, tD _ _ ?_, rfl, tD _ _ (sqT_same hp sU)⟩
            rw [List.length_map] at hu
            exact .inl (.inl hu)
        · rw [List.map_append, hds, List.take_succ, List.getElem?_map, hg]
          rfl
      · rintro H3 ⟨ds, hD, pp, hds, sm⟩
        rw [List.length_map, ← List.length_map (f := (·.2)), List.take_length, hbs] at hds
        unfold tNil
        refine sort_pp (.inl (.inl hD)) pp fun ls bp nls pp2 hbp => ?_
        rw [hds] at hbp
        have sL : Same H3 (upd H3 ls (.lst (bp.map (·.1)))) := same_upd nls
        have hls : (upd H3 ls (.lst (bp.map (·.1)))) ls = some (.lst (bp.map (·.1))) := upd_same
        generalize upd H3 ls (.lst (bp.map (·.1))) = H4 at sL hls
        have S14 := S2.trans (sm.trans sL)
        have hll4 := S14 _ _ hll
        have pp4 := PP.tk pp2 (TK.of sL)
        have nl : ls ≠ ll := fun z => by
          have := (S2.trans sm) _ _ hll
          rw [← z, nls] at this
          cases this
        have hbp' : bp.map (·.2.2) = bySize r := hbp
        have bpl : bp.length ≤ 512 := by
          have := congrArg List.length hbp'
          rw [List.length_map] at this
          rw [this]
          exact size_len r
        refine ⟨ls, rfl, ⟨_, .inl (.inl hls)⟩, for_list (K := K) (a := ls) (xs := bp.map (·.1)) (fun i σ H' => ∃ (bs : List Pr) (y2 y3 : Option V), σ = [some (.str (wordR r)), some (.ref ll), y2, y3, none] ∧ H' ll = some (.lst (bs.map (·.1))) ∧ PL K H' bs ∧ bs.map (·.2) = ((bySize r).take i).foldl stepL [] ∧ Kept ll ll H4 H')
          ⟨[], none, none, rfl, hll4, PL.nil, rfl, fun b o e _ _ => e⟩ (fun i σ H' _ ⟨_, _, _, _, _, _, _, k⟩ => .inl (.inl (k _ _ hls nl nl))) ?_ ?_⟩
        · rintro i x σ H5 hx ⟨bs, y2, y3, rfl, hll5, pl5, hb5, k5⟩
          have t5 : TK K H4 H5 := tk_one hll4 k5
          obtain ⟨b, hb, rfl⟩ : ∃ b, bp[i]? = some b ∧ x = b.1 := by
            rw [List.getElem?_map] at hx
            cases g : bp[i]? with
            | none => rw [g] at hx; cases hx
            | some b => rw [g] at hx; exact ⟨b, rfl, (Option.some.inj hx).symm⟩
          obtain ⟨u, p, e1, h1, e2, h2⟩ := (PP.tk pp4 t5) b (List.mem_of_getElem? hb)
          have hz : (bySize r)[i]? = some b.2.2 := by
            rw [← hbp', List.getElem?_map, hb]
            rfl
          have hi : i < 512 := by
            have := (List.getElem?_eq_some_iff.mp hb).1
            omega
          have c9 : b.2.2.length ≤ 9 := size_mem (List.mem_of_getElem? hz)
          generalize hc : b.2.2 = c at h1 h2 hz c9
          rw [e1]
          have take_i : ((bySize r).take (i + 1)).foldl stepL [] = stepL (bs.map (·.2)) c := by
            rw [List.take_succ, hz, List.foldl_append, ← hb5]
            rfl
          have bsl : bs.length ≤ 512 := by
            have h3 := congrArg List.length hb5
            have h4 := stepL_len ((bySize r).take i) []
            rw [List.length_map] at h3
            rw [List.length_take] at h4
            simp at h4
            omega
          have bs9 : ∀ b ∈ bs, b.2.length ≤ 9 := fun b' hb' => by
            have h3 : b'.2 ∈ ((bySize r).take i).foldl stepL [] := hb5 ▸ List.mem_map.mpr ⟨b', hb', rfl⟩
            rcases stepL_sub _ _ _ h3 with h3 | h3
            · cases h3
            · exact size_mem (List.mem_of_mem_take h3)
          refine ⟨u, _, rfl, h1, rfl, _, _, rfl, _, _, rfl, rfl, ?_⟩
          refine ⟨_, rfl, ll, rfl, ⟨_, .inl (.inl hll5)⟩, fun D2 nD2 => ?_⟩
          refine lc_list (K := K) (a := ll) (xs := bs.map (·.1)) (fun j H' => ∃ gs : List Bool, H' D2 = some (.lst (gs.map V.bl)) ∧ gs = ((bs.map (·.2)).take j).map (fun p => p.all fun z => decide (z ∈ c)) ∧ Same H5 H')
            ⟨[], upd_same, rfl, same_upd nD2⟩ (fun j H' _ ⟨_, _, _, sm⟩ => .inl (.inl (sm _ _ hll5))) ?_ ?_
          · rintro j x H6 hx ⟨gs, hD2, hgs, sm6⟩
            obtain ⟨p', c', rfl, hp', hg⟩ := (pl5.same sm6).at hx
            have c'9 : c'.length ≤ 9 := bs9 _ (List.mem_of_getElem? hg)
            refine ⟨rfl, _, rfl, _, rfl, p', p, c', c, rfl, hp', sqT_same h2 sm6, by omega, fun H7 S7 => ?_⟩
            refine ⟨_, S7 _ _ hD2, ?_, gs ++ [c'.all fun z => decide (z ∈ c)], by rw [upd_same, List.map_append]; rfl, ?_, same_put (sm6.trans S7) nD2⟩
            · have := congrArg List.length hgs
              rw [List.length_map, List.length_take, List.length_map] at this
              rw [List.length_map]
              exact small1000 (by omega)
            · rw [List.take_succ, List.map_append, ← hgs, List.getElem?_map, hg]
              rfl
          · rintro H6 ⟨gs, hD2, hgs, sm6⟩
            rw [List.length_map, ← List.length_map (f := (·.2)), List.take_length] at hgs
            refine ⟨D2, gs, rfl, .inl (.inl hD2), _, rfl, ?_⟩
            have eany : gs.any id = (bs.map (·.2)).any fun p => p.all fun z => decide (z ∈ c) := by
              rw [hgs, List.any_map]
              rfl
            rw [eany]
            have k6 : Kept ll ll H4 H6 := k5.trans (Kept.of sm6)
            cases e : (bs.map (·.2)).any fun p => p.all fun z => decide (z ∈ c) with
            | true =>
              refine iteF ⟨bs, _, _, rfl, sm6 _ _ hll5, pl5.same sm6, ?_, k6⟩
              rw [take_i, stepL, if_pos e]
            | false =>
              refine iteT ?_
              have kA : Kept ll ll H6 (upd H6 ll (.lst (bs.map (·.1) ++ [.ref p]))) := fun b o e n _ => (upd_ne n).trans e
              have tA : TK K H6 (upd H6 ll (.lst (bs.map (·.1) ++ [.ref p]))) := tk_one (sm6 _ _ hll5) kA
              refine ⟨_, rfl, .inl ⟨rfl, _, .inl (.inl (sm6 _ _ hll5))⟩, _, rfl, ll, _, _, rfl, rfl, sm6 _ _ hll5, ?_, ?_⟩
              · rw [List.length_map]
                exact small1000 (by omega)
              · refine ⟨bs ++ [(.ref p, c)], _, _, rfl, ?_, ?_, ?_, k6.trans kA⟩
                · rw [upd_same, List.map_append]
                  rfl
                · exact PL.append (PL.tk (pl5.same sm6) tA) (PL.one (tA _ _ (sqT_same h2 sm6)))
                · rw [take_i, stepL, if_neg (by rw [e]; exact Bool.false_ne_true), List.map_append]
                  rfl
        · rintro σ H5 ⟨bs, y2, y3, rfl, hll5, pl5, hb5, k5⟩
          rw [List.length_map, ← List.length_map (f := fun b : V × Pr => b.2.2), hbp', List.take_length, size_fold (by omega)] at hb5
          refine ⟨_, rfl, sort_pl (.inl (.inl hll5)) pl5 (by rw [hb5]; exact lst_ok (by omega)) fun p bs' np pl' he => ?_⟩
          rw [hb5, lst_srt (by omega)] at he
          have SA : Same H H5 := fun b o e => by
            have n : b ≠ ll := ne_of_none e nll
            exact k5 _ _ (S14 _ _ (S1 _ _ e)) n n
          exact q _ p bs' (SA.trans (same_upd np)) (PySem.Spec.same_none SA np) upd_same (pl'.same (same_upd np)) he
    · refine ⟨Nat.zero_le _, fun ll nll => ?_⟩
      have S1 : Same H (upd H ll (.lst [])) := same_upd nll
      exact ⟨_, rfl, .inr ⟨x, o, rfl, tx_same hx S1, ho, fun H' S' => q H' (S1.trans S')⟩⟩
end
end Y35

set_option Elab.async false
set_option linter.all false
set_option maxRecDepth 100000
set_option maxHeartbeats 4000000
/-! first_barred; the law's tools, rank, chests. -/
namespace Y36
open PySem PySem.Spec PyProof.Rows L2 Cau Dr15 Y1 Y2 Y3 Y4 Y5 Y6 Y7 Y8 Y10 Y12 Y13 Y18 Y25 Y30 Y31 Y32 Y33 Y34 Y35
abbrev sBarred : Stmt := topS 40
abbrev sTools : Stmt := topS 52
abbrev sRank : Stmt := topS 53
abbrev sChest : Stmt := topS 54
abbrev sOdd : Stmt := topS 55
/-! ### drawn steps -/
def Sdl (K : PySem.W.Frag) (H : Hp) (ys : List V) (st : List St1) : Prop := ys.length = st.length ∧ ∀ (i : Nat) y p, ys[i]? = some y → st[i]? = some p → SdT K H y p
section
variable {K : PySem.W.Frag} {H H' : Hp}
theorem Sdl.tk {ys : List V} {st : List St1} (h : Sdl K H ys st) (t : TK K H H') : Sdl K H' ys st := ⟨h.1, fun i y p a b => (h.2 i y p a b).tk t⟩
theorem Sdl.ok {ys : List V} {st : List St1} (h : Sdl K H ys st) : ∀ (i : Nat) y d, ys[i]? = some y → (st.map sdOf)[i]? = some d → SdOk K H y d := fun i y d a b => by
  rw [List.getElem?_map] at b
  cases e : st[i]? with
  | none => rw [e] at b; cases b
  | some p =>
    rw [e] at b
    cases b
    exact (h.2 i y p a e).ok
theorem Sdl.sv {a : Addr} {ys : List V} {st : List St1} (h : Sdl K H ys st) (e : SqX K H a ys) (l : st.length ≤ 60) : Sv K H (.ref a) (some (st.map sdOf)) :=
  .inl ⟨a, ys, _, rfl, e, by rw [List.length_map]; exact h.1, by have := h.1; omega, h.ok, rfl⟩
end
theorem none_left (f : Str → Bool) : ∀ xs : List Str, (xs.filter f).isEmpty = !xs.any f
  | [] => rfl
  | x :: r => by
    rw [List.filter_cons, List.any_cons]
    cases e : f x with
    | true => rfl
    | false => exact none_left f r
/-! ### the first step beyond a chest -/
def barB (c : Ch) (t : Str) : Bool := !decide (t = ("" : Str)) && !decide (t ∈ c)
def toolsOf (st : List St1) : List Str := st.map fun p => toolW (wordL p.2)
def firstB (ts : List Str) (c : Ch) : Option Nat := ts.findIdx? (barB c)
def natV : Option Nat → V
  | some n => .int (n : Nat)
  | none => .non
theorem find_go {c : Ch} {t : Str} {ts : List Str} {i : Nat} (h : ts[i]? = some t) (ih : (ts.take i).findIdx? (barB c) = none) : (barB c t = true → firstB ts c = some i) ∧ (barB c t = false → (ts.take (i + 1)).findIdx? (barB c) = none) := by
  have hi := (List.getElem?_eq_some_iff.mp h).1
  have none_all : ∀ z ∈ ts.take i, barB c z = false := fun z hz => by
    have := List.findIdx?_eq_none_iff.mp ih z hz
    simpa using this
  refine ⟨fun e => ?_, fun e => ?_⟩
  · unfold firstB
    rw [List.findIdx?_eq_some_iff_getElem]
    refine ⟨hi, by rw [(List.getElem?_eq_some_iff.mp h).2]; exact e, fun j hj => ?_⟩
    have : ts[j] ∈ ts.take i := by
      rw [List.mem_take_iff_getElem]
      exact ⟨j, by omega, rfl⟩
    rw [none_all _ this]
    exact Bool.false_ne_true
  · rw [List.findIdx?_eq_none_iff]
    intro z hz
    rw [List.take_succ, h] at hz
    rcases List.mem_append.mp hz with hz | hz
    · rw [none_all z hz]
    · have : z = t := by simpa using hz
      rw [this, e]
def spBarred (K : PySem.W.Frag) (CB CC : Addr) : Sp := fun vs H Q E => (∃ (l p : Addr) (ys : List V) (st : List St1) (c : Ch), vs = [.ref l, .ref p] ∧ SqL K H l ys ∧ Sdl K H ys st ∧ st.length ≤ 20 ∧ goesB (st.map sdOf) sheetL = true ∧ ChT K H p c ∧ ∀ H', Same H H' → Q (natV (firstB (toolsOf st) c)) H') ∨
  (∃ x y o, vs = [x, y] ∧ Sv K H x o ∧ goesO o sheetL = false ∧ ∀ H', Same H H' → E (.ref CB) none H') ∨
  (∃ x y ds o, vs = [x, y] ∧ Sv K H x (some ds) ∧ goesB ds sheetL = true ∧ Cd K H y o ∧ chestO o = false ∧ ∀ H', Same H H' → E (.ref CC) none H')
section
variable {P : Program} {w : World} {K : PySem.W.Frag} {mg : Str → Option Value} {base : Heap}
def barN : List Str := ["steps", "chest", "at", "_", "deed", "tool"]
theorem scBa : FnScope barN ["steps", "chest"] (defScope sBarred) := ⟨rfl, rfl, rfl, by decide +kernel, rfl, by decide +kernel, by decide +kernel⟩
theorem ok_barred {f fD fC fT CB CC C2 : Addr} {fd fdD fdC fdT : FuncData} (F : Fun K "first_barred" "first_barred" sBarred f fd) (FD : Fun K "check_drawing" "check_drawing" sCheckDrawing fD fdD) (GD : FnOk P w K mg base (L2.CX P w) 5 fD fdD ["value"] (spCheckDrawing K CB)) (bD : Binds K fdD ["value"] []) (gD : mg "check_drawing" = some (.ref fD))
    (FC : Fun K "check_chest" "check_chest" sCheckChest fC fdC) (GC : FnOk P w K mg base (L2.CX P w) 2 fC fdC ["value"] (spCheckChest K CC)) (bC : Binds K fdC ["value"] []) (gC : mg "check_chest" = some (.ref fC))
    (FT : Fun K "tool_of" "tool_of" sToolOf fT fdT) (GT : FnOk P w K mg base (L2.CX P w) 4 fT fdT ["deed"] (spTool K C2)) (bT : Binds K fdT ["deed"] []) (gT : mg "tool_of" = some (.ref fT))
    (me : mg "enumerate" = none) : FnOk P w K mg base (L2.CX P w) 6 f fd ["steps", "chest"] (spBarred K CB CC) := by
  refine F.okX scBa (fun vs H Q E h => ?_) (fun cdv A outer s H vs Q E hr h => ?_)
  · rcases h with ⟨l, p, ys, st, c, rfl, _⟩ | ⟨x, y, o, rfl, _⟩ | ⟨x, y, ds, o, rfl, _⟩ <;> rfl
  · have hr5 : Room 5 _ := hr.mono (by decide)
    have hr4 : Room 4 _ := hr.mono (by decide)
    have hr2 : Room 2 _ := hr.mono (by decide)
    refine ⟨_, pss_cons (ps_expr (pe_call GD hr5 (by rfl) gD FD.kp bD .nil (passes_call (takes_of rfl rfl rfl rfl) (fun _ _ _ _ h => h)) (pa_cons (pv 0) pa_nil)))
      (pss_cons (ps_expr (pe_call GC hr2 (by rfl) gC FC.kp bC .nil (passes_call (takes_of rfl rfl rfl rfl) (fun _ _ _ _ h => h)) (pa_cons (pv 1) pa_nil)))
      (pss_cons (ps_for (passes_of rfl) rfl (pi_enum (by rfl) me (pa_cons (pv 0) pa_nil)) (pg_tup (by rfl) (pgs_cons (pg_name (i := 2) scBa.nd rfl (.inl rfl)) (pgs_cons (pg_tup (by rfl) (pgs_cons (pg_name (i := 3) scBa.nd rfl (.inl rfl)) (pgs_cons (pg_name (i := 4) scBa.nd rfl (.inl rfl)) pgs_nil))) pgs_nil)))
        (pss_cons (ps_set (i := 5) scBa.nd rfl (.inl rfl) (pe_call GT hr4 (by rfl) gT FT.kp bT .nil (passes_call (W := fun _ _ _ _ => False) LamX.takes0 (fun _ _ _ _ h => h)) (pa_cons (pv 4) pa_nil)))
        (pss_one (ps_if (PW.pt (pw_and (pt_cmpR op_ne (pv 5) pe_str (nomark _)) (pw_and1 (pt_cmpR op_notIn_seq (pv 5) (pv 1) (by rfl))))) (pss_one (ps_ret (pv 2))) pss_nil))))
      (pss_one (ps_ret pe_non)))), ?_⟩
    rcases h with ⟨l, p, ys, st, c, rfl, hl, hst, hl20, hg, hc, q⟩ | ⟨x, y, o, rfl, hx, ho, q⟩ | ⟨x, y, ds, o, rfl, hx, hg, hy, ho, q⟩
    · refine ⟨_, rfl, .ref l, _, rfl, hst.sv (.inl hl) (by omega), .inl ⟨hg, fun H1 sm1 => ?_⟩⟩
      refine ⟨_, rfl, .ref p, _, rfl, (hc.same sm1).cd, .inl ⟨hc.is, fun H2 sm2 => ?_⟩⟩
      have S2 := sm1.trans sm2
      have deeds := goes_deeds st _ hg
      have q' : ∀ v H', natV (firstB (toolsOf st) c) = v → Same H H' → Q v H' := fun v H' e sm => e ▸ q H' sm
      refine ⟨_, rfl, l, ys, rfl, S2.seq hl, for_it (walk_enum (K := K) (a := l) (xs := ys)) (fun i σ H' => ∃ (y2 y3 y4 y5 : Option V), σ = [some (.ref l), some (.ref p), y2, y3, y4, y5] ∧ ((toolsOf st).take i).findIdx? (barB c) = none ∧ Same H H')
        ⟨none, none, none, none, rfl, rfl, S2⟩ (fun i σ H' _ ⟨_, _, _, _, _, _, sm⟩ => sm.seq hl) ?_ ?_⟩
      · rintro i x σ H3 H4 hi ⟨y2, y3, y4, y5, rfl, hf, sm⟩ ⟨T, n, v, rfl, nT, rfl, en, ev⟩
        cases en
        have hi' : i < st.length := by have := hst.1; omega
        have hri : st[i]? = some st[i] := List.getElem?_eq_getElem hi'
        have dl := (deeds _ (List.getElem_mem hi')).1
        generalize st[i] = pj at hri dl
        have ST : Same H (upd H3 T (.tup [.int (i : Nat), v])) := sm.trans (same_upd nT)
        obtain ⟨yp, zp, rfl, g1, g2, g3, g4, g5⟩ := (hst.2 i v pj ev hri).tk (TK.of ST)
        have hT : (upd H3 T (.tup [.int (i : Nat), .ref yp])) T = some (.tup [.int (i : Nat), .ref yp]) := upd_same
        generalize upd H3 T (.tup [.int (i : Nat), .ref yp]) = H5 at ST g1 g2 hT
        obtain ⟨w0, r, k, e, hfm, _, hw⟩ := word_of dl
        refine ⟨T, _, rfl, .inl (.inl hT), rfl, _, _, rfl, _, _, rfl, ⟨yp, _, rfl, g1, rfl, _, _, rfl, _, _, rfl, rfl, rfl, ?_⟩⟩
        rw [e] at g2 g3 g4 dl
        refine ⟨_, rfl, zp, w0, r, rfl, g2, g3, g4, dl, fun H6 S6 => ?_⟩
        have hti : (toolsOf st)[i]? = some (toolW w0) := by
          unfold toolsOf
          rw [List.getElem?_map, hri]
          show some (toolW (wordL pj.2)) = _
          rw [hw]
        obtain ⟨f1, f2⟩ := find_go hti hf
        refine ⟨_, rfl, rfl, _, rfl, ?_⟩
        have eb : barB c (toolW w0) = (!decide (toolW w0 = ("" : Str)) && !decide (toolW w0 ∈ c)) := rfl
        show if (!decide (V.str (toolW w0) = V.str "")) = true then _ else _
        by_cases z : toolW w0 = ("" : Str)
        · refine iteF2 (by rw [z]; simp) ⟨_, _, _, _, rfl, f2 (by rw [eb, decide_eq_true z]; rfl), ST.trans S6⟩
        · refine iteT2 (by simp [z]) ?_
          refine ⟨_, rfl, _, rfl, p, _, rfl, .inr (sqT_same hc.1 (ST.trans S6)), rfl, strs_flat _, _, rfl, ?_⟩
          rw [inV_kn]
          by_cases m : toolW w0 ∈ c
          · refine iteF2 (by rw [decide_eq_true m]; rfl) ⟨_, _, _, _, rfl, f2 (by rw [eb, decide_eq_true m]; simp), ST.trans S6⟩
          · refine iteT2 (by rw [decide_eq_false m]; rfl) ⟨_, rfl, q' _ _ ?_ (ST.trans S6)⟩
            rw [f1 (by rw [eb, decide_eq_false m, decide_eq_false z]; rfl)]
            rfl
      · rintro σ H3 ⟨y2, y3, y4, y5, rfl, hf, sm⟩
        refine q' _ _ ?_ sm
        have e : (toolsOf st).take ys.length = toolsOf st := by
          have : ys.length = (toolsOf st).length := by
            rw [hst.1, toolsOf, List.length_map]
          rw [this, List.take_length]
        rw [e] at hf
        unfold firstB
        rw [hf]
        rfl
    · exact ⟨_, rfl, x, o, rfl, hx, .inr ⟨ho, q⟩⟩
    · refine ⟨_, rfl, x, _, rfl, hx, .inl ⟨hg, fun H1 sm1 => ?_⟩⟩
      exact ⟨_, rfl, y, o, rfl, hy.same sm1, .inr ⟨ho, fun H2 sm2 => q H2 (sm1.trans sm2)⟩⟩
/-! ### the law's tools, rank, chest -/
def spTools : Sp := fun vs H Q _ => vs = [] ∧ ∀ l, H l = none → Q (.ref l) (upd H l (.lst (toolsN.map V.str)))
theorem scTo : FnScope [] [] (defScope sTools) := ⟨rfl, rfl, rfl, by decide +kernel, rfl, by decide +kernel, by decide +kernel⟩
theorem ok_tools {f : Addr} {fd : FuncData} (F : Fun K "_law_tools" "_law_tools" sTools f fd) : FnOk P w K mg base CX0 1 f fd [] spTools := by
  refine F.ok scTo (fun vs H Q E h => ?_) (fun cdv A outer s H vs Q E hr h => ?_)
  · obtain ⟨rfl, _⟩ := h
    rfl
  · obtain ⟨rfl, q⟩ := h
    refine ⟨_, pss_one (ps_ret (pe_lst (pa_cons pe_str (pa_cons pe_str (pa_cons pe_str (pa_cons pe_str (pa_cons pe_str (pa_cons pe_str (pa_cons pe_str (pa_cons pe_str (pa_cons pe_str pa_nil))))))))))), ?_⟩
    exact ⟨by show 9 ≤ sizeLine; decide, fun l nl => q l nl⟩
/-- the rank by other tools than the square -/
theorem rank_eq {c : Ch} (h : ∀ z ∈ c, z ∈ toolsN) (n : c.any (fun t => decide (t ∈ allN)) = false) : c.any (fun t => decide (t ∈ midN)) = c.any fun t => !decide (t = ("square" : Str)) := by
  rw [Bool.eq_iff_iff, List.any_eq_true, List.any_eq_true]
  have all : ∀ z ∈ toolsN, decide (z ∈ allN) = false → decide (z ∈ midN) = !decide (z = ("square" : Str)) := by decide +kernel
  have na : ∀ z ∈ c, decide (z ∈ allN) = false := fun z hz => by
    have := List.any_eq_false.mp n z hz
    simpa using this
  constructor
  · rintro ⟨z, hz, e⟩
    exact ⟨z, hz, by rw [← all z (h z hz) (na z hz)]; exact e⟩
  · rintro ⟨z, hz, e⟩
    exact ⟨z, hz, by rw [all z (h z hz) (na z hz)]; exact e⟩
def spRank (K : PySem.W.Frag) : Sp := fun vs H Q _ => ∃ (p : Addr) (c : Ch), vs = [.ref p] ∧ SqT K H p (c.map V.str) ∧ (∀ z ∈ c, z ∈ toolsN) ∧ c.length ≤ 60 ∧ ∀ H', Same H H' → Q (.int (rankC c : Nat)) H'
def rankN : List Str := ["chest", "great", "tool"]
theorem scRa : FnScope rankN ["chest"] (defScope sRank) := ⟨rfl, rfl, rfl, by decide +kernel, rfl, by decide +kernel, by decide +kernel⟩
theorem ok_rank {f : Addr} {fd : FuncData} (F : Fun K "_law_rank" "_law_rank" sRank f fd) (mint : mg "int" = none) : FnOk P w K mg base CX0 1 f fd ["chest"] (spRank K) := by
  refine F.ok scRa (fun vs H Q E h => ?_) (fun cdv A outer s H vs Q E hr h => ?_)
  · obtain ⟨p, c, rfl, _⟩ := h
    rfl
  · obtain ⟨p, c, rfl, hp, hsub, hl, q⟩ := h
    refine ⟨_, pss_cons (ps_setLc (i := 1) (own := [("tool", 2)]) (g := gName 2) rfl scRa.nd rfl rfl (sw_true rfl rfl rfl (by decide +kernel)) (pi_tup (pv 0))
        (blkOk_by (own := [("tool", 2)]) (N := rankN) (sc := defScope sRank) (by decide +kernel))
        (fun _ _ _ _ _ => pg_name (i := 2) scRa.nd rfl (.inl rfl))
        (fun _ _ _ _ _ => pts_one (pt_cmpR (show OpR _ (compareOp .In) (rIn K false) from op_in_seq) (pv 2) (pe_lst (pa_cons pe_str (pa_cons pe_str (pa_cons pe_str (pa_cons pe_str pa_nil))))) (by rfl)))
        (fun _ _ _ _ _ => pv 2))
      (pss_one (ps_ret (pe_ifExp (pt_cmpR (op_neD hr.units) (pv 1) (pe_lst pa_nil) (nomark _)) pe_int
        (pe_callTy call_int1 (by rfl) mint (by decide +kernel) (pa_cons (pe_cmpR (op_neD hr.units)
          (pe_lc (own := [("tool", 2)]) (g := gName 2) rfl scRa.nd (pi_tup (pv 0))
            (blkOk_by (own := [("tool", 2)]) (N := rankN) (sc := defScope sRank) (by decide +kernel))
            (fun _ _ _ _ _ => pg_name (i := 2) scRa.nd rfl (.inl rfl)) (fun _ _ _ _ _ => pts_one (pt_cmpR op_ne (pv 2) pe_str (nomark _))) (fun _ _ _ _ _ => pv 2)) (pe_lst pa_nil) (nomark _)) pa_nil))))), ?_⟩
    have q' : ∀ n H', rankC c = n → Same H H' → Q (.int (n : Nat)) H' := fun n H' e sm => e ▸ q H' sm
    have isStr : ∀ {i : Nat} {x : V}, (c.map V.str)[i]? = some x → ∃ z, x = V.str z ∧ c[i]? = some z := fun {i x} hx => by
      rw [List.getElem?_map] at hx
      cases g : c[i]? with
      | none => rw [g] at hx; cases hx
      | some z => rw [g] at hx; exact ⟨z, (Option.some.inj hx).symm, rfl⟩
    refine ⟨_, rfl, p, rfl, ⟨_, hp⟩, fun D nD => ?_⟩
    refine lc_it (walk_tup (K := K) (a := p) (xs := c.map V.str)) (fun i H1 => ∃ bs : List Str, H1 D = some (.lst (bs.map V.str)) ∧ bs = (c.take i).filter (fun z => decide (z ∈ allN)) ∧ Same H H1) ⟨[], upd_same, rfl, same_upd nD⟩ (fun i H1 _ ⟨_, _, _, sm⟩ => sqT_same hp sm) ?_ ?_
    · rintro i x H1 H2 hi ⟨bs, hD, hbs, sm⟩ ⟨rfl, hx⟩
      obtain ⟨z, rfl, hz⟩ := isStr hx
      have bl : bs.length ≤ 60 := by
        rw [hbs]
        refine Nat.le_trans (List.length_filter_le _ _) ?_
        rw [List.length_take]
        omega
      have step : (c.take (i + 1)).filter (fun z => decide (z ∈ allN)) = bs ++ (if z ∈ allN then [z] else []) := by
        rw [hbs, List.take_succ, List.filter_append, hz]
        by_cases e : z ∈ allN <;> simp [e]
      refine ⟨rfl, _, rfl, by show 4 ≤ sizeLine; decide, fun u nu => ?_⟩
      have su : Same H2 (upd H2 u (.lst (allN.map V.str))) := same_upd nu
      have hu : (upd H2 u (.lst (allN.map V.str))) u = some (.lst (allN.map V.str)) := upd_same
      refine ⟨u, allN.map V.str, rfl, .inl (.inl (.inl hu)), rfl, strs_flat _, _, rfl, ?_⟩
      rw [inV_kn]
      by_cases e : z ∈ allN
      · refine iteT2 (decide_eq_true e) ⟨_, rfl, _, su _ _ hD, ?_, bs ++ [z], by rw [upd_same, List.map_append]; rfl, ?_, same_put (sm.trans su) nD⟩
        · rw [List.length_map]
          exact small1000 (by omega)
        · rw [step, if_pos e]
      · refine iteF2 (decide_eq_false e) ⟨bs, su _ _ hD, ?_, sm.trans su⟩
        rw [step, if_neg e, List.append_nil]
    · rintro H1 ⟨bs, hD, hbs, sm⟩
      rw [List.length_map, List.take_length] at hbs
      refine ⟨_, rfl, Nat.zero_le _, fun t nt => ?_⟩
      have St : Same H1 (upd H1 t (.lst [])) := same_upd nt
      have bok : ∀ x ∈ bs, PyData.strOk x = true := fun x hx => by
        rw [hbs] at hx
        exact (tools_ok x (hsub x (List.mem_filter.mp hx).1)).1
      refine ⟨_, _, dp_strs (.inl (.inl (St _ _ hD))), dp_nil upd_same, shaped_strs bok, shaped_nil, _, rfl, ?_⟩
      rw [eqv_nil]
      have e0 : bs.isEmpty = !c.any fun t => decide (t ∈ allN) := by
        rw [hbs, none_left]
      rw [e0, Bool.not_not]
      cases e : c.any fun t => decide (t ∈ allN) with
      | true =>
        refine iteT2 rfl ?_
        refine q' 2 _ ?_ (sm.trans St)
        unfold rankC
        rw [e]
        rfl
      | false =>
        refine iteF2 rfl ?_
        have S1 := sm.trans St
        refine ⟨_, rfl, p, rfl, ⟨_, sqT_same hp S1⟩, fun D2 nD2 => ?_⟩
        generalize upd H1 t (.lst []) = Ha at S1 nD2
        have nD0 : H D2 = none := PySem.Spec.same_none S1 nD2
        refine lc_it (walk_tup (K := K) (a := p) (xs := c.map V.str)) (fun i H1 => ∃ bs : List Str, H1 D2 = some (.lst (bs.map V.str)) ∧ bs = (c.take i).filter (fun z => !decide (z = ("square" : Str))) ∧ Same H H1) ⟨[], upd_same, rfl, same_put S1 nD0⟩ (fun i H1 _ ⟨_, _, _, sm⟩ => sqT_same hp sm) ?_ ?_
        · rintro i x H1 H2 hi ⟨bs, hD, hbs, sm⟩ ⟨rfl, hx⟩
          obtain ⟨z, rfl, hz⟩ := isStr hx
          have bl : bs.length ≤ 60 := by
            rw [hbs]
            refine Nat.le_trans (List.length_filter_le _ _) ?_
            rw [List.length_take]
            omega
          have step : (c.take (i + 1)).filter (fun z => !decide (z = ("square" : Str))) = bs ++ (if z = ("square" : Str) then [] else [z]) := by
            rw [hbs, List.take_succ, List.filter_append, hz]
            by_cases e : z = ("square" : Str) <;> simp [e]
          refine ⟨rfl, _, rfl, rfl, _, rfl, ?_⟩
          show if (!decide (V.str z = V.str "square")) = true then _ else _
          by_cases e : z = ("square" : Str)
          · refine iteF2 (by rw [e]; simp) ⟨bs, hD, ?_, sm⟩
            rw [step, if_pos e, List.append_nil]
          · refine iteT2 (by simp [e]) ⟨_, rfl, _, hD, ?_, bs ++ [z], by rw [upd_same, List.map_append]; rfl, ?_, same_put sm nD0⟩
            · rw [List.length_map]
              exact small1000 (by omega)
            · rw [step, if_neg e]
        · rintro H2 ⟨ds, hD2, hds, sm2⟩
          rw [List.length_map, List.take_length] at hds
          refine ⟨Nat.zero_le _, fun t2 nt2 => ?_⟩
          have St2 : Same H2 (upd H2 t2 (.lst [])) := same_upd nt2
          have dok : ∀ x ∈ ds, PyData.strOk x = true := fun x hx => by
            rw [hds] at hx
            exact (tools_ok x (hsub x (List.mem_filter.mp hx).1)).1
          refine ⟨_, _, dp_strs (.inl (.inl (St2 _ _ hD2))), dp_nil upd_same, shaped_strs dok, shaped_nil, ?_⟩
          rw [eqv_nil]
          have e1 : ds.isEmpty = !c.any fun t => decide (t ∈ midN) := by
            rw [hds, none_left, rank_eq hsub e]
          rw [e1, Bool.not_not]
          refine .inr ⟨_, rfl, ?_⟩
          have rk : rankC c = if c.any (fun t => decide (t ∈ midN)) = true then 1 else 0 := by
            unfold rankC
            rw [e]
            rfl
          cases e3 : c.any fun t => decide (t ∈ midN) with
          | true =>
            refine q' 1 _ ?_ (sm2.trans St2)
            rw [rk, e3]
            rfl
          | false =>
            refine q' 0 _ ?_ (sm2.trans St2)
            rw [rk, e3]
            rfl
end
end Y36

set_option Elab.async false
set_option linter.all false
set_option maxRecDepth 100000
set_option maxHeartbeats 4000000
/-! Drawn chests, and values that are none. -/
namespace Y37
open PySem PySem.Spec PyProof.Rows L2 Cau Dr15 Y1 Y2 Y3 Y4 Y5 Y6 Y7 Y8 Y10 Y12 Y13 Y18 Y25 Y30 Y31 Y32 Y33 Y34 Y35 Y36
theorem sub_filter {s l : List Str} (h : s.Sublist l) (n : l.Nodup) : l.filter (fun t => decide (t ∈ s)) = s := by
  induction h with
  | slnil => rfl
  | @cons s l a h ih =>
    obtain ⟨na, nl⟩ := List.nodup_cons.mp n
    rw [List.filter_cons, decide_eq_false fun hs => na (h.subset hs)]
    exact ih nl
  | @cons_cons s l a h ih =>
    obtain ⟨na, nl⟩ := List.nodup_cons.mp n
    rw [List.filter_cons, decide_eq_true (show a ∈ a :: s from List.mem_cons_self)]
    have e : l.filter (fun t => decide (t ∈ a :: s)) = l.filter (fun t => decide (t ∈ s)) := List.filter_congr fun x hx => by
      rw [decide_eq_decide]
      refine ⟨fun q => (List.mem_cons.mp q).resolve_left fun z => na (z ▸ hx), List.mem_cons_of_mem _⟩
    rw [if_pos rfl, e, ih nl]
theorem sub_chest {c : Ch} (h : c.Sublist toolsN) : chestS c = true := decide_eq_true (sub_filter h tools_nodup).symm
def spChestD : Sp := fun vs H Q _ => ∃ (a w c : Addr) (T : Nat), vs = [.ref a] ∧ St H a w c T ∧ T + 20 ≤ 1000000 ∧
  ∀ (H' : Hp) (p : Addr) (ch : Ch), chestS ch = true → H' p = some (.tup (ch.map V.str)) → Kept a w H H' → St H' a w c (T + 20) → (p ≠ a ∧ p ≠ w ∧ p ≠ c) → Q (.ref p) H'
def spOddC (K : PySem.W.Frag) : Sp := fun vs H Q _ => ∃ (a w c p : Addr) (T : Nat) (ch : Ch), vs = [.ref a, .ref p] ∧ St H a w c T ∧ T + 1 ≤ 1000000 ∧ ChT K H p ch ∧
  ∀ (H' : Hp) (x : V) (o : Option (List V)), Cd K H' x o → chestO o = false → Kept a w H H' → St H' a w c (T + 1) → Q x H'
section
variable {P : Program} {w : World} {K : PySem.W.Frag} {mg : Str → Option Value} {base : Heap}
def chN : List Str := ["state", "most", "tool"]
theorem scCh : FnScope chN ["state"] (defScope sChest) := ⟨rfl, rfl, rfl, by decide +kernel, rfl, by decide +kernel, by decide +kernel⟩
theorem ok_chestD {f fD fT : Addr} {fd fdD fdT : FuncData} (F : Fun K "_law_chest" "_law_chest" sChest f fd)
    (FD : Fun K "_law_draw" "_law_draw" sDraw fD fdD) (GD : FnOk P w K mg base CX0 2 fD fdD ["state", "room"] spDraw) (bD : Binds K fdD ["state", "room"] []) (gD : mg "_law_draw" = some (.ref fD))
    (FT : Fun K "_law_tools" "_law_tools" sTools fT fdT) (GT : FnOk P w K mg base CX0 1 fT fdT [] spTools) (bT : Binds K fdT [] []) (gT : mg "_law_tools" = some (.ref fT)) (mt : mg "tuple" = none) : FnOk P w K mg base CX0 3 f fd ["state"] spChestD := by
  refine F.ok scCh (fun vs H Q E h => ?_) (fun cdv A outer s H vs Q E hr h => ?_)
  · obtain ⟨a, w, c, T, rfl, _⟩ := h
    rfl
  · obtain ⟨a, w, c, T, rfl, hSt, hT, q⟩ := h
    have hr1 : Room 1 _ := hr.mono (by decide)
    refine ⟨_, pss_cons (ps_set (i := 1) scCh.nd rfl (.inr rfl) (pe_op op_add pe_int (pe_call GD hr (by rfl) gD FD.kp bD .nil pass0 (pa_cons (pv 0) (pa_cons pe_int pa_nil)))))
      (pss_one (ps_ret (pe_callTy call_tuple_of (by rfl) mt (by decide +kernel) (pa_cons
        (pe_lc (own := [("tool", 2)]) (g := gName 2) rfl scCh.nd (pi_list (pe_call0 GT hr1 (by rfl) gT FT.kp bT .nil pass0))
          (blkOk_by (own := [("tool", 2)]) (N := chN) (sc := defScope sChest) (by decide +kernel))
          (fun _ _ _ _ _ => pg_name (i := 2) scCh.nd rfl (.inl rfl))
          (fun _ _ _ _ _ => pts_one (pt_cmpR op_eq (pe_call GD (hr.mono (by decide)) (by rfl) gD FD.kp bD .nil pass0 (pa_cons (pv 0) (pa_cons (pv 1) pa_nil))) pe_int (nomark _)))
          (fun _ _ _ _ _ => pv 2)) pa_nil)))), ?_⟩
    refine ⟨_, rfl, a, w, c, T, 5, rfl, hSt, by omega, by decide, pow1000 (n := 5) (by decide), fun H1 d d0 d1 k1 s1 => ?_⟩
    refine ⟨1, d, rfl, rfl, rfl, fun l nl => ?_⟩
    have ol := St.off s1 nl
    have s2 : St (upd H1 l (.lst (toolsN.map V.str))) a w c (T + 1) := St.put s1 ol
    have hl : (upd H1 l (.lst (toolsN.map V.str))) l = some (.lst (toolsN.map V.str)) := upd_same
    have k2 : Kept a w H (upd H1 l (.lst (toolsN.map V.str))) := Kept.put k1 (kept_none k1 nl ⟨ol.1, ol.2.1⟩)
    generalize upd H1 l (.lst (toolsN.map V.str)) = H2 at s2 hl k2
    refine ⟨l, rfl, ⟨_, .inl (.inl hl)⟩, fun D nD => ?_⟩
    have oD := St.off s2 nD
    have lD : l ≠ D := ne_of_none hl nD
    have nD0 : H D = none := kept_none k2 nD ⟨oD.1, oD.2.1⟩
    refine lc_list (K := K) (a := l) (xs := toolsN.map V.str) (fun i H' => ∃ bs : List Str, H' D = some (.lst (bs.map V.str)) ∧ bs.Sublist (toolsN.take i) ∧ H' l = some (.lst (toolsN.map V.str)) ∧ Kept a w H H' ∧ St H' a w c (T + 1 + i))
      ⟨[], upd_same, List.Sublist.refl _, (upd_ne lD).trans hl, Kept.put k2 nD0, St.put s2 oD⟩ (fun i H' _ ⟨_, _, _, hl', _⟩ => .inl (.inl hl')) ?_ ?_
    · rintro i x H3 hx ⟨bs, hD, hbs, hl3, k3, s3⟩
      obtain ⟨z, rfl, hz⟩ : ∃ z, x = V.str z ∧ toolsN[i]? = some z := by
        rw [List.getElem?_map] at hx
        cases g : toolsN[i]? with
        | none => rw [g] at hx; cases hx
        | some z => rw [g] at hx; exact ⟨z, (Option.some.inj hx).symm, rfl⟩
      have hi : i < 9 := (List.getElem?_eq_some_iff.mp hz).1
      have bl : bs.length ≤ 9 := by
        have := hbs.length_le
        rw [List.length_take] at this
        omega
      have tk : toolsN.take (i + 1) = toolsN.take i ++ [z] := by
        rw [List.take_succ, hz]
        rfl
      refine ⟨rfl, _, rfl, _, rfl, a, w, c, T + 1 + i, _, rfl, s3, by omega, by omega, ?_, fun H4 d' e0 e1 k4 s4 => ?_⟩
      · obtain ⟨n, hn⟩ : ∃ n : Nat, 1 + d = (n : Int) := ⟨(1 + d).toNat, by omega⟩
        rw [hn]
        exact pow1000 (by omega)
      have hD4 := k4 _ _ hD oD.1 oD.2.1
      have hl4 := k4 _ _ hl3 ol.1 ol.2.1
      refine ⟨rfl, _, rfl, ?_⟩
      refine ite2 (fun _ => ?_) (fun _ => ?_)
      · refine ⟨_, rfl, _, hD4, ?_, bs ++ [z], by rw [upd_same, List.map_append]; rfl, ?_, (upd_ne lD).trans hl4, Kept.put (k3.trans k4) nD0, St.put s4 oD⟩
        · rw [List.length_map]
          exact small1000 (by omega)
        · rw [tk]
          exact hbs.append (List.Sublist.refl _)
      · exact ⟨bs, hD4, by rw [tk]; exact hbs.trans (List.sublist_append_left _ _), hl4, k3.trans k4, s4⟩
    · rintro H3 ⟨bs, hD, hbs, hl3, k3, s3⟩
      refine ⟨D, _, rfl, .inl ⟨.inl (.inl hD), fun p np => ?_⟩⟩
      have op := St.off s3 np
      refine q _ p bs (sub_chest (hbs.trans (List.take_sublist _ _))) upd_same (Kept.put k3 (kept_none k3 np ⟨op.1, op.2.1⟩)) (St.mono (St.put s3 op) ?_) op
      show T + 1 + (toolsN.map V.str).length ≤ T + 20
      have : (toolsN.map V.str).length = 9 := rfl
      omega
/-! ### values that are no chests -/
theorem Cd.kept {a w c : Addr} {T T' : Nat} {H H' : Hp} {x : V} {o : Option (List V)} (h : Cd K H x o) (s : St H a w c T) (s' : St H' a w c T') (k : Kept a w H H') : Cd K H' x o := by
  rcases h with ⟨p, xs, e, h, r⟩ | ⟨h, r⟩
  · exact .inl ⟨p, xs, e, TK.kept s k _ _ h, r⟩
  · exact .inr ⟨NotTup.kept h s s' k, r⟩
theorem cd_tup {H : Hp} {p : Addr} {xs : List V} (h : H p = some (.tup xs)) (a : xs.all AtomV = true) (l : xs.length ≤ 60) : Cd K H (.ref p) (some xs) := .inl ⟨p, xs, rfl, .inl (.inl h), a, l, rfl⟩
theorem odd_end {c : Ch} {v : V} (h : toolV v = false) : chestO (some (c.map V.str ++ [v])) = false := by
  show ((c.map V.str ++ [v]).all toolV && chestS ((c.map V.str ++ [v]).filterMap txtOf)) = false
  rw [List.all_append]
  simp [h]
def oddN : List Str := ["state", "chest", "odd"]
theorem scOd : FnScope oddN ["state", "chest"] (defScope sOdd) := ⟨rfl, rfl, rfl, by decide +kernel, rfl, by decide +kernel, by decide +kernel⟩
theorem ok_odd {f fP : Addr} {fd fdP : FuncData} (F : Fun K "_law_odd_chest" "_law_odd_chest" sOdd f fd)
    (FP : Fun K "_law_pick" "_law_pick" sPick fP fdP) (GP : FnOk P w K mg base CX0 3 fP fdP ["state", "some"] (spPick K)) (bP : Binds K fdP ["state", "some"] []) (gP : mg "_law_pick" = some (.ref fP)) (mli : mg "list" = none) : FnOk P w K mg base CX0 4 f fd ["state", "chest"] (spOddC K) := by
  refine F.ok scOd (fun vs H Q E h => ?_) (fun cdv A outer s H vs Q E hr h => ?_)
  · obtain ⟨a, w, c, p, T, ch, rfl, _⟩ := h
    rfl
  · obtain ⟨a, w, c, p, T, ch, rfl, hSt, hT, hc, q⟩ := h
    refine ⟨_, pss_cons (ps_set (i := 2) scOd.nd rfl (.inl rfl) (pe_lst
        (pa_cons pe_non (pa_cons pe_str (pa_cons (pe_callTy call_list_of (by rfl) mli (by decide +kernel) (pa_cons (pv 1) pa_nil))
        (pa_cons (pe_op op_catA (pv 1) (pe_tup (pa_cons pe_str pa_nil))) (pa_cons (pe_op op_catA (pv 1) (pe_tup (pa_cons pe_non pa_nil)))
        (pa_cons (pe_tup (pa_cons pe_str (pa_cons pe_str pa_nil))) (pa_cons (pe_tup (pa_cons pe_str (pa_cons pe_str pa_nil))) (pa_cons pe_dnewK
        (pa_cons (pe_tup (pa_cons pe_str pa_nil)) (pa_cons (pe_tup (pa_cons pe_int pa_nil)) pa_nil))))))))))))
      (pss_one (ps_ret (pe_call GP hr (by rfl) gP FP.kp bP .nil pass0 (pa_cons (pv 0) (pa_cons (pv 2) pa_nil))))), ?_⟩
    have c9 := chest_len hc.2
    have atoms : (ch.map V.str).all AtomV = true := by
      rw [List.all_map, List.all_eq_true]
      exact fun z hz => atom_tool (chest_sub hc.2 z hz)
    -- list(chest)
    refine ⟨_, rfl, p, _, rfl, .inr hc.1, fun l1 n1 => ?_⟩
    have S1 : Same H (upd H l1 (.lst (ch.map V.str))) := same_upd n1
    have h1 : (upd H l1 (.lst (ch.map V.str))) l1 = some (.lst (ch.map V.str)) := upd_same
    generalize upd H l1 (.lst (ch.map V.str)) = H1 at S1 h1
    refine ⟨_, rfl, by show 1 ≤ sizeLine; decide, fun u1 m1 => ?_⟩
    have T1 : Same H1 (upd H1 u1 (.tup [.str "zz"])) := same_upd m1
    have g1 : (upd H1 u1 (.tup [.str "zz"])) u1 = some (.tup [.str "zz"]) := upd_same
    generalize upd H1 u1 (.tup [.str "zz"]) = H2 at T1 g1
    have S2 := S1.trans T1
    have cat : ∀ (Hx : Hp) (u : Addr) (v : V) (R : VK), Same H Hx → Hx u = some (.tup [v]) → (∀ H' y, Same Hx H' → H' y = some (.tup (ch.map V.str ++ [v])) → R (.ref y) H') →
        rCatA K (.ref p) (.ref u) Hx R := fun Hx u v R sx hu r => by
      refine ⟨p, u, _, [v], rfl, rfl, sqT_same hc.1 sx, .inl (.inl hu), ?_, fun e => ?_, fun _ e => (by cases e), fun _ _ t nt => ?_⟩
      · rw [List.length_map]
        exact Nat.le_of_lt (small1000 (by simp; omega))
      · refine r Hx u same_rfl ?_
        rw [e]
        exact hu
      · exact r _ t (same_upd nt) upd_same
    refine cat H2 u1 _ _ S2 g1 fun H3 y1 T3 j1 => ?_
    have S3 := S2.trans T3
    refine ⟨_, rfl, by show 1 ≤ sizeLine; decide, fun u2 m2 => ?_⟩
    have T4 : Same H3 (upd H3 u2 (.tup [.non])) := same_upd m2
    have g2 : (upd H3 u2 (.tup [.non])) u2 = some (.tup [.non]) := upd_same
    generalize upd H3 u2 (.tup [.non]) = H4 at T4 g2
    refine cat H4 u2 _ _ (S3.trans T4) g2 fun H5 y2 T5 j2 => ?_
    have S5 := S3.trans (T4.trans T5)
    refine ⟨by show 2 ≤ sizeLine; decide, fun y3 n3 => ?_⟩
    have T6 : Same H5 (upd H5 y3 (.tup [.str "strip", .str "disc"])) := same_upd n3
    have j3 : (upd H5 y3 (.tup [.str "strip", .str "disc"])) y3 = some (.tup [.str "strip", .str "disc"]) := upd_same
    generalize upd H5 y3 (.tup [.str "strip", .str "disc"]) = H6 at T6 j3
    refine ⟨by show 2 ≤ sizeLine; decide, fun y4 n4 => ?_⟩
    have T7 : Same H6 (upd H6 y4 (.tup [.str "disc", .str "disc"])) := same_upd n4
    have j4 : (upd H6 y4 (.tup [.str "disc", .str "disc"])) y4 = some (.tup [.str "disc", .str "disc"]) := upd_same
    generalize upd H6 y4 (.tup [.str "disc", .str "disc"]) = H7 at T7 j4
    intro y5 n5
    have T8 : Same H7 (upd H7 y5 (.dK [])) := same_upd n5
    have j5 : (upd H7 y5 (.dK [])) y5 = some (.dK []) := upd_same
    generalize upd H7 y5 (.dK []) = H8 at T8 j5
    refine ⟨by show 1 ≤ sizeLine; decide, fun y6 n6 => ?_⟩
    have T9 : Same H8 (upd H8 y6 (.tup [.str ""])) := same_upd n6
    have j6 : (upd H8 y6 (.tup [.str ""])) y6 = some (.tup [.str ""]) := upd_same
    generalize upd H8 y6 (.tup [.str ""]) = H9 at T9 j6
    refine ⟨by show 1 ≤ sizeLine; decide, fun y7 n7 => ?_⟩
    have T10 : Same H9 (upd H9 y7 (.tup [.int 5])) := same_upd n7
    have j7 : (upd H9 y7 (.tup [.int 5])) y7 = some (.tup [.int 5]) := upd_same
    generalize upd H9 y7 (.tup [.int 5]) = H10 at T10 j7
    refine ⟨by show 10 ≤ sizeLine; decide, fun L nL => ?_⟩
    have T11 : Same H10 (upd H10 L (.lst [.non, .str "disc", .ref l1, .ref y1, .ref y2, .ref y3, .ref y4, .ref y5, .ref y6, .ref y7])) := same_upd nL
    have jL : (upd H10 L (.lst [.non, .str "disc", .ref l1, .ref y1, .ref y2, .ref y3, .ref y4, .ref y5, .ref y6, .ref y7])) L = some (.lst [.non, .str "disc", .ref l1, .ref y1, .ref y2, .ref y3, .ref y4, .ref y5, .ref y6, .ref y7]) := upd_same
    have S10 : Same H H10 := S5.trans (T6.trans (T7.trans (T8.trans (T9.trans T10))))
    have oL := St.off (St.same hSt S10) nL
    generalize upd H10 L (.lst [.non, .str "disc", .ref l1, .ref y1, .ref y2, .ref y3, .ref y4, .ref y5, .ref y6, .ref y7]) = H11 at T11 jL
    have S11 : Same H H11 := S10.trans T11
    have s11 := St.same hSt S11
    have A7 : Same H7 H11 := T8.trans (T9.trans (T10.trans T11))
    have A5 : Same H5 H11 := T6.trans (T7.trans A7)
    have A3 : Same H3 H11 := T4.trans (T5.trans A5)
    have A1 : Same H1 H11 := T1.trans (T3.trans A3)
    refine ⟨_, rfl, _, rfl, a, w, c, L, T, _, rfl, s11, by omega, .inl (.inl jL), oL.1, oL.2.1, by show 0 < 10; decide, by show 10 ≤ 1000; decide, fun H' x hx k' s' => ?_⟩
    have lenA : (ch.map V.str ++ [V.str "zz"]).length ≤ 60 ∧ (ch.map V.str ++ [V.non]).length ≤ 60 := by
      simp
      omega
    have fin : ∀ o, Cd K H11 x o → chestO o = false → Q x H' := fun o h e => q H' x o (Cd.kept h s11 s' k') e ((Kept.of S11).trans k') s'
    simp only [List.mem_cons, List.not_mem_nil, or_false] at hx
    rcases hx with rfl | rfl | rfl | rfl | rfl | rfl | rfl | rfl | rfl | rfl
    · exact fin none (.inr ⟨.atom rfl, rfl⟩) rfl
    · exact fin none (.inr ⟨.atom (by decide +kernel), rfl⟩) rfl
    · exact fin none (.inr ⟨.lst (A1 _ _ h1), rfl⟩) rfl
    · refine fin _ (cd_tup (A3 _ _ j1) ?_ lenA.1) (odd_end (by decide +kernel))
      rw [List.all_append, atoms]
      decide +kernel
    · refine fin _ (cd_tup (A5 _ _ j2) ?_ lenA.2) (odd_end (by decide +kernel))
      rw [List.all_append, atoms]
      rfl
    · exact fin _ (cd_tup ((T7.trans A7) _ _ j3) (by decide +kernel) (by decide)) (by decide +kernel)
    · exact fin _ (cd_tup (A7 _ _ j4) (by decide +kernel) (by decide)) (by decide +kernel)
    · exact fin none (.inr ⟨.dK ((T9.trans (T10.trans T11)) _ _ j5), rfl⟩) rfl
    · exact fin _ (cd_tup ((T10.trans T11) _ _ j6) (by decide +kernel) (by decide)) (by decide +kernel)
    · exact fin _ (cd_tup (T11 _ _ j7) (by decide +kernel) (by decide)) (by decide +kernel)
end
end Y37

set_option Elab.async false
set_option linter.all false
set_option maxRecDepth 100000
set_option maxHeartbeats 4000000
/-! The law's lots: what they hold behind each tool. -/
namespace Y38
open PySem PySem.Spec PyProof.Rows L2 Cau Dr15 Y1 Y30 Y31 Y32 Y33 Y34 Y35
abbrev Lots := Nat → List Ch
/-- those of a rank, one tool more -/
def gain (t : Str) (cs : List Ch) (n : Nat) : List Ch := (more t cs).filter fun c => decide (rankC c = n)
def stepR (t : Str) (L : Lots) (r : Nat) : Lots := fun n => L n ++ gain t (L r) n
def midL (t : Str) (L : Lots) : Nat → Lots
  | 0 => L
  | k + 1 => stepR t (midL t L k) (2 - k)
def lots0 : Lots := fun n => if n = 0 then [[]] else []
def outL : Nat → Lots
  | 0 => lots0
  | k + 1 => midL (toolsN.getD k "") (outL k) 3
theorem rank_more (c : Ch) (t : Str) : rankC c ≤ rankC (c ++ [t]) := by
  unfold rankC
  rw [List.any_append, List.any_append]
  by_cases h1 : c.any (fun t => decide (t ∈ allN)) = true
  · rw [h1]
    simp
  · rw [if_neg h1]
    by_cases h2 : c.any (fun t => decide (t ∈ midN)) = true
    · rw [if_pos h2, h2]
      simp only [Bool.true_or, if_true]
      split <;> omega
    · rw [if_neg h2]
      exact Nat.zero_le _
theorem gain_none {t : Str} {cs : List Ch} {r n : Nat} (h : ∀ c ∈ cs, rankC c = r) (l : n < r) : gain t cs n = [] := by
  unfold gain
  rw [List.filter_eq_nil_iff]
  intro c hc
  obtain ⟨d, hd, rfl⟩ := List.mem_map.mp hc
  have h1 := h d hd
  have h2 := rank_more d t
  simp only [decide_eq_true_eq]
  omega
/-- behind the ranks -/
theorem mid_three (t : Str) (L : Lots) (h : ∀ r ≤ 2, ∀ c ∈ L r, rankC c = r) (n : Nat) : midL t L 3 n = ((L n ++ gain t (L 2) n) ++ gain t (L 1) n) ++ gain t (L 0) n := by
  have e1 : midL t L 1 1 = L 1 := by
    show L 1 ++ gain t (L 2) 1 = L 1
    rw [gain_none (h 2 (by omega)) (by omega), List.append_nil]
  have e0 : midL t L 1 0 = L 0 := by
    show L 0 ++ gain t (L 2) 0 = L 0
    rw [gain_none (h 2 (by omega)) (by omega), List.append_nil]
  have e2 : midL t L 2 0 = L 0 := by
    show midL t L 1 0 ++ gain t (midL t L 1 1) 0 = L 0
    rw [e1, e0, gain_none (h 1 (by omega)) (by omega), List.append_nil]
  show (midL t L 2 n) ++ gain t (midL t L 2 0) n = _
  rw [e2]
  show (midL t L 1 n ++ gain t (midL t L 1 1) n) ++ _ = _
  rw [e1]
  rfl
theorem filter_three {α : Type} (f : α → Nat) (h : ∀ x, f x ≤ 2) : ∀ xs : List α, ((xs.filter fun x => decide (f x = 2)) ++ (xs.filter fun x => decide (f x = 1)) ++ xs.filter fun x => decide (f x = 0)).Perm xs
  | [] => List.Perm.refl _
  | x :: r => by
    have ih := filter_three f h r
    have hx := h x
    have : f x = 0 ∨ f x = 1 ∨ f x = 2 := by omega
    rcases this with e | e | e
    · have e2 : decide (f x = 2) = false := by rw [e]; rfl
      have e1 : decide (f x = 1) = false := by rw [e]; rfl
      have e0 : decide (f x = 0) = true := by rw [e]; rfl
      rw [List.filter_cons, List.filter_cons, List.filter_cons, e2, e1, e0, if_neg Bool.false_ne_true, if_neg Bool.false_ne_true, if_pos rfl]
      exact (List.perm_middle).trans (ih.cons x)
    · have e2 : decide (f x = 2) = false := by rw [e]; rfl
      have e1 : decide (f x = 1) = true := by rw [e]; rfl
      have e0 : decide (f x = 0) = false := by rw [e]; rfl
      rw [List.filter_cons, List.filter_cons, List.filter_cons, e2, e1, e0, if_neg Bool.false_ne_true, if_pos rfl, if_neg Bool.false_ne_true]
      exact (List.perm_middle.append_right _).trans (ih.cons x)
    · have e2 : decide (f x = 2) = true := by rw [e]; rfl
      have e1 : decide (f x = 1) = false := by rw [e]; rfl
      have e0 : decide (f x = 0) = false := by rw [e]; rfl
      rw [List.filter_cons, List.filter_cons, List.filter_cons, e2, e1, e0, if_pos rfl, if_neg Bool.false_ne_true, if_neg Bool.false_ne_true]
      exact ih.cons x
theorem gain_perm {t : Str} {xs ys : List Ch} (p : xs.Perm ys) (n : Nat) : (gain t xs n).Perm (gain t ys n) := (p.map _).filter _
theorem gain_append (t : Str) (xs ys : List Ch) (n : Nat) : gain t (xs ++ ys) n = gain t xs n ++ gain t ys n := by
  unfold gain more
  rw [List.map_append, List.filter_append]
/-- behind some tools -/
theorem out_perm : ∀ k, k ≤ 9 → ∀ n, n ≤ 2 → (outL k n).Perm ((firstC k).filter fun c => decide (rankC c = n)) := by
  intro k
  induction k with
  | zero =>
    intro _ n hn
    have e : firstC 0 = [[]] := rfl
    rw [e]
    match n, hn with
    | 0, _ => exact List.Perm.refl _
    | 1, _ => exact List.Perm.refl _
    | 2, _ => exact List.Perm.refl _
  | succ k ih =>
    intro hk n hn
    have hk' : k < toolsN.length := by
      show k < 9
      omega
    have ht : toolsN[k]? = some (toolsN.getD k "") := by
      rw [List.getD_eq_getElem?_getD, List.getElem?_eq_getElem hk']
      rfl
    have ih' := ih (by omega)
    have hr : ∀ r ≤ 2, ∀ c ∈ outL k r, rankC c = r := fun r h c hc => by
      have := (List.mem_filter.mp ((ih' r h).mem_iff.mp hc)).2
      exact of_decide_eq_true this
    show (midL (toolsN.getD k "") (outL k) 3 n).Perm _
    rw [mid_three _ _ hr, take_snoc ht, List.filter_append]
    generalize toolsN.getD k "" = t
    have p3 : (outL k 2 ++ outL k 1 ++ outL k 0).Perm (firstC k) :=
      ((((ih' 2 (by omega)).append (ih' 1 (by omega))).append (ih' 0 (by omega)))).trans (filter_three rankC rank_le (firstC k))
    have p4 := gain_perm (t := t) p3 n
    rw [gain_append, gain_append] at p4
    rw [List.append_assoc, List.append_assoc]
    refine (ih' n hn).append ?_
    rw [← List.append_assoc]
    exact p4
theorem out_rank {k r : Nat} (hk : k ≤ 9) (h : r ≤ 2) {c : Ch} (hc : c ∈ outL k r) : rankC c = r ∧ c ∈ firstC k := by
  have := List.mem_filter.mp ((out_perm k hk r h).mem_iff.mp hc)
  exact ⟨of_decide_eq_true this.2, this.1⟩
theorem out_len {k r : Nat} (hk : k ≤ 9) (h : r ≤ 2) : (outL k r).length ≤ 512 := by
  rw [(out_perm k hk r h).length_eq]
  refine Nat.le_trans (List.length_filter_le _ _) (Nat.le_trans (upTo_len k) ?_)
  exact Nat.le_trans (Nat.pow_le_pow_right (by decide) hk) (by decide)
theorem out_nine {r : Nat} (h : r ≤ 2) : (outL 9 r).Perm (withR r) := out_perm 9 (by omega) r h
theorem out_head : ∀ k, ∃ t, outL k 0 = [] :: t
  | 0 => ⟨[], rfl⟩
  | k + 1 => by
    obtain ⟨t, h⟩ := out_head k
    generalize ht : toolsN.getD k "" = z
    have e : outL (k + 1) 0 = ((outL k 0 ++ gain z (outL k 2) 0) ++ gain z (midL z (outL k) 1 1) 0) ++ gain z (midL z (outL k) 2 0) 0 := by
      show midL (toolsN.getD k "") (outL k) 3 0 = _
      rw [ht]
      rfl
    rw [e, h]
    exact ⟨_, rfl⟩
theorem mid_len (t : Str) (L : Lots) (M : Nat) (h : ∀ r ≤ 2, (L r).length ≤ M) : ∀ k ≤ 3, ∀ r ≤ 2, (midL t L k r).length ≤ 2 ^ k * M
  | 0, _, r, hr => by
    show (L r).length ≤ _
    have := h r hr
    omega
  | k + 1, hk, r, hr => by
    have h1 := mid_len t L M h k (by omega) r hr
    have h2 := mid_len t L M h k (by omega) (2 - k) (by omega)
    show (midL t L k r ++ gain t (midL t L k (2 - k)) r).length ≤ _
    have h3 : (gain t (midL t L k (2 - k)) r).length ≤ (midL t L k (2 - k)).length := by
      unfold gain more
      refine Nat.le_trans (List.length_filter_le _ _) ?_
      rw [List.length_map]
      exact Nat.le_refl _
    rw [List.length_append, Nat.pow_succ]
    have : 2 ^ k * 2 * M = 2 ^ k * M + 2 ^ k * M := by rw [Nat.mul_comm (2 ^ k) 2, Nat.mul_assoc]; omega
    omega
/-- what the ranks that are to come hold yet -/
theorem mid_low (t : Str) (L : Lots) (h : ∀ r ≤ 2, ∀ c ∈ L r, rankC c = r) : midL t L 0 2 = L 2 ∧ midL t L 1 1 = L 1 ∧ midL t L 2 0 = L 0 := by
  have e1 : midL t L 1 1 = L 1 := by
    show L 1 ++ gain t (L 2) 1 = L 1
    rw [gain_none (h 2 (by omega)) (by omega), List.append_nil]
  have e0 : midL t L 1 0 = L 0 := by
    show L 0 ++ gain t (L 2) 0 = L 0
    rw [gain_none (h 2 (by omega)) (by omega), List.append_nil]
  refine ⟨rfl, e1, ?_⟩
  show midL t L 1 0 ++ gain t (midL t L 1 1) 0 = L 0
  rw [e1, e0, gain_none (h 1 (by omega)) (by omega), List.append_nil]
theorem low_of (t : Str) (L : Lots) (h : ∀ r ≤ 2, ∀ c ∈ L r, rankC c = r) {k : Nat} (hk : k < 3) : midL t L k (2 - k) = L (2 - k) := by
  obtain ⟨h0, h1, h2⟩ := mid_low t L h
  match k, hk with
  | 0, _ => exact h0
  | 1, _ => exact h1
  | 2, _ => exact h2
/-- the last tool of a chest is ahead of the next one -/
theorem last_less {k : Nat} {t : Str} (ht : toolsN[k]? = some t) : ∀ z ∈ toolsN.take k, decide (z.cps.toList < t.cps.toList) = true := by
  have all : ∀ k < 9, ∀ z ∈ toolsN.take k, decide (z.cps.toList < (toolsN.getD k "").cps.toList) = true := by decide +kernel
  have hk : k < 9 := (List.getElem?_eq_some_iff.mp ht).1
  have e : toolsN.getD k "" = t := by
    rw [List.getD_eq_getElem?_getD, ht]
    rfl
  intro z hz
  have := all k hk z hz
  rwa [e] at this
theorem srt_perm {xs ys : List Ch} (p : xs.Perm ys) : srtC xs = srtC ys :=
  one_order leC_anti (PySem.W.sort_pairwise srt_total _) (PySem.W.sort_pairwise srt_total _) ((List.mergeSort_perm _ _).trans (p.trans (List.mergeSort_perm _ _).symm))
/-! ### lists of chests as data -/
theorem canLay_tups : ∀ cs : List Ch, (∀ c ∈ cs, ∀ z ∈ c, PyData.strOk z = true) → PyData.canLayAll0 (cs.map tupD) = true
  | [], _ => by simp [PyData.canLayAll0]
  | c :: r, h => by
    have h1 : (tupD c).canLay0 = true := Y25.canLay_tup (h c List.mem_cons_self)
    have h2 := canLay_tups r fun d hd => h d (List.mem_cons_of_mem _ hd)
    simp only [List.map_cons, PyData.canLayAll0, Bool.and_eq_true]
    exact ⟨h1, h2⟩
theorem depth_tups : ∀ cs : List Ch, PyData.depthAll (cs.map tupD) ≤ 1
  | [] => by simp [PyData.depthAll]
  | c :: r => by
    have h1 := depth_tup c
    have h2 := depth_tups r
    simp only [List.map_cons, PyData.depthAll]
    omega
theorem shaped_tups {cs : List Ch} (h : ∀ c ∈ cs, ∀ z ∈ c, PyData.strOk z = true) : SeqAt.shaped (.list (cs.map tupD)) = true := by
  unfold SeqAt.shaped
  have e := canLay_tups cs h
  have d := depth_tups cs
  have d2 : (PyData.list (cs.map tupD)).depth ≤ 64 := by
    rw [PyData.depth]
    omega
  rw [Bool.and_eq_true, decide_eq_true_eq]
  exact ⟨by simpa [PyData.canLay0] using e, d2⟩
theorem refl_tups {cs : List Ch} (h : ∀ c ∈ cs, ∀ z ∈ c, PyData.strOk z = true) : PyData.eqv (.list (cs.map tupD)) (.list (cs.map tupD)) = true :=
  SeqAt.eqv_refl _ (by have := canLay_tups cs h; simpa [PyData.canLay0] using this)
theorem dp_pl {K : PySem.W.Frag} {H : Hp} : ∀ {bs : List Pr}, PL K H bs → DpAll K H (bs.map (·.1)) ((bs.map (·.2)).map tupD)
  | [], _ => .nil
  | b :: r, h => .cons (h.dp b List.mem_cons_self).1 (dp_pl fun d hd => h d (List.mem_cons_of_mem _ hd))
theorem dp_chests {K : PySem.W.Frag} {H : Hp} {l : Addr} {bs : List Pr} (hl : H l = some (.lst (bs.map (·.1)))) (h : PL K H bs) : Dp K H (.ref l) (.list ((bs.map (·.2)).map tupD)) := .lst (.inl (.inl hl)) (dp_pl h)
theorem with_ok {r : Nat} : ∀ c ∈ withR r, ∀ z ∈ c, PyData.strOk z = true := fun c hc z hz => (tools_ok z (all_sub c (List.mem_filter.mp hc).1 z hz)).1
theorem srt_ok' {r : Nat} : ∀ c ∈ srtC (withR r), ∀ z ∈ c, PyData.strOk z = true := fun c hc => with_ok c ((List.mergeSort_perm _ _).mem_iff.mp hc)
theorem lst_oks {r : Nat} (h : r ≤ 2) : ∀ c ∈ lstR r, ∀ z ∈ c, PyData.strOk z = true := by
  match r, h with
  | 0, _ => decide +kernel
  | 1, _ => decide +kernel
  | 2, _ => decide +kernel
end Y38

set_option Elab.async false
set_option linter.all false
set_option maxRecDepth 100000
set_option maxHeartbeats 4000000
/-! The heap of the law's lots. -/
namespace Y39
open PySem PySem.Spec PyProof.Rows L2 Cau Dr15 Y1 Y2 Y3 Y4 Y5 Y6 Y7 Y8 Y10 Y12 Y13 Y18 Y21 Y22 Y24 Y25 Y30 Y31 Y32 Y33 Y34 Y35 Y36 Y37 Y38
abbrev sLots : Stmt := topS 56
def lotsN : List Str := ["state", "words", "lots", "tool", "rank", "chest", "at", "told", "singles", "least", "errors", "odd", "lot", "error"]
theorem scLo : FnScope lotsN ["state"] (defScope sLots) := ⟨rfl, rfl, rfl, by decide +kernel, rfl, by decide +kernel, by decide +kernel⟩
theorem okGL {P : Program} {w : World} {K : PySem.W.Frag} {mg : Str → Option Value} {base : Heap} {x qual : Str} {st : Stmt} {N ps : List Str} {sp : Sp} {k : Nat} {f c : Addr} {od an : Option Addr} {osl : Array (Option Value)} {dV kV doc pm ct oc : Value}
    (lk : K.lookup f = some ⟨oc, od, .func (PySem.W.fnOf x qual (defArgs st) (defBody st) (defScope st) dV kV doc pm an (.ref c) ct), osl⟩) (hcd : PySem.W.codeIn K (.ref c) qual = true) (S : FnScope N ps (defScope st)) (len : ∀ vs H Q E, sp vs H Q E → vs.length = ps.length)
    (hbody : ∀ (A : Around) (outer : List Env) (s : Shared) (H : Hp) (vs : List V) (Q : VK) (E : XK), A.guards = some [] → Room k (A.deeper (envOfC qual (defScope st) s.heap.objs.size f (.ref c))) → sp vs H Q E →
      ∃ t, PSs (cxOf CX0 P w K mg base N qual (defScope st) f (.ref c) A outer s H E).nox (defBody st) t ∧ t { nx := fun _ H' => Q .non H', rt := Q } (L2.start N vs) H) : RepG.FnG P w K mg base CX0 (k + 1) f (PySem.W.fnOf x qual (defArgs st) (defBody st) (defScope st) dV kV doc pm an (.ref c) ct) ps sp := by
  refine ⟨len, fun A g hr outer s H e args us vs hb r Q E h => ?_⟩
  refine LamX.run_ofS lk hcd S hr e hb r (len _ _ _ _ h) fun hr' => ?_
  obtain ⟨t, ht, q⟩ := hbody A outer s H vs Q E g hr' h
  exact ⟨t, ht.nox, q⟩
/-- but for the lots nothing is changed -/
def KeptA (A : Nat → Addr) (H H' : Hp) : Prop := ∀ b o, H b = some o → (∀ r ≤ 2, b ≠ A r) → H' b = some o
def LotsAt (K : PySem.W.Frag) (H : Hp) (A : Nat → Addr) (B : Nat → List Pr) : Prop := ∀ r ≤ 2, H (A r) = some (.lst ((B r).map (·.1))) ∧ PL K H (B r)
def putB (B : Nat → List Pr) (r : Nat) (b : Pr) : Nat → List Pr := fun n => if n = r then B n ++ [b] else B n
def Apart (A : Nat → Addr) : Prop := ∀ r ≤ 2, ∀ n ≤ 2, A r = A n → r = n
def refsA (A : Nat → Addr) : List V := [.ref (A 0), .ref (A 1), .ref (A 2)]
section
variable {K : PySem.W.Frag} {H H1 H' : Hp} {A : Nat → Addr} {B : Nat → List Pr}
theorem KeptA.refl : KeptA A H H := fun _ _ e _ => e
theorem KeptA.trans (x : KeptA A H H1) (y : KeptA A H1 H') : KeptA A H H' := fun b o e n => y b o (x b o e n) n
theorem KeptA.of (s : Same H H') : KeptA A H H' := fun b o e _ => s b o e
theorem LotsAt.tk (h : LotsAt K H A B) (k : KeptA A H H') : TK K H H' := fun q ys hq => by
  have ne : ∀ {o : HO}, H q = some o → (∀ xs, o ≠ .lst xs) → ∀ r ≤ 2, q ≠ A r := fun {o} e n r hr z => by
    rw [z, (h r hr).1] at e
    exact n _ (Option.some.inj e).symm
  rcases hq with (hq | ⟨o, hq⟩) | hq
  · exact .inl (.inl (k _ _ hq (ne hq fun _ z => by cases z)))
  · exact .inl (.inr ⟨o, k _ _ hq (ne hq fun _ z => by cases z)⟩)
  · exact .inr hq
theorem LotsAt.same (h : LotsAt K H A B) (s : Same H H') : LotsAt K H' A B := fun r hr => ⟨s _ _ (h r hr).1, (h r hr).2.same s⟩
theorem LotsAt.put (h : LotsAt K H A B) (ap : Apart A) {r : Nat} (hr : r ≤ 2) {q : Addr} {c : Ch} (hq : SqT K H q (c.map V.str)) :
    LotsAt K (upd H (A r) (.lst ((B r).map (·.1) ++ [.ref q]))) A (putB B r (.ref q, c)) ∧ KeptA A H (upd H (A r) (.lst ((B r).map (·.1) ++ [.ref q]))) := by
  have k : KeptA A H (upd H (A r) (.lst ((B r).map (·.1) ++ [.ref q]))) := fun b o e n => (upd_ne (n r hr)).trans e
  have t := h.tk k
  refine ⟨fun n hn => ?_, k⟩
  by_cases e : n = r
  · subst e
    unfold putB
    rw [if_pos rfl, List.map_append]
    exact ⟨upd_same, PL.append (PL.tk (h n hn).2 t) (PL.one (t _ _ hq))⟩
  · unfold putB
    rw [if_neg e]
    exact ⟨(upd_ne fun z => e (ap n hn r hr z)).trans (h n hn).1, PL.tk (h n hn).2 t⟩
theorem refs_at {r : Nat} (h : r ≤ 2) : (refsA A)[r]? = some (.ref (A r)) := by
  match r, h with
  | 0, _ => rfl
  | 1, _ => rfl
  | 2, _ => rfl
theorem cat_t {H0 Hx : Hp} {p u : Addr} {c : Ch} {z : Str} {R : VK} (hp : SqT K Hx p (c.map V.str)) (hu : Hx u = some (.tup [.str z])) (hl : c.length ≤ 60) (r : ∀ H' y, Same Hx H' → SqT K H' y ((c ++ [z]).map V.str) → R (.ref y) H') : rCatA K (.ref p) (.ref u) Hx R := by
  refine ⟨p, u, _, [.str z], rfl, rfl, hp, .inl (.inl hu), ?_, fun e => ?_, fun _ e => (by cases e), fun _ _ t nt => ?_⟩
  · rw [List.length_map]
    exact Nat.le_of_lt (small1000 (by simp; omega))
  · refine r Hx u same_rfl ?_
    rw [List.map_append, e]
    exact .inl (.inl hu)
  · refine r _ t (same_upd nt) ?_
    rw [List.map_append]
    exact .inl (.inl upd_same)
theorem eqv_tup0 (c : Ch) : PyData.eqv (tupD c) (.tuple []) = c.isEmpty := by
  cases c with
  | nil => rfl
  | cons z r => simp [tupD, PyData.eqv, PyData.eqvAll]
theorem big {n : Nat} (h : n ≤ 100000) : n < sizeLine := Nat.lt_of_le_of_lt h (by decide)
end
/-- what a turn with a chest finds -/
structure Turn9 (K : PySem.W.Frag) (H : Hp) (lo p : Addr) (A : Nat → Addr) (B : Nat → List Pr) (t : Str) (c : Ch) (k : Nat) : Prop where
  hp : SqT K H p (c.map V.str)
  hlo : H lo = some (.lst (refsA A))
  at_ : LotsAt K H A B
  ap : Apart A
  ht : toolsN[k]? = some t
  sub : ∀ z ∈ c, z ∈ toolsN.take k
  len : c.length ≤ 9
  few : ∀ n ≤ 2, (B n).length ≤ 50000
theorem Turn9.same {K : PySem.W.Frag} {H H' : Hp} {lo p : Addr} {A : Nat → Addr} {B : Nat → List Pr} {t : Str} {c : Ch} {k : Nat} (h : Turn9 K H lo p A B t c k) (s : Same H H') : Turn9 K H' lo p A B t c k :=
  ⟨sqT_same h.hp s, s _ _ h.hlo, h.at_.same s, h.ap, h.ht, h.sub, h.len, h.few⟩
def frame (x0 x1 : V) (lo : Addr) (y3 y4 y5 : Option V) : L2.St := [some x0, some x1, some (.ref lo), y3, y4, y5, none, none, none, none, none, none, none, none]
/-- one chest more -/
def tApp (K : PySem.W.Frag) : TS := fun D σ H => ∃ (x0 x1 x4 : V) (lo p : Addr) (A : Nat → Addr) (B : Nat → List Pr) (t : Str) (c : Ch) (k : Nat), σ = frame x0 x1 lo (some (.str t)) (some x4) (some (.ref p)) ∧ Turn9 K H lo p A B t c k ∧
  ∀ H' q, KeptA A H H' → LotsAt K H' A (putB B (rankC (c ++ [t])) (.ref q, c ++ [t])) → D.nx σ H'
def tLoops (K : PySem.W.Frag) : TS := fun D σ H => ∃ (x0 x1 : V) (lo : Addr) (A : Nat → Addr) (B : Nat → List Pr), σ = frame x0 x1 lo none none none ∧ H lo = some (.lst (refsA A)) ∧ LotsAt K H A B ∧ (∀ n ≤ 2, (B n).map (·.2) = lots0 n) ∧ (∀ r ≤ 2, lo ≠ A r) ∧ Apart A ∧
  ∀ H' y3 y4 y5 B', KeptA A H H' → LotsAt K H' A B' → (∀ n ≤ 2, (B' n).map (·.2) = outL 9 n) → D.nx (frame x0 x1 lo y3 y4 y5) H'
def spLotsR (K : PySem.W.Frag) (TT : List (Addr × Str)) : Sp := fun vs H Q _ => ∃ (a w c : Addr) (T : Nat), vs = [.ref a] ∧ St H a w c T ∧ T + 10 ≤ 1000000 ∧ LamX.Tabs TT H ∧ ∀ H', Q (.bl true) H'
section
variable {P : Program} {w : World} {K : PySem.W.Frag} {mg : Str → Option Value} {base : Heap}
theorem ok_lots0 {f fT fR c : Addr} {fdT fdR : FuncData}
    (FT : Fun K "_law_tools" "_law_tools" sTools fT fdT) (GT : FnOk P w K mg base CX0 1 fT fdT [] spTools) (bT : Binds K fdT [] []) (gT : mg "_law_tools" = some (.ref fT))
    (FR : Fun K "_law_rank" "_law_rank" sRank fR fdR) (GR : FnOk P w K mg base CX0 1 fR fdR ["chest"] (spRank K)) (bR : Binds K fdR ["chest"] []) (gR : mg "_law_rank" = some (.ref fR))
    (mr : mg "range" = none) (mli : mg "list" = none) (mlen : mg "len" = none) {A : Around} {outer : List Env} {s : Shared} {H : Hp} {E : XK} (hr : Room 1 (A.deeper (envOfC "_law_lots_right" (defScope sLots) s.heap.objs.size f (.ref c)))) :
    PS (cxOf CX0 P w K mg base lotsN "_law_lots_right" (defScope sLots) f (.ref c) A outer s H E).nox ((defBody sLots).getD 1 (.Pass ⟨0, 0, 0, 0⟩)) (tLoops K) := by
  have two : 2 ≤ 2 := Nat.le_refl _
  refine ps_weak (ps_for PassesOwn.never rfl (pi_list (pe_call0 GT hr (by rfl) gT FT.kp bT .nil pass0)) (pg_name (i := 3) scLo.nd rfl (.inl rfl))
      (pss_one (ps_for PassesOwn.never rfl (pi_range3 (by rfl) mr (pa_cons pe_int (pa_cons (pe_un un_neg pe_int) (pa_cons (pe_un un_neg pe_int) pa_nil)))) (pg_name (i := 4) scLo.nd rfl (.inl rfl))
        (pss_one (ps_for PassesOwn.never rfl (pi_list (pe_callTy call_list_of (by rfl) mli (by decide +kernel) (pa_cons (pe_ix ix_list (pv 2) (pv 4) (fun _ _ => rfl)) pa_nil))) (pg_name (i := 5) scLo.nd rfl (.inl rfl))
          (pss_one (ps_if (PW.pt (pw_or (pt_cmpR (op_eqD hr.units) (pv 5) (pe_tup pa_nil) (nomark _)) (pw_or1 (pt_cmpR op_lt_str (pe_ix ix_tup (pv 5) (pe_op op_sub (pe_callB call_len_seq (by rfl) mlen PySem.boot_len (pa_cons (pv 5) pa_nil)) pe_int) (fun _ _ => rfl)) (pv 3) (nomark _)))))
            (pss_one (ps_weak (t' := tApp K) (ps_expr (pe_bm PySem.F.plainAttrs_list PySem.F.slot_list_append PySem.F.type_list_append mt_append
              (pe_ix ix_list (pv 2) (pe_call GR hr (by rfl) gR FR.kp bR .nil pass0 (pa_cons (pe_op op_catA (pv 5) (pe_tup (pa_cons (pv 3) pa_nil))) pa_nil)) (fun _ _ => rfl))
              (pa_cons (pe_op op_catA (pv 5) (pe_tup (pa_cons (pv 3) pa_nil))) pa_nil))) ?app)) pss_nil))))))) ?loops
  case app =>
    rintro D σ H1 ⟨x0, x1, x4, lo, p, A, B, t, c, k, rfl, tn, q⟩
    have sub : ∀ z ∈ c ++ [t], z ∈ toolsN := fun z hz => by
      rcases List.mem_append.mp hz with hz | hz
      · exact List.mem_of_mem_take (tn.sub z hz)
      · rw [List.mem_singleton.mp hz]
        exact List.mem_of_getElem? tn.ht
    have len := tn.len
    refine ⟨_, rfl, _, rfl, _, rfl, by show 1 ≤ sizeLine; decide, fun u nu => ?_⟩
    have S1 : Same H1 (upd H1 u (.tup [.str t])) := same_upd nu
    refine cat_t (H0 := H1) (sqT_same tn.hp S1) upd_same (by omega) fun H2 y S2 hy => ?_
    refine ⟨y, c ++ [t], rfl, hy, sub, by simp; omega, fun H3 S3 => ?_⟩
    have S13 := S1.trans (S2.trans S3)
    have tn3 := tn.same S13
    have rk := rank_le (c ++ [t])
    refine ⟨lo, refsA A, _, _, rfl, rfl, .inl (.inl tn3.hlo), atI_nat (refs_at rk), ?_⟩
    refine ⟨.inl ⟨rfl, _, .inl (.inl (tn3.at_ _ rk).1)⟩, _, rfl, _, rfl, by show 1 ≤ sizeLine; decide, fun u2 nu2 => ?_⟩
    have S4 : Same H3 (upd H3 u2 (.tup [.str t])) := same_upd nu2
    refine cat_t (H0 := H1) (sqT_same tn3.hp S4) upd_same (by omega) fun H5 v S5 hv => ?_
    have S15 := S13.trans (S4.trans S5)
    have tn5 := tn.same S15
    refine ⟨A (rankC (c ++ [t])), _, _, rfl, rfl, (tn5.at_ _ rk).1, ?_, ?_⟩
    · rw [List.length_map]
      exact big (by have := tn.few _ rk; omega)
    · obtain ⟨l1, l2⟩ := LotsAt.put tn5.at_ tn.ap rk hv
      exact q _ v ((KeptA.of S15).trans l2) l1
  case loops =>
    rintro D σ H1 ⟨x0, x1, lo, A, B, rfl, hlo, hat, hB, nlo, ap, q⟩
    refine ⟨rfl, fun l nl => ?_⟩
    have S1 : Same H1 (upd H1 l (.lst (toolsN.map V.str))) := same_upd nl
    have hl : (upd H1 l (.lst (toolsN.map V.str))) l = some (.lst (toolsN.map V.str)) := upd_same
    have nlA : ∀ r ≤ 2, l ≠ A r := fun r hr' => (ne_of_none (hat r hr').1 nl).symm
    generalize upd H1 l (.lst (toolsN.map V.str)) = H2 at S1 hl
    refine ⟨l, rfl, ⟨_, .inl (.inl hl)⟩, for_list (K := K) (a := l) (xs := toolsN.map V.str) (fun i σ H' => ∃ (y3 y4 y5 : Option V) (B' : Nat → List Pr), σ = frame x0 x1 lo y3 y4 y5 ∧ KeptA A H2 H' ∧ LotsAt K H' A B' ∧ ∀ n ≤ 2, (B' n).map (·.2) = outL i n)
      ⟨none, none, none, B, rfl, KeptA.refl, hat.same S1, hB⟩ (fun i σ H' _ ⟨_, _, _, _, _, k, _⟩ => .inl (.inl (k _ _ hl nlA))) ?_ ?_⟩
    · rintro i x σ H3 hx ⟨y3, y4, y5, B3, rfl, k3, at3, hB3⟩
      obtain ⟨t, rfl, ht⟩ : ∃ t, x = V.str t ∧ toolsN[i]? = some t := by
        rw [List.getElem?_map] at hx
        cases g : toolsN[i]? with
        | none => rw [g] at hx; cases hx
        | some z => rw [g] at hx; exact ⟨z, (Option.some.inj hx).symm, rfl⟩
      have hi : i < 9 := (List.getElem?_eq_some_iff.mp ht).1
      have et : toolsN.getD i "" = t := by
        rw [List.getD_eq_getElem?_getD, ht]
        rfl
      have rk : ∀ r ≤ 2, ∀ c ∈ outL i r, rankC c = r := fun r h c hc => (out_rank (by omega) h hc).1
      have ml := mid_len t (outL i) 512 (fun r h => out_len (by omega) h)
      refine ⟨_, rfl, _, rfl, 2, -1, -1, 3, rfl, RgC.neg (by decide) (by decide) (by decide) (by decide), ?_⟩
      refine for_rangeC (lo := 2) (c := -1) (n := 3) (fun k σ H' => ∃ (y4 y5 : Option V) (B' : Nat → List Pr), σ = frame x0 x1 lo (some (.str t)) y4 y5 ∧ KeptA A H2 H' ∧ LotsAt K H' A B' ∧ ∀ n ≤ 2, (B' n).map (·.2) = midL t (outL i) k n)
        ⟨y4, y5, B3, rfl, k3, at3, hB3⟩ ?_ ?_
      · rintro k σ H4 hk ⟨y4, y5, B4, rfl, k4, at4, hB4⟩
        have er : (2 : Int) + (k : Nat) * (-1) = ((2 - k : Nat) : Int) := by omega
        rw [er]
        have r2 : 2 - k ≤ 2 := by omega
        have hlo4 : H4 lo = some (.lst (refsA A)) := k4 _ _ (S1 _ _ hlo) nlo
        have hM : (B4 (2 - k)).map (·.2) = outL i (2 - k) := (hB4 _ r2).trans (low_of t _ rk hk)
        refine ⟨_, rfl, _, rfl, lo, refsA A, _, _, rfl, rfl, .inl (.inl hlo4), atI_nat (refs_at r2), ?_⟩
        refine ⟨A (2 - k), _, rfl, .inl (.inl (.inl (at4 _ r2).1)), fun cp ncp => ?_⟩
        have S5 : Same H4 (upd H4 cp (.lst ((B4 (2 - k)).map (·.1)))) := same_upd ncp
        have hcp : (upd H4 cp (.lst ((B4 (2 - k)).map (·.1)))) cp = some (.lst ((B4 (2 - k)).map (·.1))) := upd_same
        have ncA : ∀ r ≤ 2, cp ≠ A r := fun r hr' => (ne_of_none (at4 r hr').1 ncp).symm
        have k5 := k4.trans (KeptA.of (A := A) S5)
        have at5 := at4.same S5
        have pl5 := (at4 _ r2).2.same S5
        generalize upd H4 cp (.lst ((B4 (2 - k)).map (·.1))) = H5 at S5 hcp k5 at5 pl5
        generalize hb0 : B4 (2 - k) = bs at hcp pl5 hM
        have bsl : bs.length ≤ 512 := by
          have := congrArg List.length hM
          rw [List.length_map] at this
          rw [this]
          exact out_len (by omega) r2
        refine ⟨cp, rfl, ⟨_, .inl (.inl hcp)⟩, for_list (K := K) (a := cp) (xs := bs.map (·.1)) (fun j σ H' => ∃ (y5 : Option V) (B' : Nat → List Pr), σ = frame x0 x1 lo (some (.str t)) (some (.int ((2 - k : Nat) : Int))) y5 ∧ KeptA A H5 H' ∧ LotsAt K H' A B' ∧ ∀ n ≤ 2, (B' n).map (·.2) = midL t (outL i) k n ++ gain t ((outL i (2 - k)).take j) n)
          ⟨y5, B4, rfl, KeptA.refl, at5, fun n hn => by rw [hB4 n hn]; simp [gain, more]⟩ (fun j σ H' _ ⟨_, _, _, k', _⟩ => .inl (.inl (k' _ _ hcp ncA))) ?_ ?_⟩
        · rintro j x σ H6 hx ⟨y5, B6, rfl, k6, at6, hB6⟩
          have t6 := at5.tk k6
          obtain ⟨p, c, rfl, hp, hg⟩ := (PL.tk pl5 t6).at hx
          have hc : (outL i (2 - k))[j]? = some c := by
            rw [← hM, List.getElem?_map, hg]
            rfl
          have cm := List.mem_of_getElem? hc
          have cu := (out_rank (by omega) r2 cm).2
          have few : ∀ n ≤ 2, (B6 n).length ≤ 50000 := fun n hn => by
            have h1 := congrArg List.length (hB6 n hn)
            rw [List.length_map, List.length_append] at h1
            have h2 := ml k (by omega) n hn
            have h3 : (gain t ((outL i (2 - k)).take j) n).length ≤ 512 := by
              unfold gain more
              refine Nat.le_trans (List.length_filter_le _ _) ?_
              rw [List.length_map, List.length_take]
              have := out_len (k := i) (by omega) r2
              omega
            have h4 : 2 ^ k * 512 ≤ 2 ^ 3 * 512 := Nat.mul_le_mul_right _ (Nat.pow_le_pow_right (by decide) (by omega))
            omega
          have tn : Turn9 K H6 lo p A B6 t c i := ⟨hp, k6 _ _ (S5 _ _ hlo4) nlo, at6, ap, ht, upTo_sub i c cu, Nat.le_trans (upTo_size i c cu) (by omega), few⟩
          have fin : ∀ H', Same H6 H' → ∃ (a0 a1 a4 : V) (lo' p' : Addr) (A' : Nat → Addr) (B' : Nat → List Pr) (t' : Str) (c' : Ch) (k' : Nat), frame x0 x1 lo (some (.str t)) (some (.int ((2 - k : Nat) : Int))) (some (.ref p)) = frame a0 a1 lo' (some (.str t')) (some a4) (some (.ref p')) ∧ Turn9 K H' lo' p' A' B' t' c' k' ∧
              ∀ H'' q, KeptA A' H' H'' → LotsAt K H'' A' (putB B' (rankC (c' ++ [t'])) (.ref q, c' ++ [t'])) → ∃ (y5 : Option V) (B' : Nat → List Pr), frame x0 x1 lo (some (.str t)) (some (.int ((2 - k : Nat) : Int))) (some (.ref p)) = frame x0 x1 lo (some (.str t)) (some (.int ((2 - k : Nat) : Int))) y5 ∧ KeptA A H5 H'' ∧ LotsAt K H'' A B' ∧ ∀ n ≤ 2, (B' n).map (·.2) = midL t (outL i) k n ++ gain t ((outL i (2 - k)).take (j + 1)) n := fun H' S' => by
            refine ⟨_, _, _, lo, p, A, B6, t, c, i, rfl, tn.same S', fun H'' q' k' at' => ⟨_, _, rfl, k6.trans ((KeptA.of S').trans k'), at', fun n hn => ?_⟩⟩
            have step : gain t ((outL i (2 - k)).take (j + 1)) n = gain t ((outL i (2 - k)).take j) n ++ (if n = rankC (c ++ [t]) then [c ++ [t]] else []) := by
              rw [List.take_succ, hc, gain_append]
              congr 1
              show gain t [c] n = _
              unfold gain more
              by_cases e : n = rankC (c ++ [t])
              · rw [if_pos e]
                simp [e]
              · rw [if_neg e]
                simp [Ne.symm e]
            rw [step, ← List.append_assoc, ← hB6 n hn]
            unfold putB
            split
            · rw [List.map_append]
              rfl
            · rw [List.append_nil]
          refine ⟨_, rfl, Nat.zero_le _, fun t0 nt0 => ?_⟩
          have S7 : Same H6 (upd H6 t0 (.tup [])) := same_upd nt0
          have cok : ∀ z ∈ c, PyData.strOk z = true := fun z hz => (tools_ok z (List.mem_of_mem_take (tn.sub z hz))).1
          refine ⟨tupD c, .tuple [], .tup (sqT_same hp S7) (dpAll_strs _), .tup (.inl (.inl upd_same)) .nil, Y25.shaped_tup cok, by decide, _, rfl, ?_⟩
          rw [eqv_tup0]
          by_cases e0 : c = []
          · refine iteT2 (by rw [e0]; rfl) (fin _ S7)
          · refine iteF2 (by cases c with | nil => exact absurd rfl e0 | cons => rfl) ?_
            obtain ⟨c0, z, ec⟩ : ∃ c0 z, c = c0 ++ [z] := by
              rcases List.eq_nil_or_concat c with h0 | ⟨c0, z, h0⟩
              · exact absurd h0 e0
              · exact ⟨c0, z, by rw [h0, List.concat_eq_append]⟩
            have il : (((c.map V.str).length : Nat) : Int) - 1 = ((c0.length : Nat) : Int) := by
              rw [ec]
              simp
            have az : (c.map V.str)[c0.length]? = some (.str z) := by
              rw [ec]
              simp
            refine ⟨_, rfl, _, rfl, p, _, rfl, .inr (sqT_same hp S7), _, 1, rfl, rfl, p, _, _, .str z, rfl, rfl, sqT_same hp S7, ?_, _, rfl, z, t, rfl, rfl, _, rfl, ?_⟩
            · rw [il]
              exact atI_nat az
            · refine iteT2 (last_less ht z (tn.sub z ?_)) (fin _ S7)
              rw [ec]
              exact List.mem_append_right _ List.mem_cons_self
        · rintro σ H6 ⟨y5, B6, rfl, k6, at6, hB6⟩
          refine ⟨_, _, B6, rfl, k5.trans k6, at6, fun n hn => ?_⟩
          rw [hB6 n hn]
          have e : (outL i (2 - k)).take (bs.map (·.1)).length = outL i (2 - k) := by
            rw [List.length_map, ← List.length_map (f := fun b : Pr => b.2), hM, List.take_length]
          rw [e, ← low_of t _ rk hk]
          rfl
      · rintro σ H4 ⟨y4, y5, B4, rfl, k4, at4, hB4⟩
        refine ⟨_, _, _, B4, rfl, k4, at4, fun n hn => ?_⟩
        rw [hB4 n hn]
        show _ = midL (toolsN.getD i "") (outL i) 3 n
        rw [et]
    · rintro σ H3 ⟨y3, y4, y5, B3, rfl, k3, at3, hB3⟩
      exact q H3 y3 y4 y5 B3 ((KeptA.of S1).trans k3) at3 hB3
end
end Y39

set_option Elab.async false
set_option linter.all false
set_option maxRecDepth 100000
set_option maxHeartbeats 4000000
/-! The law's look at all chests. -/
namespace Y40
open PySem PySem.Spec PyProof.Rows L2 Cau Dr15 Y1 Y2 Y3 Y4 Y5 Y6 Y7 Y8 Y10 Y12 Y13 Y18 Y21 Y22 Y24 Y25 Y30 Y31 Y32 Y33 Y34 Y35 Y36 Y37 Y38 Y39
def adr (a0 a1 a2 : Addr) : Nat → Addr
  | 0 => a0
  | 1 => a1
  | _ => a2
def begB (u : Addr) : Nat → List Pr
  | 0 => [(.ref u, [])]
  | _ => []
def lens : List Int := [2, 30, 480]
theorem len_at {r : Nat} (h : r ≤ 2) : lens[r]? = some ((outL 9 r).length : Nat) := by
  obtain ⟨l0, l1, l2⟩ := with_lens
  match r, h with
  | 0, _ => rw [(out_nine (r := 0) (by omega)).length_eq, l0]; rfl
  | 1, _ => rw [(out_nine (r := 1) (by omega)).length_eq, l1]; rfl
  | 2, _ => rw [(out_nine (r := 2) (by omega)).length_eq, l2]; rfl
theorem words_at {r : Nat} (h : r ≤ 2) : (wordsN.map V.str)[r]? = some (.str (wordR r)) := by
  match r, h with
  | 0, _ => rfl
  | 1, _ => rfl
  | 2, _ => rfl
def sing (n : Nat) : List Ch := (toolsN.filter fun t => decide (rankC [t] = n)).map fun t => [t]
theorem sing_is : sing 1 = lstR 1 ∧ sing 2 = lstR 2 := by decide +kernel
theorem out_srt {r : Nat} (h : r ≤ 2) : (∀ c ∈ outL 9 r, c ≠ []) ∨ ∃ t, outL 9 r = [] :: t := by
  match r, h with
  | 0, _ => exact .inr (out_head 9)
  | 1, _ =>
    refine .inl fun c hc e => ?_
    subst e
    exact absurd (out_rank (by omega) (show 1 ≤ 2 by omega) hc).1 (by decide)
  | 2, _ =>
    refine .inl fun c hc e => ?_
    subst e
    exact absurd (out_rank (by omega) (show 2 ≤ 2 by omega) hc).1 (by decide)
theorem tabs_A {K : PySem.W.Frag} {H H' : Hp} {A : Nat → Addr} {B : Nat → List Pr} {TT : List (Addr × Str)} (t : LamX.Tabs TT H) (h : LotsAt K H A B) (k : KeptA A H H') : LamX.Tabs TT H' := fun p hp => by
  obtain ⟨ps, e1, e2, e3⟩ := t p hp
  refine ⟨ps, k _ _ e1 (fun r hr z => by rw [z, (h r hr).1] at e1; cases e1), e2, fun pos cv hc => ?_⟩
  obtain ⟨d, f1, f2⟩ := e3 pos cv hc
  refine ⟨d, f1, k _ _ f2 (fun r hr z => ?_)⟩
  rw [z, (h r hr).1] at f2
  cases f2
/-- values that are no words of sets -/
inductive OddW (H : Hp) : V → Prop
  | atom {v : V} (h : AtomV v = true) (n : ∀ z, txtOf v = some z → z ∉ wordsN) : OddW H v
  | tup {p : Addr} {xs : List V} (h : H p = some (.tup xs)) : OddW H (.ref p)
  | lst {p : Addr} {xs : List V} (h : H p = some (.lst xs)) : OddW H (.ref p)
section
variable {K : PySem.W.Frag} {H H' : Hp} {v : V}
theorem OddW.ext (h : OddW H v) (s : LamX.ExtN H H') : OddW H' v := by
  cases h with
  | atom h n => exact .atom h n
  | tup h => exact .tup (s _ _ h (fun _ z => by cases z))
  | lst h => exact .lst (s _ _ h (fun _ z => by cases z))
theorem OddW.same (h : OddW H v) (s : Same H H') : OddW H' v := h.ext (LamX.ExtN.of s)
theorem OddW.tx (h : OddW H v) : ∃ o, Tx K H v o ∧ ∀ z, o = some z → z ∉ wordsN := by
  cases h with
  | atom h n => exact ⟨_, tx_atom h, n⟩
  | tup h => exact ⟨none, .inr ⟨rfl, "tuple", .base (.tup h), by decide +kernel⟩, fun z e => by cases e⟩
  | lst h => exact ⟨none, .inr ⟨rfl, "list", .base (.lst h), by decide +kernel⟩, fun z e => by cases e⟩
end
/-- the list for the rank -/
def tTri (K : PySem.W.Frag) : TE := fun σ H Q => ∃ (sl : Addr) (n : Nat) (ds : List Pr), σ[8]? = some (some (.ref sl)) ∧ σ[6]? = some (some (.int (n : Nat))) ∧ n ≤ 2 ∧ H sl = some (.lst (ds.map (·.1))) ∧ PL K H ds ∧ ds.map (·.2) = sing n ∧
  ∀ (H' : Hp) (e : Addr) (bs : List Pr), Same H H' → H' e = some (.lst (bs.map (·.1))) → PL K H' bs → bs.map (·.2) = lstR n → Q (.ref e) H'
section
variable {P : Program} {w : World} {K : PySem.W.Frag} {mg : Str → Option Value} {base : Heap}
theorem ok_lotsR {f fT fR fD fP fW fL fC CR CW c Pt : Addr} {fdT fdR fdD fdP fdW fdL : FuncData} {TT : List (Addr × Str)}
    {od an odC anC : Option Addr} {osl oslC : Array (Option Value)} {dV kV doc pm ct oc kVC docC pmC ctC ocC cdvC dVC : Value}
    (lk : K.lookup f = some ⟨oc, od, .func (PySem.W.fnOf "_law_lots_right" "_law_lots_right" (defArgs sLots) (defBody sLots) (defScope sLots) dV kV doc pm an (.ref c) ct), osl⟩) (hcd : PySem.W.codeIn K (.ref c) "_law_lots_right" = true)
    (TB : LamX.TabB base mg c Pt) (hmT : (Pt, ((("_law_lots_right" : Str) ++ ".<locals>.") ++ "<lambda>" : Str)) ∈ TT) (huT : ∀ p ∈ TT, p.1 = Pt → p.2 = (("_law_lots_right" : Str) ++ ".<locals>.") ++ "<lambda>")
    (FT : Fun K "_law_tools" "_law_tools" sTools fT fdT) (GT : FnOk P w K mg base CX0 1 fT fdT [] spTools) (bT : Binds K fdT [] []) (gT : mg "_law_tools" = some (.ref fT))
    (FR : Fun K "_law_rank" "_law_rank" sRank fR fdR) (GR : FnOk P w K mg base CX0 1 fR fdR ["chest"] (spRank K)) (bR : Binds K fdR ["chest"] []) (gR : mg "_law_rank" = some (.ref fR))
    (FD : Fun K "_law_draw" "_law_draw" sDraw fD fdD) (GD : FnOk P w K mg base CX0 2 fD fdD ["state", "room"] spDraw) (bD : Binds K fdD ["state", "room"] []) (gD : mg "_law_draw" = some (.ref fD))
    (FP : Fun K "_law_pick" "_law_pick" sPick fP fdP) (GP : FnOk P w K mg base CX0 3 fP fdP ["state", "some"] (spPick K)) (bP : Binds K fdP ["state", "some"] []) (gP : mg "_law_pick" = some (.ref fP))
    (FW : Fun K "chests_with" "chests_with" sWith fW fdW) (GW : FnOk P w K mg base (L2.CX P w) 2 fW fdW ["word"] (spWith K CW)) (bW : Binds K fdW ["word"] []) (kW : KBn K fdW ["word"] 0 ["word"] (fun _ ws => ws) (fun _ zs => zs)) (gW : mg "chests_with" = some (.ref fW))
    (FL : Fun K "least_chests" "least_chests" sLeast fL fdL) (GL : FnOk P w K mg base (L2.CX P w) 3 fL fdL ["word"] (spLeast K CW)) (bL : Binds K fdL ["word"] []) (kL : KBn K fdL ["word"] 0 ["word"] (fun _ ws => ws) (fun _ zs => zs)) (gL : mg "least_chests" = some (.ref fL))
    (lkC : K.lookup fC = some ⟨ocC, odC, .func (PySem.W.fnOf "_law_caught" "_law_caught" (defArgs sCaught) (defBody sCaught) (defScope sCaught) dVC kVC docC pmC anC cdvC ctC), oslC⟩) (hcdC : PySem.W.codeIn K cdvC "_law_caught" = true) (kC : PySem.W.keepIn K (.ref fC) = true)
    (bC : Binds K (PySem.W.fnOf "_law_caught" "_law_caught" (defArgs sCaught) (defBody sCaught) (defScope sCaught) dVC kVC docC pmC anC cdvC ctC) ["action"] []) (gC : mg "_law_caught" = some (.ref fC))
    (gRE : mg "RulerError" = some (.ref CR)) (gBW : mg "BadWord" = some (.ref CW)) (exm : PySem.W.exmOne K (.ref CW) (.ref CR) = some true) (kit : PySem.W.kitOne K (.ref CW) (.ref CW) = some true) (EW : ExcC K CW)
    (mr : mg "range" = none) (mli : mg "list" = none) (mlen : mg "len" = none) (mso : mg "sorted" = none) (mi : mg "isinstance" = none) :
    RepG.FnG P w K mg base CX0 6 f (PySem.W.fnOf "_law_lots_right" "_law_lots_right" (defArgs sLots) (defBody sLots) (defScope sLots) dV kV doc pm an (.ref c) ct) ["state"] (spLotsR K TT) := by
  refine okGL lk hcd scLo (fun vs H Q E h => ?_) (fun A outer s H vs Q E g hr h => ?_)
  · obtain ⟨a, w, c, T, rfl, _⟩ := h
    rfl
  · obtain ⟨sa, sw, sc, T, rfl, hSt, hT, tabs, q⟩ := h
    have hr3 : Room 3 _ := hr.mono (by decide)
    have hr2 : Room 2 _ := hr.mono (by decide)
    have hr1 : Room 1 _ := hr.mono (by decide)
    refine ⟨_, pss_cons (ps_par (i := 1) (j := 2) rfl scLo.nd rfl rfl (by decide) rfl rfl (pa_cons (pe_lst (pa_cons pe_str (pa_cons pe_str (pa_cons pe_str pa_nil))))
        (pa_cons (pe_lst (pa_cons (pe_lst (pa_cons (pe_tup pa_nil) pa_nil)) (pa_cons (pe_lst pa_nil) (pa_cons (pe_lst pa_nil) pa_nil)))) pa_nil)) (by rfl))
      (pss_cons (ok_lots0 (f := f) (c := c) FT GT bT gT FR GR bR gR mr mli mlen hr1)
      (pss_cons (ps_if (pt_cmpR (op_neD hr.units) (pe_lc (own := [("lot", 12)]) (g := gName 12) (tt := tYes) rfl scLo.nd (pi_list (pv 2))
          (blkOk_by (own := [("lot", 12)]) (N := lotsN) (sc := defScope sLots) (by decide +kernel)) (fun _ _ _ _ _ => pg_name (i := 12) scLo.nd rfl (.inl rfl)) (fun _ _ _ _ _ => pts_nil)
          (fun _ _ _ _ _ => pe_callB (show CallR _ (.builtin "len") (rLenS K) from call_len_seq) (by rfl) mlen PySem.boot_len (pa_cons (pv 12) pa_nil))) (pe_lst (pa_cons pe_int (pa_cons pe_int (pa_cons pe_int pa_nil)))) (nomark _)) (pss_one (ps_ret pe_bl)) pss_nil)
      (pss_cons (ps_set (i := 6) scLo.nd rfl (.inr rfl) (pe_call GD hr2 (by rfl) gD FD.kp bD .nil pass0 (pa_cons (pv 0) (pa_cons pe_int pa_nil))))
      (pss_cons (ps_set (i := 7) scLo.nd rfl (.inl rfl) (pe_kw GW hr2 (by rfl) gW FW.kp kW passN (pk_cons (pe_ix ix_list (pv 1) (pv 6) (fun _ _ => rfl)) pk_nil)))
      (pss_cons (ps_if (pt_cmpR (op_neD hr.units) (pv 7) (pe_callB (cr_sortD hr.units) (by rfl) mso (by decide +kernel) (pa_cons (pe_ix ix_list (pv 2) (pv 6) (fun _ _ => rfl)) pa_nil)) (nomark _)) (pss_one (ps_ret pe_bl)) pss_nil)
      (pss_cons (ps_expr (pe_bm PySem.F.plainAttrs_list PySem.F.slot_list_append PySem.F.type_list_append mt_append (pv 7) (pa_cons pe_non pa_nil)))
      (pss_cons (ps_setLc (i := 8) (own := [("tool", 3)]) (g := gName 3) rfl scLo.nd rfl rfl (sw_true rfl rfl rfl (by decide +kernel)) (pi_list (pe_call0 GT hr1 (by rfl) gT FT.kp bT .nil pass0))
          (blkOk_by (own := [("tool", 3)]) (N := lotsN) (sc := defScope sLots) (by decide +kernel)) (fun _ _ _ _ _ => pg_name (i := 3) scLo.nd rfl (.inl rfl))
          (fun _ _ _ _ _ => pts_one (pt_cmpR op_eq (pe_call GR (hr1.mono (by decide)) (by rfl) gR FR.kp bR .nil pass0 (pa_cons (pe_tup (pa_cons (pv 3) pa_nil)) pa_nil)) (pv 6) (nomark _)))
          (fun _ _ _ _ _ => pe_tup (pa_cons (pv 3) pa_nil)))
      (pss_cons (ps_set (i := 9) scLo.nd rfl (.inl rfl) (pe_kw GL hr3 (by rfl) gL FL.kp kL passN (pk_cons (pe_ix ix_list (pv 1) (pv 6) (fun _ _ => rfl)) pk_nil)))
      (pss_cons (ps_if (pt_cmpR (op_neD hr.units) (pv 9) (pe_weak (t' := tTri K) (pe_ix ix_list (pe_lst (pa_cons (pe_lst (pa_cons (pe_tup pa_nil) pa_nil)) (pa_cons (pv 8) (pa_cons (pv 8) pa_nil)))) (pv 6) (fun _ _ => rfl)) ?tri1) (nomark _)) (pss_one (ps_ret pe_bl)) pss_nil)
      (pss_cons (ps_expr (pe_bm PySem.F.plainAttrs_list PySem.F.slot_list_append PySem.F.type_list_append mt_append (pv 9) (pa_cons pe_non pa_nil)))
      (pss_cons (ps_if (pt_cmpR (op_neD hr.units) (pe_call GL hr3 (by rfl) gL FL.kp bL .nil passN (pa_cons (pe_ix ix_list (pv 1) (pv 6) (fun _ _ => rfl)) pa_nil)) (pe_weak (t' := tTri K) (pe_ix ix_list (pe_lst (pa_cons (pe_lst (pa_cons (pe_tup pa_nil) pa_nil)) (pa_cons (pv 8) (pa_cons (pv 8) pa_nil)))) (pv 6) (fun _ _ => rfl)) ?tri2) (nomark _)) (pss_one (ps_ret pe_bl)) pss_nil)
      (pss_cons (ps_set (i := 11) scLo.nd rfl (.inr rfl) (pe_call GP hr3 (by rfl) gP FP.kp bP .nil pass0 (pa_cons (pv 0) (pa_cons (pe_lst (pa_cons pe_non (pa_cons pe_str (pa_cons pe_str (pa_cons pe_str (pa_cons pe_int (pa_cons (pe_tup (pa_cons pe_str pa_nil)) (pa_cons (pe_lst (pa_cons pe_str pa_nil)) pa_nil)))))))) pa_nil))))
      (pss_cons (ps_set (i := 10) scLo.nd rfl (.inl rfl) (pe_lst (pa_cons
          (pe_cau lkC hcdC kC bC gC gRE TB rfl hmT huT (hr.mono (by decide) : Room (2 + 2) _) (by rfl) (show LamX.LamS (defScope sLots) _ from LamX.lamS_by (by decide +kernel)) rfl (fun _ _ _ _ _ => rfl)
            (fun A o s H E f c' hrl => pe_call GW hrl (by rfl) gW FW.kp bW .nil (passes_call (takes_of rfl rfl rfl rfl) (fun _ _ _ _ h => h)) (pa_cons (pv 11) pa_nil))) (pa_cons
          (pe_cau lkC hcdC kC bC gC gRE TB rfl hmT huT (hr.mono (by decide) : Room (3 + 2) _) (by rfl) (show LamX.LamS (defScope sLots) _ from LamX.lamS_by (by decide +kernel)) rfl (fun _ _ _ _ _ => rfl)
            (fun A o s H E f c' hrl => pe_call GL hrl (by rfl) gL FL.kp bL .nil (passes_call (takes_of rfl rfl rfl rfl) (fun _ _ _ _ h => h)) (pa_cons (pv 11) pa_nil))) pa_nil))))
      (pss_cons (ps_if (pt_not (pt_cmpR (op_eqD hr.units) (pe_lc (own := [("error", 13)]) (g := gName 13) rfl scLo.nd (pi_list (pv 10))
          (blkOk_by (own := [("error", 13)]) (N := lotsN) (sc := defScope sLots) (by decide +kernel)) (fun _ _ _ _ _ => pg_name (i := 13) scLo.nd rfl (.inl rfl))
          (fun _ _ _ _ _ => pts_one (pt_not (pt_val (pe_callB (show CallR _ (.builtin "isinstance") (rIsErr K CW) from call_isErr EW) (by rfl) mi (by decide +kernel) (pa_cons (pv 13) (pa_cons (pe_glob (v := .ref CW) (by rfl) gBW rfl) pa_nil))))))
          (fun _ _ _ _ _ => pe_int)) (pe_lst pa_nil) (nomark _))) (pss_one (ps_ret pe_bl)) pss_nil)
      (pss_one (ps_ret (pe_cmpR op_eq (pe_callB call_len_seq (by rfl) mlen PySem.boot_len (pa_cons (pe_call GW hr2 (by rfl) gW FW.kp bW .nil passN (pa_cons (pe_ix ix_list (pv 1) (pv 6) (fun _ _ => rfl)) pa_nil)) pa_nil))
        (pe_callB call_len_seq (by rfl) mlen PySem.boot_len (pa_cons (pe_ix ix_list (pv 2) (pv 6) (fun _ _ => rfl)) pa_nil)) (nomark _)))))))))))))))))), ?_⟩
    case tri1 | tri2 =>
      rintro σ H1 Q1 ⟨sl, n, ds, h8, h6, hn, hsl, pl, hds, q1⟩
      refine ⟨Nat.zero_le _, fun u nu => ⟨by show 1 ≤ sizeLine; decide, fun l0 nl0 => ⟨_, h8, _, h8, by show 3 ≤ sizeLine; decide, fun m nm => ?_⟩⟩⟩
      have S1 : Same H1 (upd H1 u (.tup [])) := same_upd nu
      have hu : (upd H1 u (.tup [])) u = some (.tup []) := upd_same
      generalize upd H1 u (.tup []) = H2 at S1 hu nl0 nm ⊢
      have S2 : Same H2 (upd H2 l0 (.lst [.ref u])) := same_upd nl0
      have hl0 : (upd H2 l0 (.lst [.ref u])) l0 = some (.lst [.ref u]) := upd_same
      generalize upd H2 l0 (.lst [.ref u]) = H3 at S2 hl0 nm ⊢
      have S3 : Same H3 (upd H3 m (.lst [.ref l0, .ref sl, .ref sl])) := same_upd nm
      have hm : (upd H3 m (.lst [.ref l0, .ref sl, .ref sl])) m = some (.lst [.ref l0, .ref sl, .ref sl]) := upd_same
      generalize upd H3 m (.lst [.ref l0, .ref sl, .ref sl]) = H4 at S3 hm ⊢
      have S14 : Same H1 H4 := S1.trans (S2.trans S3)
      refine ⟨_, h6, m, [.ref l0, .ref sl, .ref sl], (n : Nat), (if n = 0 then .ref l0 else .ref sl), rfl, rfl, .inl (.inl hm), ?_, ?_⟩
      · refine atI_nat ?_
        match n, hn with
        | 0, _ => rfl
        | 1, _ => rfl
        | 2, _ => rfl
      · by_cases e : n = 0
        · subst e
          rw [if_pos rfl]
          exact q1 H4 l0 [(.ref u, [])] S14 (S3 _ _ hl0) (PL.one (.inl (.inl (S3 _ _ (S2 _ _ hu))))) rfl
        · rw [if_neg e]
          refine q1 H4 sl ds S14 (S14 _ _ hsl) (pl.same S14) ?_
          rw [hds]
          have : n = 1 ∨ n = 2 := by omega
          rcases this with rfl | rfl
          · exact sing_is.1
          · exact sing_is.2
    -- the words and the empty lots
    refine ⟨by show 3 ≤ sizeLine; decide, fun wd nwd => ?_⟩
    have S1 : Same H (upd H wd (.lst [.str "fractions", .str "middle", .str "all"])) := same_upd nwd
    have hwd : (upd H wd (.lst [.str "fractions", .str "middle", .str "all"])) wd = some (.lst (wordsN.map V.str)) := upd_same
    have s1 := St.same hSt S1
    generalize upd H wd (.lst [.str "fractions", .str "middle", .str "all"]) = H1 at S1 hwd s1 ⊢
    refine ⟨Nat.zero_le _, fun u nu => ⟨by show 1 ≤ sizeLine; decide, fun a0 n0 => ⟨Nat.zero_le _, fun a1 n1 => ⟨Nat.zero_le _, fun a2 n2 => ⟨by show 3 ≤ sizeLine; decide, fun lo nlo => ⟨_, _, rfl, ?_⟩⟩⟩⟩⟩⟩
    have T2 : Same H1 (upd H1 u (.tup [])) := same_upd nu
    have hu : (upd H1 u (.tup [])) u = some (.tup []) := upd_same
    have s2 := St.same s1 T2
    generalize upd H1 u (.tup []) = H2 at T2 hu s2 n0 n1 n2 nlo ⊢
    have T3 : Same H2 (upd H2 a0 (.lst [.ref u])) := same_upd n0
    have h0 : (upd H2 a0 (.lst [.ref u])) a0 = some (.lst [.ref u]) := upd_same
    have o0 := St.off s2 n0
    have s3 := St.same s2 T3
    generalize upd H2 a0 (.lst [.ref u]) = H3 at T3 h0 s3 n1 n2 nlo ⊢
    have T4 : Same H3 (upd H3 a1 (.lst [])) := same_upd n1
    have h1 : (upd H3 a1 (.lst [])) a1 = some (.lst []) := upd_same
    have o1 := St.off s3 n1
    have d01 : a0 ≠ a1 := ne_of_none h0 n1
    have s4 := St.same s3 T4
    generalize upd H3 a1 (.lst []) = H4 at T4 h1 s4 n2 nlo ⊢
    have T5 : Same H4 (upd H4 a2 (.lst [])) := same_upd n2
    have h2 : (upd H4 a2 (.lst [])) a2 = some (.lst []) := upd_same
    have o2 := St.off s4 n2
    have d02 : a0 ≠ a2 := ne_of_none (T4 _ _ h0) n2
    have d12 : a1 ≠ a2 := ne_of_none h1 n2
    have s5 := St.same s4 T5
    generalize upd H4 a2 (.lst []) = H5 at T5 h2 s5 nlo ⊢
    have T6 : Same H5 (upd H5 lo (.lst [.ref a0, .ref a1, .ref a2])) := same_upd nlo
    have hlo : (upd H5 lo (.lst [.ref a0, .ref a1, .ref a2])) lo = some (.lst [.ref a0, .ref a1, .ref a2]) := upd_same
    have e0 : lo ≠ a0 := (ne_of_none (T5 _ _ (T4 _ _ h0)) nlo).symm
    have e1 : lo ≠ a1 := (ne_of_none (T5 _ _ h1) nlo).symm
    have e2 : lo ≠ a2 := (ne_of_none h2 nlo).symm
    have w0 : wd ≠ a0 := ne_of_none (T2 _ _ hwd) n0
    have w1 : wd ≠ a1 := ne_of_none (T3 _ _ (T2 _ _ hwd)) n1
    have w2 : wd ≠ a2 := ne_of_none (T4 _ _ (T3 _ _ (T2 _ _ hwd))) n2
    have s6 := St.same s5 T6
    generalize upd H5 lo (.lst [.ref a0, .ref a1, .ref a2]) = H6 at T6 hlo s6 ⊢
    have A26 : Same H2 H6 := T3.trans (T4.trans (T5.trans T6))
    have hwd6 := A26 _ _ (T2 _ _ hwd)
    have tabs6 := tabs_same tabs (S1.trans (T2.trans A26))
    have at6 : LotsAt K H6 (adr a0 a1 a2) (begB u) := fun r hr' => by
      match r, hr' with
      | 0, _ => exact ⟨T6 _ _ (T5 _ _ (T4 _ _ h0)), PL.one (.inl (.inl (A26 _ _ hu)))⟩
      | 1, _ => exact ⟨T6 _ _ (T5 _ _ h1), PL.nil⟩
      | 2, _ => exact ⟨T6 _ _ h2, PL.nil⟩
    have ap : Apart (adr a0 a1 a2) := fun r hr' n hn e => by
      match r, n, hr', hn, e with
      | 0, 0, _, _, _ => rfl
      | 1, 1, _, _, _ => rfl
      | 2, 2, _, _, _ => rfl
      | 0, 1, _, _, e => exact absurd e d01
      | 0, 2, _, _, e => exact absurd e d02
      | 1, 0, _, _, e => exact absurd e.symm d01
      | 1, 2, _, _, e => exact absurd e d12
      | 2, 0, _, _, e => exact absurd e.symm d02
      | 2, 1, _, _, e => exact absurd e.symm d12
    have nlA : ∀ r ≤ 2, lo ≠ adr a0 a1 a2 r := fun r hr' => by
      match r, hr' with
      | 0, _ => exact e0
      | 1, _ => exact e1
      | 2, _ => exact e2
    have nwA : ∀ r ≤ 2, wd ≠ adr a0 a1 a2 r := fun r hr' => by
      match r, hr' with
      | 0, _ => exact w0
      | 1, _ => exact w1
      | 2, _ => exact w2
    have oA : ∀ r ≤ 2, adr a0 a1 a2 r ≠ sa ∧ adr a0 a1 a2 r ≠ sw ∧ adr a0 a1 a2 r ≠ sc := fun r hr' => by
      match r, hr' with
      | 0, _ => exact o0
      | 1, _ => exact o1
      | 2, _ => exact o2
    have hlo6 : H6 lo = some (.lst (refsA (adr a0 a1 a2))) := hlo
    generalize adr a0 a1 a2 = A0 at at6 ap nlA nwA oA hlo6
    refine ⟨_, _, lo, A0, begB u, rfl, hlo6, at6, fun n hn => ?_, nlA, ap, fun H7 y3 y4 y5 B k7 at7 hB => ?_⟩
    · match n, hn with
      | 0, _ => rfl
      | 1, _ => rfl
      | 2, _ => rfl
    have s7 : St H7 sa sw sc T := by
      obtain ⟨z0, ws, cs, r, t, z1, z2, z3, z4⟩ := s6
      exact ⟨z0, ws, cs, r, t, k7 _ _ z1 fun r hr' => (oA r hr').1.symm, k7 _ _ z2 fun r hr' => (oA r hr').2.1.symm, k7 _ _ z3 fun r hr' => (oA r hr').2.2.symm, z4⟩
    have hlo7 := k7 _ _ hlo6 nlA
    have hwd7 := k7 _ _ hwd6 nwA
    have tabs7 := tabs_A tabs6 at6 k7
    have olo : lo ≠ sa ∧ lo ≠ sw := by
      have := St.off s5 nlo
      exact ⟨this.1, this.2.1⟩
    have owd : wd ≠ sa ∧ wd ≠ sw := by
      have := St.off hSt nwd
      exact ⟨this.1, this.2.1⟩
    clear at6 hlo6 hlo hwd6 A26 s6 tabs6 T2 T3 T4 T5 T6 S1 hwd hu h0 h1 h2 s1 s2 s3 s4 s5 n0 n1 n2 nlo nu nwd
    -- how many
    refine ⟨_, rfl, lo, rfl, ⟨_, .inl (.inl hlo7)⟩, fun D nD => ?_⟩
    refine lc_list (K := K) (a := lo) (xs := refsA A0) (fun i H' => H' D = some (.lst ((lens.take i).map V.int)) ∧ Same H7 H') ⟨upd_same, same_upd nD⟩ (fun i H' _ ⟨_, sm⟩ => .inl (.inl (sm _ _ hlo7))) ?_ ?_
    · rintro i x H8 hx ⟨hD, sm⟩
      have hi : i ≤ 2 := by
        have := (List.getElem?_eq_some_iff.mp hx).1
        have e : (refsA A0).length = 3 := rfl
        omega
      have ex : x = .ref (A0 i) := Option.some.inj (hx.symm.trans (refs_at hi))
      subst ex
      have lB : (B i).length = (outL 9 i).length := by
        rw [← hB i hi, List.length_map]
      refine ⟨rfl, _, rfl, A0 i, _, rfl, .inl (.inl (.inl (sm _ _ (at7 i hi).1))), _, hD, ?_, ?_, same_put sm nD⟩
      · rw [List.length_map, List.length_take]
        exact small1000 (by omega)
      · rw [upd_same, List.take_succ, len_at hi, List.map_append, List.length_map, lB]
        rfl
    rintro H8 ⟨hD, sm8⟩
    have el : (lens.take (refsA A0).length).map V.int = lens.map V.int := rfl
    rw [el] at hD
    refine ⟨by show 3 ≤ sizeLine; decide, fun l3 nl3 => ?_⟩
    have S8 : Same H8 (upd H8 l3 (.lst [.int 2, .int 30, .int 480])) := same_upd nl3
    refine ⟨_, _, dp_ints (.inl (.inl (S8 _ _ hD))), dp_ints (ns := lens) (.inl (.inl upd_same)), shaped_ints _, shaped_ints _, _, rfl, ?_⟩
    rw [eqv_ints]
    refine iteF2 (by decide +kernel) ?_
    have S79 := sm8.trans S8
    generalize upd H8 l3 (.lst [.int 2, .int 30, .int 480]) = H9 at S79 ⊢
    -- the draw
    refine ⟨_, rfl, sa, sw, sc, T, 3, rfl, St.same s7 S79, by omega, by decide, pow1000 (n := 3) (by decide), fun H10 d dd0 dd1 k10 s10 => ?_⟩
    obtain ⟨n, rfl⟩ : ∃ n : Nat, d = (n : Int) := ⟨d.toNat, by omega⟩
    have hn : n ≤ 2 := by omega
    have k710 : Kept sa sw H7 H10 := (Kept.of S79).trans k10
    have hlo10 := k710 _ _ hlo7 olo.1 olo.2
    have hwd10 := k710 _ _ hwd7 owd.1 owd.2
    have tabs10 := tabs_kept tabs7 s7 k710
    have at10 : LotsAt K H10 A0 B := fun r hr' => ⟨k710 _ _ (at7 r hr').1 (oA r hr').1 (oA r hr').2.1, PL.tk (at7 r hr').2 (TK.kept s7 k710)⟩
    clear at7 hlo7 hwd7 tabs7 s7 k710 k10 S79 S8 sm8
    have pB : ((B n).map (·.2)).Perm (withR n) := by
      rw [hB n hn]
      exact out_nine hn
    -- told
    refine ⟨_, rfl, _, rfl, wd, wordsN.map V.str, (n : Nat), .str (wordR n), rfl, rfl, .inl (.inl hwd10), atI_nat (words_at hn), rfl, .inl ⟨n, rfl, hn, fun H11 lt bt S11 nlt hlt plt hbt => ?_⟩⟩
    refine ⟨_, rfl, _, rfl, _, rfl, lo, refsA A0, (n : Nat), .ref (A0 n), rfl, rfl, .inl (.inl (S11 _ _ hlo10)), atI_nat (refs_at hn), ?_⟩
    unfold tNil
    refine sort_pl (.inl (.inl (S11 _ _ (at10 n hn).1))) ((at10 n hn).2.same S11) (by rw [hB n hn]; exact out_srt hn) fun p bs' np pl' he => ?_
    have S12 : Same H11 (upd H11 p (.lst (bs'.map (·.1)))) := same_upd np
    refine ⟨_, _, dp_chests (S12 _ _ hlt) (plt.same S12), dp_chests upd_same (pl'.same S12), ?_, ?_, _, rfl, ?_⟩
    · rw [hbt]
      exact shaped_tups srt_ok'
    · rw [he, srt_perm pB]
      exact shaped_tups srt_ok'
    rw [he, srt_perm pB, hbt, refl_tups srt_ok']
    refine iteF2 rfl ?_
    have S1012 : Same H10 (upd H11 p (.lst (bs'.map (·.1)))) := S11.trans S12
    have hlt12 := S12 _ _ hlt
    generalize upd H11 p (.lst (bs'.map (·.1))) = H12 at S1012 hlt12
    refine ⟨_, rfl, .inl ⟨rfl, _, .inl (.inl hlt12)⟩, lt, _, _, rfl, rfl, hlt12, ?_, ?_⟩
    · have h3 := congrArg List.length hbt
      rw [List.length_map, srtC, List.length_mergeSort] at h3
      have := with_len n
      rw [List.length_map]
      exact small1000 (by omega)
    have S1013 : Same H10 (upd H12 lt (.lst (bt.map (·.1) ++ [.non]))) := same_put S1012 nlt
    generalize upd H12 lt (.lst (bt.map (·.1) ++ [.non])) = H13 at S1013
    -- singles
    refine ⟨rfl, fun l14 nl14 => ?_⟩
    have T14 : Same H13 (upd H13 l14 (.lst (toolsN.map V.str))) := same_upd nl14
    have hl14 : (upd H13 l14 (.lst (toolsN.map V.str))) l14 = some (.lst (toolsN.map V.str)) := upd_same
    generalize upd H13 l14 (.lst (toolsN.map V.str)) = H14 at T14 hl14
    refine ⟨l14, rfl, ⟨_, .inl (.inl hl14)⟩, fun sl nsl => ?_⟩
    refine lc_list (K := K) (a := l14) (xs := toolsN.map V.str) (fun i H' => ∃ ds : List Pr, H' sl = some (.lst (ds.map (·.1))) ∧ PL K H' ds ∧ ds.map (·.2) = ((toolsN.take i).filter fun t => decide (rankC [t] = n)).map (fun t => [t]) ∧ Same H14 H')
      ⟨[], upd_same, PL.nil, rfl, same_upd nsl⟩ (fun i H' _ ⟨_, _, _, _, sm⟩ => .inl (.inl (sm _ _ hl14))) ?_ ?_
    · rintro i x H15 hx ⟨ds, hD, pl, hds, sm⟩
      obtain ⟨z, rfl, hz⟩ : ∃ z, x = V.str z ∧ toolsN[i]? = some z := by
        rw [List.getElem?_map] at hx
        cases g : toolsN[i]? with
        | none => rw [g] at hx; cases hx
        | some z => rw [g] at hx; exact ⟨z, (Option.some.inj hx).symm, rfl⟩
      have zm := List.mem_of_getElem? hz
      have hi9 : i < 9 := (List.getElem?_eq_some_iff.mp hz).1
      have dl : ds.length ≤ 9 := by
        have h3 := congrArg List.length hds
        rw [List.length_map, List.length_map] at h3
        rw [h3]
        refine Nat.le_trans (List.length_filter_le _ _) ?_
        rw [List.length_take]
        omega
      refine ⟨rfl, _, rfl, by show 1 ≤ sizeLine; decide, fun u nu => ?_⟩
      have U1 : Same H15 (upd H15 u (.tup [.str z])) := same_upd nu
      have hu1 : (upd H15 u (.tup [.str z])) u = some (.tup [.str z]) := upd_same
      generalize upd H15 u (.tup [.str z]) = H16 at U1 hu1
      refine ⟨u, [z], rfl, .inl (.inl hu1), fun y hy => List.mem_singleton.mp hy ▸ zm, by show 1 ≤ 60; decide, fun H17 U2 => ?_⟩
      have step : ((toolsN.take (i + 1)).filter fun t => decide (rankC [t] = n)).map (fun t => [t]) = ds.map (·.2) ++ (if rankC [z] = n then [[z]] else []) := by
        rw [hds, List.take_succ, hz, List.filter_append, List.map_append]
        by_cases e : rankC [z] = n <;> simp [e]
      have sm17 := sm.trans (U1.trans U2)
      refine ⟨_, rfl, rfl, _, rfl, ?_⟩
      by_cases e : rankC [z] = n
      · refine iteT2 (decide_eq_true (by rw [e])) ⟨_, rfl, by show 1 ≤ sizeLine; decide, fun v nv => ?_⟩
        have U3 : Same H17 (upd H17 v (.tup [.str z])) := same_upd nv
        have hv1 : (upd H17 v (.tup [.str z])) v = some (.tup [.str z]) := upd_same
        generalize upd H17 v (.tup [.str z]) = H18 at U3 hv1
        have hD18 := U3 _ _ (U2 _ _ (U1 _ _ hD))
        have kk : Kept sl sl H18 (upd H18 sl (.lst (ds.map (·.1) ++ [.ref v]))) := fun b o e n _ => (upd_ne n).trans e
        have tt := tk_one (K := K) hD18 kk
        refine ⟨_, hD18, ?_, ds ++ [(.ref v, [z])], by rw [upd_same, List.map_append]; rfl, ?_, ?_, same_put (sm17.trans U3) nsl⟩
        · rw [List.length_map]
          exact small1000 (by omega)
        · exact PL.append (PL.tk (pl.same (U1.trans (U2.trans U3))) tt) (PL.one (tt _ _ (.inl (.inl hv1))))
        · rw [List.map_append, step, if_pos e]
          rfl
      · refine iteF2 (decide_eq_false fun z => e ?_) ⟨ds, U2 _ _ (U1 _ _ hD), pl.same (U1.trans U2), ?_, sm17⟩
        · have := V.int.inj z
          exact_mod_cast this
        · rw [step, if_neg e, List.append_nil]
    rintro H15 ⟨ds, hsl, plS, hds, sm15⟩
    rw [List.length_map, List.take_length] at hds
    have hds' : ds.map (·.2) = sing n := hds
    have S1015 : Same H10 H15 := S1013.trans (T14.trans sm15)
    -- least
    refine ⟨_, rfl, _, rfl, wd, wordsN.map V.str, (n : Nat), .str (wordR n), rfl, rfl, .inl (.inl (S1015 _ _ hwd10)), atI_nat (words_at hn), rfl, .inl ⟨n, rfl, hn, fun H16 ll bl S16 nll hll pll hbl => ?_⟩⟩
    refine ⟨_, rfl, sl, n, ds, rfl, rfl, hn, S16 _ _ hsl, plS.same S16, hds', fun H17 e1 b1 S17 he1 p1 hb1 => ?_⟩
    refine ⟨_, _, dp_chests (S17 _ _ hll) (pll.same S17), dp_chests he1 p1, by rw [hbl]; exact shaped_tups (lst_oks hn), by rw [hb1]; exact shaped_tups (lst_oks hn), _, rfl, ?_⟩
    rw [hbl, hb1, refl_tups (lst_oks hn)]
    refine iteF2 rfl ?_
    have hll17 := S17 _ _ hll
    refine ⟨_, rfl, .inl ⟨rfl, _, .inl (.inl hll17)⟩, ll, _, _, rfl, rfl, hll17, ?_, ?_⟩
    · have h3 := congrArg List.length hbl
      rw [List.length_map] at h3
      rw [List.length_map, h3]
      match n, hn with
      | 0, _ => exact small1000 (by decide)
      | 1, _ => exact small1000 (by decide)
      | 2, _ => exact small1000 (by decide)
    have nll10 : H10 ll = none := PySem.Spec.same_none S1015 nll
    have S1518 : Same H15 (upd H17 ll (.lst (bl.map (·.1) ++ [.non]))) := same_put (S16.trans S17) nll
    generalize upd H17 ll (.lst (bl.map (·.1) ++ [.non])) = H18 at S1518
    have S1018 := S1015.trans S1518
    refine ⟨_, rfl, _, rfl, wd, wordsN.map V.str, (n : Nat), .str (wordR n), rfl, rfl, .inl (.inl (S1018 _ _ hwd10)), atI_nat (words_at hn), .inl ⟨n, rfl, hn, fun H19 l2 b2 S19 nl2 hl2 pl2 hb2 => ?_⟩⟩
    refine ⟨sl, n, ds, rfl, rfl, hn, S19 _ _ (S1518 _ _ hsl), (plS.same S1518).same S19, hds', fun H20 e3 b3 S20 he3 p3 hb3 => ?_⟩
    refine ⟨_, _, dp_chests (S20 _ _ hl2) (pl2.same S20), dp_chests he3 p3, by rw [hb2]; exact shaped_tups (lst_oks hn), by rw [hb3]; exact shaped_tups (lst_oks hn), _, rfl, ?_⟩
    rw [hb2, hb3, refl_tups (lst_oks hn)]
    refine iteF2 rfl ?_
    have S1020 : Same H10 H20 := S1018.trans (S19.trans S20)
    have s20 := St.same s10 S1020
    have tabs20 := tabs_same tabs10 S1020
    -- no word
    refine ⟨_, rfl, by show 1 ≤ sizeLine; decide, fun u5 nu5 => ⟨by show 1 ≤ sizeLine; decide, fun l6 nl6 => ⟨by show 7 ≤ sizeLine; decide, fun l7 nl7 => ?_⟩⟩⟩
    have V1 : Same H20 (upd H20 u5 (.tup [.str "all"])) := same_upd nu5
    have hu5 : (upd H20 u5 (.tup [.str "all"])) u5 = some (.tup [.str "all"]) := upd_same
    generalize upd H20 u5 (.tup [.str "all"]) = H21 at V1 hu5 nl6 nl7 ⊢
    have V2 : Same H21 (upd H21 l6 (.lst [.str "all"])) := same_upd nl6
    have hl6 : (upd H21 l6 (.lst [.str "all"])) l6 = some (.lst [.str "all"]) := upd_same
    have ol6 := St.off (St.same s20 V1) nl6
    generalize upd H21 l6 (.lst [.str "all"]) = H22 at V2 hl6 nl7 ⊢
    have V3 : Same H22 (upd H22 l7 (.lst [.non, .str "", .str "ALL", .str "middl", .int 5, .ref u5, .ref l6])) := same_upd nl7
    have hl7 : (upd H22 l7 (.lst [.non, .str "", .str "ALL", .str "middl", .int 5, .ref u5, .ref l6])) l7 = some (.lst [.non, .str "", .str "ALL", .str "middl", .int 5, .ref u5, .ref l6]) := upd_same
    have ol7 := St.off (St.same s20 (V1.trans V2)) nl7
    generalize upd H22 l7 (.lst [.non, .str "", .str "ALL", .str "middl", .int 5, .ref u5, .ref l6]) = H23 at V3 hl7 ⊢
    have S2023 := V1.trans (V2.trans V3)
    have s23 := St.same s20 S2023
    refine ⟨sa, sw, sc, l7, _, _, rfl, s23, by omega, .inl (.inl hl7), ol7.1, ol7.2.1, by show 0 < 7; decide, by show 7 ≤ 1000; decide, fun H24 x hx k24 s24 => ?_⟩
    have ox : OddW H24 x := by
      have tkk : TK K H23 H24 := TK.kept s23 k24
      obtain ⟨z0, zws, zcs, zr, zt, z1, z2, _⟩ := s23
      simp only [List.mem_cons, List.not_mem_nil, or_false] at hx
      rcases hx with rfl | rfl | rfl | rfl | rfl | rfl | rfl
      · exact .atom rfl fun z e => by cases e
      · exact .atom (by decide +kernel) fun z e => by cases e; decide +kernel
      · exact .atom (by decide +kernel) fun z e => by cases e; decide +kernel
      · exact .atom (by decide +kernel) fun z e => by cases e; decide +kernel
      · exact .atom (by decide +kernel) fun z e => by cases e
      · have h5 := (V2.trans V3) _ _ hu5
        refine .tup (k24 _ _ h5 (fun z => ?_) (fun z => ?_))
        · rw [z, z1] at h5
          cases h5
        · rw [z, z2] at h5
          cases h5
      · exact .lst (k24 _ _ (V3 _ _ hl6) ol6.1 ol6.2.1)
    have k1024 : Kept sa sw H10 H24 := (Kept.of (S1020.trans S2023)).trans k24
    have hlo24 := k1024 _ _ hlo10 olo.1 olo.2
    have hwd24 := k1024 _ _ hwd10 owd.1 owd.2
    have hAn24 := k1024 _ _ (at10 n hn).1 (oA n hn).1 (oA n hn).2.1
    have tabs24 := tabs_kept tabs10 s10 k1024
    -- the errors
    refine ⟨tabs24, fun Ha ea ta => ?_⟩
    obtain ⟨o1, t1, no1⟩ := (ox.ext ea).tx
    refine ⟨_, rfl, .inr ⟨x, o1, rfl, t1, no1, fun Hb Sb => ⟨exm, fun er ner => ?_⟩⟩⟩
    have eb : LamX.ExtN H24 (upd Hb er (ErrO (.ref CW) none er)) := ea.trans (LamX.ExtN.of (Sb.trans (same_upd ner)))
    have tb := tabs_same ta (Sb.trans (same_upd (o := ErrO (.ref CW) none er) ner))
    have her : (upd Hb er (ErrO (.ref CW) none er)) er = some (ErrO (.ref CW) none er) := upd_same
    generalize upd Hb er (ErrO (.ref CW) none er) = Hc at eb tb her
    refine ⟨tb, fun Hd ed td => ?_⟩
    obtain ⟨o2, t2, no2⟩ := (ox.ext (eb.trans ed)).tx
    refine ⟨_, rfl, .inr ⟨x, o2, rfl, t2, no2, fun He Se => ⟨exm, fun er2 ner2 => ?_⟩⟩⟩
    have ee : LamX.ExtN H24 (upd He er2 (ErrO (.ref CW) none er2)) := eb.trans (ed.trans (LamX.ExtN.of (Se.trans (same_upd ner2))))
    have her2 : (upd He er2 (ErrO (.ref CW) none er2)) er2 = some (ErrO (.ref CW) none er2) := upd_same
    have her' : (upd He er2 (ErrO (.ref CW) none er2)) er = some (ErrO (.ref CW) none er) := (Se.trans (same_upd ner2)) _ _ (ed _ _ her (fun _ z => by cases z))
    generalize upd He er2 (ErrO (.ref CW) none er2) = Hf at ee her2 her'
    refine ⟨by show 2 ≤ sizeLine; decide, fun el nel => ?_⟩
    have Sg : Same Hf (upd Hf el (.lst [.ref er, .ref er2])) := same_upd nel
    have hel : (upd Hf el (.lst [.ref er, .ref er2])) el = some (.lst [.ref er, .ref er2]) := upd_same
    have eg : LamX.ExtN H24 (upd Hf el (.lst [.ref er, .ref er2])) := ee.trans (LamX.ExtN.of Sg)
    have herg := Sg _ _ her'
    have her2g := Sg _ _ her2
    generalize upd Hf el (.lst [.ref er, .ref er2]) = Hg at eg hel herg her2g
    refine ⟨_, rfl, el, rfl, ⟨_, .inl (.inl hel)⟩, fun D2 nD2 => ?_⟩
    refine lc_list (K := K) (a := el) (xs := [.ref er, .ref er2]) (fun i H' => H' D2 = some (.lst []) ∧ Same Hg H') ⟨upd_same, same_upd nD2⟩ (fun i H' _ ⟨_, sm⟩ => .inl (.inl (sm _ _ hel))) ?_ ?_
    · rintro i x2 Hh hx2 ⟨hD2, sm⟩
      obtain ⟨e4, rfl, he4⟩ : ∃ e4, x2 = .ref e4 ∧ Hh e4 = some (ErrO (.ref CW) none e4) := by
        have := List.mem_of_getElem? hx2
        simp only [List.mem_cons, List.not_mem_nil, or_false] at this
        rcases this with rfl | rfl
        · exact ⟨er, rfl, sm _ _ herg⟩
        · exact ⟨er2, rfl, sm _ _ her2g⟩
      refine ⟨rfl, _, rfl, e4, .ref CW, .ref CW, true, rfl, he4, fun u r => r, kit, true, rfl, iteF ⟨hD2, sm⟩⟩
    rintro Hh ⟨hD2, smh⟩
    refine ⟨Nat.zero_le _, fun l9 nl9 => ?_⟩
    have Si : Same Hh (upd Hh l9 (.lst [])) := same_upd nl9
    refine ⟨_, _, dp_nil (Si _ _ hD2), dp_nil upd_same, shaped_nil, shaped_nil, _, rfl, ?_⟩
    refine iteF ?_
    have ei : LamX.ExtN H24 (upd Hh l9 (.lst [])) := eg.trans (LamX.ExtN.of (smh.trans Si))
    generalize upd Hh l9 (.lst []) = Hi at ei
    -- how many at the end
    refine ⟨_, rfl, _, rfl, wd, wordsN.map V.str, (n : Nat), .str (wordR n), rfl, rfl, .inl (.inl (ei _ _ hwd24 fun _ z => by cases z)), atI_nat (words_at hn), .inl ⟨n, rfl, hn, fun Hj lj bj Sj nlj hlj plj hbj => ?_⟩⟩
    refine ⟨lj, _, rfl, .inl (.inl (.inl hlj)), ?_⟩
    refine ⟨_, rfl, _, rfl, lo, refsA A0, (n : Nat), .ref (A0 n), rfl, rfl, .inl (.inl (Sj _ _ (ei _ _ hlo24 fun _ z => by cases z))), atI_nat (refs_at hn), ?_⟩
    refine ⟨A0 n, _, rfl, .inl (.inl (.inl (Sj _ _ (ei _ _ hAn24 fun _ z => by cases z)))), rfl, ?_⟩
    have el2 : (bj.map (·.1)).length = ((B n).map (·.1)).length := by
      have h3 := congrArg List.length hbj
      have h4 := pB.length_eq
      rw [List.length_map, srtC, List.length_mergeSort] at h3
      rw [List.length_map] at h4
      rw [List.length_map, List.length_map]
      omega
    show Q (.bl (decide (V.int ((bj.map (·.1)).length : Nat) = V.int (((B n).map (·.1)).length : Nat)))) Hj
    rw [el2, decide_eq_true rfl]
    exact q Hj
end
end Y40

set_option Elab.async false
set_option linter.all false
set_option maxRecDepth 100000
set_option maxHeartbeats 4000000
/-! The law's look at the first step beyond a chest. -/
namespace Y41
open PySem PySem.Spec PyProof.Rows L2 Cau Dr15 Y1 Y2 Y3 Y4 Y5 Y6 Y7 Y8 Y10 Y11 Y12 Y13 Y18 Y21 Y22 Y24 Y25 Y30 Y31 Y32 Y33 Y34 Y35 Y36 Y37 Y38 Y39 RepG
abbrev sBarR : Stmt := topS 57
def barRN : List Str := ["state", "chest", "known", "spot", "fresh", "tools", "due", "first", "second", "odd", "steps", "step", "at"]
/-- values that are no drawings -/
inductive OddS (H : Hp) : V → Prop
  | non : OddS H .non
  | dict {p : Addr} {kvs : List (Key × V)} (h : H p = some (.dK kvs)) : OddS H (.ref p)
  | one {p : Addr} (h : H p = some (.lst [.non])) : OddS H (.ref p)
  | bad {p t d : Addr} (h : H p = some (.lst [.ref t])) (h1 : H t = some (.tup [.str "a", .ref d])) (h2 : H d = some (.tup [.str "gauge", .str "a", .str "o"])) : OddS H (.ref p)
section
variable {K : PySem.W.Frag} {H H' : Hp} {v : V}
theorem OddS.ext (h : OddS H v) (s : LamX.ExtN H H') : OddS H' v := by
  cases h with
  | non => exact .non
  | dict h => exact .dict (s _ _ h (fun _ z => by cases z))
  | one h => exact .one (s _ _ h (fun _ z => by cases z))
  | bad h h1 h2 => exact .bad (s _ _ h (fun _ z => by cases z)) (s _ _ h1 (fun _ z => by cases z)) (s _ _ h2 (fun _ z => by cases z))
theorem OddS.sv (h : OddS H v) : ∃ o, Sv K H v o ∧ goesO o sheetL = false := by
  cases h with
  | non => exact ⟨none, .inr ⟨.atom rfl, rfl⟩, rfl⟩
  | dict h => exact ⟨none, .inr ⟨.dK h, rfl⟩, rfl⟩
  | @one p h =>
    refine ⟨some [.bad], .inl ⟨p, [.non], [.bad], rfl, .inl (.inl (.inl h)), rfl, by show 1 ≤ 200; decide, fun j w o e1 e2 => ?_, rfl⟩, rfl⟩
    match j, e1, e2 with
    | 0, e1, e2 =>
      cases e1
      cases e2
      exact .inl (.atom rfl)
  | @bad p t d h h1 h2 =>
    refine ⟨some [.pair (.str "a") (some [.str "gauge", .str "a", .str "o"])], .inl ⟨p, [.ref t], _, rfl, .inl (.inl (.inl h)), rfl, by show 1 ≤ 200; decide, fun j w o e1 e2 => ?_, rfl⟩, by decide +kernel⟩
    match j, e1, e2 with
    | 0, e1, e2 =>
      cases e1
      cases e2
      exact ⟨t, .ref d, rfl, .inl (.inl h1), by decide +kernel, .inl ⟨d, _, rfl, .inl (.inl h2), by decide +kernel, by show 3 ≤ 100; decide, rfl⟩⟩
end
theorem show_nat : ∀ n < 30, (PyData.int (n : Nat)).showable = true ∧ (PyData.int (n : Nat)).hasDict = false ∧ (PyData.int (n : Nat)).depth ≤ 60 ∧ (PyData.int (n : Nat)).shown.length ≤ sizeLine := by decide +kernel
theorem show_opt {o : Option Nat} (h : ∀ n, o = some n → n < 30) : ∃ d : PyData, (∀ (K : PySem.W.Frag) (H : Hp), Dp K H (natV o) d) ∧ d.showable = true ∧ d.hasDict = false ∧ d.depth ≤ 60 ∧ d.shown.length ≤ sizeLine := by
  cases o with
  | none => exact ⟨.none, fun _ _ => .non, by decide +kernel⟩
  | some n =>
    obtain ⟨w1, w2, w3, w4⟩ := show_nat n (h n rfl)
    exact ⟨.int (n : Nat), fun _ _ => .int _, w1, w2, w3, w4⟩
/-- the places of tools that the chest has not -/
def dueL (ts : List Str) (c : Ch) (k : Nat) : List Nat := (List.range k).filter fun i => barB c (ts.getD i "")
theorem due_succ (ts : List Str) (c : Ch) (k : Nat) : dueL ts c (k + 1) = dueL ts c k ++ (if barB c (ts.getD k "") = true then [k] else []) := by
  unfold dueL
  rw [List.range_succ, List.filter_append]
  congr 1
  rw [List.filter_cons]
  rfl
theorem due_head (ts : List Str) (c : Ch) : (dueL ts c ts.length).head? = firstB ts c := by
  have gen : ∀ k, k ≤ ts.length → (dueL ts c k).head? = (ts.take k).findIdx? (barB c) := by
    intro k
    induction k with
    | zero => intro _; rfl
    | succ k ih =>
      intro hk
      have ih := ih (by omega)
      have hg : ts[k]? = some (ts.getD k "") := by
        rw [List.getD_eq_getElem?_getD, List.getElem?_eq_getElem (by omega)]
        rfl
      rw [due_succ, List.take_succ, hg, List.findIdx?_append, ← ih]
      cases hd : dueL ts c k with
      | cons x r => rfl
      | nil =>
        have hl : (ts.take k).length = k := by
          rw [List.length_take]
          omega
        rw [hl]
        generalize ts.getD k "" = z
        cases e : barB c z <;> simp [List.findIdx?_cons, e]
  rw [gen ts.length (Nat.le_refl _), List.take_length]
  rfl
theorem due_lt {ts : List Str} {c : Ch} {k n : Nat} (h : n ∈ dueL ts c k) : n < k := List.mem_range.mp (List.mem_filter.mp h).1
theorem due_len (ts : List Str) (c : Ch) (k : Nat) : (dueL ts c k).length ≤ k := Nat.le_trans (List.length_filter_le _ _) (by rw [List.length_range]; exact Nat.le_refl _)
def spBarR (K : PySem.W.Frag) (TT : List (Addr × Str)) : Sp := fun vs H Q _ => ∃ (a w c p : Addr) (T : Nat) (ch : Ch), vs = [.ref a, .ref p] ∧ St H a w c T ∧ T + 400 ≤ 1000000 ∧ ChT K H p ch ∧ LamX.Tabs TT H ∧
  ∀ (H' : Hp), KeptN a w H H' → St H' a w c (T + 400) → LamX.Tabs TT H' → Q (.bl true) H'
/-- some steps -/
def tSteps (K : PySem.W.Frag) : TS := fun D σ H => ∃ (a w c : Addr) (T : Nat) (x1 : V), σ = [some (.ref a), some x1, none, none, none, none, none, none, none, none, none, none, none] ∧ St H a w c T ∧ T + 300 ≤ 1000000 ∧
  ∀ (H' : Hp) (L Fo : Addr) (ys : List V) (st : List St1) (y3 y4 : Option V), H' Fo = some (.lst ys) → H Fo = none → Sdl K H' ys st → st.length ≤ 5 → goesB (st.map sdOf) sheetL = true → Kept a w H H' → St H' a w c (T + 300) → (Fo ≠ a ∧ Fo ≠ w) →
    D.nx [some (.ref a), some x1, some (.ref L), y3, y4, none, none, none, none, none, some (.ref Fo), none, none] H'
/-- told twice -/
def tTold (K : PySem.W.Frag) : TS := fun D σ H => ∃ (x0 x2 x5 : V) (y3 y4 : Option V) (Fo pc Du : Addr) (ys : List V) (st : List St1) (ch : Ch), σ = [some x0, some (.ref pc), some x2, y3, y4, some x5, some (.ref Du), none, none, none, some (.ref Fo), none, none] ∧ H Fo = some (.lst ys) ∧ Sdl K H ys st ∧ st.length ≤ 5 ∧ goesB (st.map sdOf) sheetL = true ∧ ChT K H pc ch ∧
  H Du = some (.lst ((dueL (toolsOf st) ch (toolsOf st).length).map fun n => V.int (n : Nat))) ∧ ∀ H', Same H H' → D.nx σ H'
section
variable {P : Program} {w : World} {K : PySem.W.Frag} {mg : Str → Option Value} {base : Heap}
theorem scBR : FnScope barRN ["state", "chest"] (defScope sBarR) := ⟨rfl, rfl, rfl, by decide +kernel, rfl, by decide +kernel, by decide +kernel⟩
theorem ok_barR {f fD fN fE fP fF fB fC CR CB CC c Pt : Addr} {fdD fdN fdE fdP fdF fdB : FuncData} {TT : List (Addr × Str)}
    {od an odC anC : Option Addr} {osl oslC : Array (Option Value)} {dV kV doc pm ct oc kVC docC pmC ctC ocC cdvC dVC : Value}
    (lk : K.lookup f = some ⟨oc, od, .func (PySem.W.fnOf "_law_barred_right" "_law_barred_right" (defArgs sBarR) (defBody sBarR) (defScope sBarR) dV kV doc pm an (.ref c) ct), osl⟩) (hcd : PySem.W.codeIn K (.ref c) "_law_barred_right" = true)
    (TB : LamX.TabB base mg c Pt) (hmT : (Pt, ((("_law_barred_right" : Str) ++ ".<locals>.") ++ "<lambda>" : Str)) ∈ TT) (huT : ∀ p ∈ TT, p.1 = Pt → p.2 = (("_law_barred_right" : Str) ++ ".<locals>.") ++ "<lambda>")
    (FD : Fun K "_law_draw" "_law_draw" sDraw fD fdD) (GD : FnOk P w K mg base CX0 2 fD fdD ["state", "room"] spDraw) (bD : Binds K fdD ["state", "room"] []) (gD : mg "_law_draw" = some (.ref fD))
    (FN : Fun K "_law_name" "_law_name" sNm fN fdN) (GN : FnOk P w K mg base CX0 4 fN fdN ["state", "barred"] (spNm K)) (bN : Binds K fdN ["state", "barred"] []) (gN : mg "_law_name" = some (.ref fN))
    (FE : Fun K "_law_deed" "_law_deed" sDrawn fE fdE) (GE : FnOk P w K mg base CX0 4 fE fdE ["state", "word", "names"] (spDrawn K)) (bE : Binds K fdE ["state", "word", "names"] []) (gE : mg "_law_deed" = some (.ref fE))
    (FP : Fun K "_law_pick" "_law_pick" sPick fP fdP) (GP : FnOk P w K mg base CX0 3 fP fdP ["state", "some"] (spPick K)) (bP : Binds K fdP ["state", "some"] []) (gP : mg "_law_pick" = some (.ref fP))
    (FF : Fun K "_law_forms" "_law_forms" sForms fF fdF) (GF : FnOk P w K mg base CX0 1 fF fdF [] spForms) (bF : Binds K fdF [] []) (gF : mg "_law_forms" = some (.ref fF))
    (FB : Fun K "first_barred" "first_barred" sBarred fB fdB) (GB : FnOk P w K mg base (L2.CX P w) 6 fB fdB ["steps", "chest"] (spBarred K CB CC)) (bB : Binds K fdB ["steps", "chest"] []) (kB : KBn K fdB ["steps", "chest"] 0 ["steps", "chest"] (fun _ ws => ws) (fun _ zs => zs)) (gB : mg "first_barred" = some (.ref fB))
    (lkC : K.lookup fC = some ⟨ocC, odC, .func (PySem.W.fnOf "_law_caught" "_law_caught" (defArgs sCaught) (defBody sCaught) (defScope sCaught) dVC kVC docC pmC anC cdvC ctC), oslC⟩) (hcdC : PySem.W.codeIn K cdvC "_law_caught" = true) (kC : PySem.W.keepIn K (.ref fC) = true)
    (bC : Binds K (PySem.W.fnOf "_law_caught" "_law_caught" (defArgs sCaught) (defBody sCaught) (defScope sCaught) dVC kVC docC pmC anC cdvC ctC) ["action"] []) (gC : mg "_law_caught" = some (.ref fC))
    (gRE : mg "RulerError" = some (.ref CR)) (gBB : mg "BadDrawing" = some (.ref CB)) (gBC : mg "BadChest" = some (.ref CC)) (exmB : PySem.W.exmOne K (.ref CB) (.ref CR) = some true) (kitB : PySem.W.kitOne K (.ref CB) (.ref CB) = some true) (EB : ExcC K CB)
    (exmC : PySem.W.exmOne K (.ref CC) (.ref CR) = some true) (kitC : PySem.W.kitOne K (.ref CC) (.ref CC) = some true) (EC : ExcC K CC)
    (mr : mg "range" = none) (mlen : mg "len" = none) (mso : mg "sorted" = none) (mi : mg "isinstance" = none) (mrp : mg "repr" = none) :
    RepG.FnG P w K mg base CX0 9 f (PySem.W.fnOf "_law_barred_right" "_law_barred_right" (defArgs sBarR) (defBody sBarR) (defScope sBarR) dV kV doc pm an (.ref c) ct) ["state", "chest"] (spBarR K TT) := by
  refine okGL lk hcd scBR (fun vs H Q E h => ?_) (fun A outer s H vs Q E g hr h => ?_)
  · obtain ⟨a, w, c, p, T, ch, rfl, _⟩ := h
    rfl
  · obtain ⟨sa, sw, sc, pc, T, ch, rfl, hSt, hT, hc, tabs, q⟩ := h
    have hu := hu_of (hr.mono (Nat.zero_le _) : Room 0 _)
    have hr6 : Room 6 _ := hr.mono (by decide)
    have hr4 : Room 4 _ := hr.mono (by decide)
    have hr3 : Room 3 _ := hr.mono (by decide)
    have hr2 : Room 2 _ := hr.mono (by decide)
    have hr1 : Room 1 _ := hr.mono (by decide)
    refine ⟨_, pss_cons (ps_asg (pe_tup (pa_cons (pe_lst pa_nil) (pa_cons (pe_lst (pa_cons pe_str (pa_cons pe_str (pa_cons pe_str (pa_cons pe_str (pa_cons pe_str pa_nil)))))) pa_nil)))
          (pg_tup (by rfl) (pgs_cons (pg_name (i := 10) scBR.nd rfl (.inr rfl)) (pgs_cons (pg_name (i := 2) scBR.nd rfl (.inl rfl)) pgs_nil))))
      (pss_cons (ps_for PassesOwn.never rfl (pi_range1 (by rfl) mr (pa_cons (pe_call GD hr2 (by rfl) gD FD.kp bD .nil pass0 (pa_cons (pv 0) (pa_cons pe_int pa_nil))) pa_nil)) (pg_name (i := 3) scBR.nd rfl (.inl rfl))
        (pss_cons (ps_set (i := 4) scBR.nd rfl (.inl rfl) (pe_call GN hr4 (by rfl) gN FN.kp bN .nil pass0 (pa_cons (pv 0) (pa_cons (pv 2) pa_nil))))
        (pss_cons (ps_expr (pe_bm PySem.F.plainAttrs_list PySem.F.slot_list_append PySem.F.type_list_append mt_append (pv 10) (pa_cons (pe_tup (pa_cons (pv 4) (pa_cons
            (pe_call GE hr4 (by rfl) gE FE.kp bE .nil pass0 (pa_cons (pv 0) (pa_cons (pe_call GP hr3 (by rfl) gP FP.kp bP .nil pass0 (pa_cons (pv 0) (pa_cons (pe_callB (call_sortedD rfl) (by rfl) mso (by decide +kernel) (pa_cons (pe_call0 GF hr1 (by rfl) gF FF.kp bF .nil pass0) pa_nil)) pa_nil)))
              (pa_cons (pv 2) pa_nil)))) pa_nil))) pa_nil)))
        (pss_one (ps_expr (pe_bm PySem.F.plainAttrs_list PySem.F.slot_list_append PySem.F.type_list_append mt_append (pv 2) (pa_cons (pv 4) pa_nil)))))))
      (pss_cons (ps_set (i := 5) scBR.nd rfl (.inr rfl) (pe_lc (own := [("step", 11)]) (g := gName 11) (tt := tYes) rfl scBR.nd (pi_list (pv 10))
          (blkOk_by (own := [("step", 11)]) (N := barRN) (sc := defScope sBarR) (by decide +kernel)) (fun _ _ _ _ _ => pg_name (i := 11) scBR.nd rfl (.inl rfl)) (fun _ _ _ _ _ => pts_nil)
          (fun _ _ _ _ _ => pe_dget2 hu (pe_disp (pps_cons pe_str pe_str (pps_cons pe_str pe_str (pps_cons pe_str pe_str pps_nil))) (by rfl) (by rfl) (fun z => by cases z) (by decide))
            (pe_ix (show IxR _ (rIxT K) from ix_tup) (pe_ix (show IxR _ (rIxT K) from ix_tup) (pv 11) pe_int (fun _ _ => rfl)) pe_int (fun _ _ => rfl))
            (pe_ix (show IxR _ (rIxT K) from ix_tup) (pe_ix (show IxR _ (rIxT K) from ix_tup) (pv 11) pe_int (fun _ _ => rfl)) pe_int (fun _ _ => rfl)) ⟨rfl, rfl, rfl, rfl⟩)))
      (pss_cons (ps_setLc (i := 6) (own := [("at", 12)]) (g := gName 12) rfl scBR.nd rfl rfl (sw_true rfl rfl rfl (by decide +kernel)) (pi_range1 (by rfl) mr (pa_cons (pe_callB call_len_seq (by rfl) mlen PySem.boot_len (pa_cons (pv 10) pa_nil)) pa_nil))
          (blkOk_by (own := [("at", 12)]) (N := barRN) (sc := defScope sBarR) (by decide +kernel)) (fun _ _ _ _ _ => pg_name (i := 12) scBR.nd rfl (.inl rfl))
          (fun _ _ _ _ _ => pts_one (PW.pt (pw_and (pt_cmpR op_ne (pe_ix (show IxR _ (rIxL K) from ix_list) (pv 5) (pv 12) (fun _ _ => rfl)) pe_str (nomark _))
            (pw_and1 (pt_cmpR (show OpR _ (compareOp .NotIn) (rIn K true) from op_notIn_seq) (pe_ix (show IxR _ (rIxL K) from ix_list) (pv 5) (pv 12) (fun _ _ => rfl)) (pv 1) (by rfl))))))
          (fun _ _ _ _ _ => pv 12))
      (pss_cons (ps_weak (t' := tTold K) (ps_if (pt_cmpR op_ne (pe_callB (call_repr g hr) (by rfl) mrp (by decide +kernel) (pa_cons (pe_kw GB hr6 (by rfl) gB FB.kp kB passN (pk_cons (pv 10) (pk_cons (pv 1) pk_nil))) pa_nil))
          (pe_callB (call_repr g hr) (by rfl) mrp (by decide +kernel) (pa_cons (pe_ifExp (pt_cmpR (op_neD hr.units) (pv 6) (pe_lst pa_nil) (nomark _)) (pe_ix ix_list (pv 6) pe_int (fun _ _ => rfl)) pe_non) pa_nil)) (nomark _)) (pss_one (ps_ret pe_bl)) pss_nil) ?told)
      (pss_cons (ps_set (i := 9) scBR.nd rfl (.inr rfl) (pe_call GP hr3 (by rfl) gP FP.kp bP .nil pass0 (pa_cons (pv 0) (pa_cons (pe_lst (pa_cons pe_non (pa_cons (pe_lst (pa_cons pe_non pa_nil))
          (pa_cons (pe_lst (pa_cons (pe_tup (pa_cons pe_str (pa_cons (pe_tup (pa_cons pe_str (pa_cons pe_str (pa_cons pe_str pa_nil)))) pa_nil))) pa_nil)) (pa_cons pe_dnewK pa_nil))))) pa_nil))))
      (pss_cons (ps_set (i := 7) scBR.nd rfl (.inl rfl)
          (pe_cau lkC hcdC kC bC gC gRE TB rfl hmT huT (hr.mono (by decide) : Room (6 + 2) _) (by rfl) (show LamX.LamS (defScope sBarR) _ from LamX.lamS_by (by decide +kernel)) rfl (fun _ _ _ _ _ => rfl)
            (fun A o s H E f c' hrl => pe_call GB hrl (by rfl) gB FB.kp bB .nil (passes_call (takes_of rfl rfl rfl rfl) (fun _ _ _ _ h => h)) (pa_cons (pv 9) (pa_cons pe_non pa_nil)))))
      (pss_cons (ps_set (i := 8) scBR.nd rfl (.inl rfl)
          (pe_cau lkC hcdC kC bC gC gRE TB rfl hmT huT (hr.mono (by decide) : Room (6 + 2) _) (by rfl) (show LamX.LamS (defScope sBarR) _ from LamX.lamS_by (by decide +kernel)) rfl (fun _ _ _ _ _ => rfl)
            (fun A o s H E f c' hrl => pe_call GB hrl (by rfl) gB FB.kp bB .nil (passes_call (takes_of rfl rfl rfl rfl) (fun _ _ _ _ h => h)) (pa_cons (pv 10) (pa_cons (pe_lst (pa_cons pe_str pa_nil)) pa_nil)))))
      (pss_one (ps_ret (pe_and (pe_callB (call_isErr EB) (by rfl) mi (by decide +kernel) (pa_cons (pv 7) (pa_cons (pe_glob (v := .ref CB) (by rfl) gBB rfl) pa_nil)))
        (pe_one (pe_callB (call_isErr EC) (by rfl) mi (by decide +kernel) (pa_cons (pv 8) (pa_cons (pe_glob (v := .ref CC) (by rfl) gBC rfl) pa_nil)))))))))))))), ?_⟩
    case told =>
      rintro Dn σ H7 ⟨x0, x2, x5, y3, y4, Fo, pc, D, ys, st, ch, rfl, hF7, hst7, hst6, hg, hc7, hD, q1⟩
      have hD' : H7 D = some (.lst (((dueL (toolsOf st) ch (toolsOf st).length).map fun n : Nat => (n : Int)).map V.int)) := by
        rw [hD, List.map_map]
        rfl
      have lts : (toolsOf st).length = st.length := by rw [toolsOf, List.length_map]
      have hhead := due_head (toolsOf st) ch
      have hlt : ∀ n, firstB (toolsOf st) ch = some n → n < 30 := fun n e => by
        rw [← hhead] at e
        have := due_lt (List.mem_of_mem_head? e)
        omega
      obtain ⟨dd, wd, w1, w2, w3, w4⟩ := show_opt hlt
      refine ⟨_, rfl, _, rfl, rfl, .inl ⟨Fo, pc, ys, st, ch, rfl, .inl (.inl hF7), hst7, by omega, hg, hc7, fun H8 S8 => ?_⟩⟩
      refine ⟨_, dd, rfl, wd _ _, w1, w2, w3, w4, ?_⟩
      refine ⟨_, rfl, Nat.zero_le _, fun t8 nt8 => ?_⟩
      have T8 : Same H8 (upd H8 t8 (.lst [])) := same_upd nt8
      refine ⟨_, _, dp_ints (.inl (.inl (T8 _ _ (S8 _ _ hD')))), dp_nil upd_same, shaped_ints _, shaped_nil, _, rfl, ?_⟩
      rw [eqv_nil]
      have hD9 := T8 _ _ (S8 _ _ hD')
      have S79 := S8.trans T8
      have rest : ∀ (Hx : Hp) v, v = natV (firstB (toolsOf st) ch) → Dp K Hx v dd := fun Hx v e => by
        subst e
        exact wd _ _
      cases hdue : dueL (toolsOf st) ch (toolsOf st).length with
      | nil =>
        rw [hdue] at hhead
        refine iteF2 rfl ?_
        exact ⟨_, dd, rfl, rest _ .non (by rw [← hhead]; rfl), w1, w2, w3, w4, rfl, _, rfl, iteNS rfl (q1 _ S79)⟩
      | cons n0 r0 =>
        rw [hdue] at hhead hD9
        refine iteT2 rfl ?_
        refine ⟨_, rfl, D, _, 0, .int (n0 : Nat), rfl, rfl, .inl (.inl hD9), atI_nat (j := 0) rfl, ?_⟩
        exact ⟨_, dd, rfl, rest _ (.int (n0 : Nat)) (by rw [← hhead]; rfl), w1, w2, w3, w4, rfl, _, rfl, iteNS rfl (q1 _ S79)⟩
    -- no steps yet
    refine ⟨Nat.zero_le _, fun Fo nF => ⟨by show 5 ≤ sizeLine; decide, fun L nL => ⟨by show 2 ≤ sizeLine; decide, fun tp ntp => ?_⟩⟩⟩
    have T1 : Same H (upd H Fo (.lst [])) := same_upd nF
    have hF : (upd H Fo (.lst [])) Fo = some (.lst []) := upd_same
    have oF := St.off hSt nF
    have s1 := St.same hSt T1
    have nL0 : H L = none := PySem.Spec.same_none T1 nL
    generalize upd H Fo (.lst []) = H1 at T1 hF s1 nL ntp ⊢
    have T2 : Same H1 (upd H1 L (.lst [.str "o", .str "u", .str "uu", .str "v", .str "vv"])) := same_upd nL
    have hL : (upd H1 L (.lst [.str "o", .str "u", .str "uu", .str "v", .str "vv"])) L = some (.lst (sheetL.map V.str)) := upd_same
    have oL := St.off s1 nL
    have LF : L ≠ Fo := (ne_of_none hF nL).symm
    have s2 := St.same s1 T2
    generalize upd H1 L (.lst [.str "o", .str "u", .str "uu", .str "v", .str "vv"]) = H2 at T2 hL s2 ntp ⊢
    have T3 : Same H2 (upd H2 tp (.tup [.ref Fo, .ref L])) := same_upd ntp
    have htp : (upd H2 tp (.tup [.ref Fo, .ref L])) tp = some (.tup [.ref Fo, .ref L]) := upd_same
    have s3 := St.same s2 T3
    generalize upd H2 tp (.tup [.ref Fo, .ref L]) = H3 at T3 htp s3 ⊢
    refine ⟨tp, _, rfl, .inl (.inl htp), rfl, _, _, rfl, _, _, rfl, rfl, ?_⟩
    have S3 : Same H H3 := T1.trans (T2.trans T3)
    have hF3 := T3 _ _ (T2 _ _ hF)
    have hL3 := T3 _ _ hL
    have tabs3 := tabs_same tabs S3
    have hc3 := hc.same S3
    clear T1 T2 T3 hF hL htp s1 s2 nL ntp
    refine ⟨_, rfl, sa, sw, sc, T, 6, rfl, s3, by omega, by decide, pow1000 (n := 6) (by decide), fun H4 d d0 d1 k4 s4 => ?_⟩
    obtain ⟨m, rfl⟩ : ∃ m : Nat, d = (m : Int) := ⟨d.toNat, by omega⟩
    have hF4 := k4 _ _ hF3 oF.1 oF.2.1
    have hL4 := k4 _ _ hL3 oL.1 oL.2.1
    refine ⟨_, rfl, by omega, by omega, for_range (lo := 0) (n := (m : Int).toNat) (fun i σ H' => ∃ (y3 y4 : Option V) (st : List St1) (ys : List V) (T' : Nat), σ = [some (.ref sa), some (.ref pc), some (.ref L), y3, y4, none, none, none, none, none, some (.ref Fo), none, none] ∧
        H' L = some (.lst ((sheetL ++ st.map (·.1)).map V.str)) ∧ H' Fo = some (.lst ys) ∧ st.length = i ∧ Sdl K H' ys st ∧ goesB (st.map sdOf) sheetL = true ∧ (∀ p ∈ st, goodN p.1 = true) ∧ Kept sa sw H H' ∧ St H' sa sw sc T' ∧ T' ≤ T + 1 + 50 * i ∧ LamX.Tabs TT H')
      ⟨none, none, [], [], T + 1, rfl, hL4, hF4, rfl, ⟨rfl, fun i y p h => by cases h⟩, rfl, fun p h => absurd h List.not_mem_nil, (Kept.of S3).trans k4, s4, by omega, tabs_kept tabs3 s3 k4⟩ ?_ ?_⟩
    · rintro i σ H5 hi ⟨y3, y4, st, ys, T', rfl, hL, hF, hsl, hst, hg, hgn, k5, s5, hT', tb5⟩
      have hi : i < m := hi
      have yl : ys.length = i := hst.1.trans hsl
      have kgood : ∀ z ∈ sheetL ++ st.map (·.1), goodN z = true := fun z hz => by
        rcases List.mem_append.mp hz with hz | hz
        · exact List.all_eq_true.mp sheet_good z hz
        · obtain ⟨p, hp, rfl⟩ := List.mem_map.mp hz
          exact hgn p hp
      have knl : (sheetL ++ st.map (·.1)).length = 5 + i := by rw [List.length_append, List.length_map, hsl]; rfl
      refine ⟨_, rfl, _, rfl, sa, sw, sc, L, T', sheetL ++ st.map (·.1), rfl, s5, by omega, .inl (.inl hL), oL.1, oL.2.1, by omega, fun H6 z hz hz1 hz2 k6 s6 => ?_⟩
      have hL6 := k6 _ _ hL oL.1 oL.2.1
      have hF6 := k6 _ _ hF oF.1 oF.2.1
      refine ⟨_, rfl, .inl ⟨rfl, _, .inl (.inl hF6)⟩, _, rfl, _, rfl, _, rfl, rfl, fun dd nd => ?_⟩
      have Sd : Same H6 (upd H6 dd (.dK formsD)) := same_upd nd
      have hd : (upd H6 dd (.dK formsD)) dd = some (.dK formsD) := upd_same
      have s7 := St.same s6 Sd
      generalize upd H6 dd (.dK formsD) = H7 at Sd hd s7
      refine ⟨dd, formsD, formsL.map (·.1), rfl, .inl hd, forms_keys, by decide, fun ws wd perm srt nwd => ?_⟩
      have Sw : Same H7 (upd H7 wd (.lst (ws.map V.str))) := same_upd nwd
      have hw : (upd H7 wd (.lst (ws.map V.str))) wd = some (.lst (ws.map V.str)) := upd_same
      have owd := St.off s7 nwd
      have s8 := St.same s7 Sw
      generalize upd H7 wd (.lst (ws.map V.str)) = H8 at Sw hw s8
      have wl : ws.length = 11 := perm.length_eq
      have K68 : Kept sa sw H6 H8 := Kept.of (Sd.trans Sw)
      refine ⟨sa, sw, sc, wd, _, _, rfl, s8, by omega, .inl (.inl hw), owd.1, owd.2.1, by rw [List.length_map]; omega, by rw [List.length_map]; omega, fun H9 x hx k9 s9 => ?_⟩
      obtain ⟨w0, hw0, rfl⟩ := List.mem_map.mp hx
      obtain ⟨k, hf⟩ := Option.isSome_iff_exists.mp (forms_ok w0 (perm.mem_iff.mp hw0)).2
      have K69 := K68.trans k9
      have hL9 := K69 _ _ hL6 oL.1 oL.2.1
      refine ⟨_, rfl, sa, sw, sc, L, _, w0, k, _, rfl, s9, by omega, hf, .inl (.inl hL9), oL.1, oL.2.1, by omega, by omega, fun z hz => (good_name (kgood z hz)).2.1, fun H10 qd us way nqd hqd hul hus hway k10 s10 oqd => ?_⟩
      have K610 := K69.trans k10
      have K510 := k6.trans K610
      have hF10 := K610 _ _ hF6 oF.1 oF.2.1
      have hL10 := K610 _ _ hL6 oL.1 oL.2.1
      refine ⟨by show 2 ≤ sizeLine; decide, fun t nt => ?_⟩
      have tL : L ≠ t := ne_of_none hL10 nt
      have tF : Fo ≠ t := ne_of_none hF10 nt
      have ot := St.off s10 nt
      have nt0 : H t = none := kept_none (k5.trans K510) nt ⟨ot.1, ot.2.1⟩
      have Tt : Same H10 (upd H10 t (.tup [.str z, .ref qd])) := same_upd nt
      have ht : (upd H10 t (.tup [.str z, .ref qd])) t = some (.tup [.str z, .ref qd]) := upd_same
      have s11 := St.same s10 Tt
      have kA : Kept sa sw H (upd H10 t (.tup [.str z, .ref qd])) := (k5.trans K510).trans (Kept.of Tt)
      have hF11 := Tt _ _ hF10
      have hL11 := Tt _ _ hL10
      have tk511 : TK K H5 (upd H10 t (.tup [.str z, .ref qd])) := (TK.kept s5 K510).trans (TK.of Tt)
      have hqd11 : SqT K (upd H10 t (.tup [.str z, .ref qd])) qd (.str w0 :: (us.map V.str ++ way)) := sqT_same (.inl (.inl hqd)) Tt
      have tb11 : LamX.Tabs TT (upd H10 t (.tup [.str z, .ref qd])) := tabs_same (tabs_kept tb5 s5 K510) Tt
      generalize upd H10 t (.tup [.str z, .ref qd]) = H11 at Tt ht s11 kA hF11 hL11 tk511 hqd11 tb11
      refine ⟨Fo, _, _, rfl, rfl, hF11, small1000 (by omega), ?_⟩
      have hL12 : (upd H11 Fo (.lst (ys ++ [.ref t]))) L = some (.lst ((sheetL ++ st.map (·.1)).map V.str)) := (upd_ne LF).trans hL11
      refine ⟨_, rfl, .inl ⟨rfl, _, .inl (.inl hL12)⟩, _, rfl, L, _, _, rfl, rfl, hL12, by rw [List.length_map]; exact small1000 (by omega), ?_⟩
      have tkB := TK.put (K := K) (o := .lst (ys ++ [.ref t])) hF11
      have tkC := tkB.trans (TK.put (o := .lst ((sheetL ++ st.map (·.1)).map V.str ++ [.str z])) hL12)
      have tb13 := tabs_put (o := .lst ((sheetL ++ st.map (·.1)).map V.str ++ [.str z])) (tabs_put (o := .lst (ys ++ [.ref t])) tb11 hF11) hL12
      refine ⟨_, _, st ++ [(z, .str w0 :: (us.map V.str ++ way))], ys ++ [.ref t], _, rfl, ?_, (upd_ne LF.symm).trans upd_same, by rw [List.length_append, hsl]; rfl, ⟨by rw [List.length_append, List.length_append, hst.1]; rfl, ?_⟩, ?_, ?_, Kept.put (Kept.put kA nF) nL0, St.put (St.put s11 oF) oL, ?_, tb13⟩
      · rw [upd_same]
        simp
      · intro j y p hy hp
        by_cases hj : j < i
        · rw [List.getElem?_append_left (by omega)] at hy hp
          exact ((hst.2 j y p hy hp).tk tk511).tk tkC
        · have ej : j = i := by
            have := (List.getElem?_eq_some_iff.mp hy).1
            rw [List.length_append, yl] at this
            have e1 : ([V.ref t] : List V).length = 1 := rfl
            omega
          subst ej
          rw [List.getElem?_append_right (by omega), yl, Nat.sub_self] at hy
          rw [List.getElem?_append_right (by omega), hsl, Nat.sub_self] at hp
          cases hy
          cases hp
          refine ⟨t, qd, rfl, tkC _ _ (.inl (.inl ht)), tkC _ _ hqd11, ?_, ?_, good_atom hz⟩
          · rw [List.all_cons, List.all_append, word_atom hf, way_atom hway, List.all_map, Bool.true_and, Bool.and_true, List.all_eq_true]
            exact fun u hu' => good_atom (kgood u (hus u hu'))
          · have e1 := way_len hway
            have e2 := (formOf_small hf).2
            show (V.str w0 :: (us.map V.str ++ way)).length ≤ 100
            rw [List.length_cons, List.length_append, List.length_map, hul]
            omega
      · refine goes_snoc st sheetL _ hg ?_
        show stepB (.pair (.str z) (some (.str w0 :: (us.map V.str ++ way)))) (sheetL ++ st.map (·.1)) = some z
        rw [step_str, if_pos]
        rw [(good_name hz).1, drawn_deed hf hul (fun u hu' => (good_name (kgood u (hus u hu'))).1) hway, decide_eq_false hz1, drawn_names hf hul]
        simp only [Bool.true_and, Bool.not_false, List.all_eq_true, decide_eq_true_eq]
        exact fun u hu' => hus u hu'
      · intro p hp
        rcases List.mem_append.mp hp with hp | hp
        · exact hgn p hp
        · rw [List.mem_singleton.mp hp]
          exact hz
      · rw [List.length_append] at *
        have : sheetL.length = 5 := rfl
        rw [List.length_map]
        omega
    rintro σ H5 ⟨y3, y4, st, ys, T', rfl, hL, hF, hsl, hst, hg, hgn, k5, s5, hT', tb5⟩
    have hsl : st.length = m := hsl
    have hst6 : st.length ≤ 5 := by omega
    have deeds := goes_deeds st _ hg
    have hc5 : ChT K H5 pc ch := ⟨TK.kept hSt k5 _ _ hc.1, hc.2⟩
    clear hL hL4 hF4 hL3 hF3 tabs3 hc3 s3 S3 k4 s4
    -- their tools
    refine ⟨_, rfl, Fo, rfl, ⟨_, .inl (.inl hF)⟩, fun R nR => ?_⟩
    refine lc_list (K := K) (a := Fo) (xs := ys) (fun i H' => ∃ bs : List Str, H' R = some (.lst (bs.map V.str)) ∧ Same H5 H' ∧ bs = (toolsOf st).take i)
      ⟨[], upd_same, same_upd nR, rfl⟩ (fun i H' _ ⟨_, _, sm, _⟩ => .inl (.inl (sm _ _ hF))) ?_ ?_
    · rintro i y H6 hy ⟨bs, hR, sm, hbs⟩
      have hj : i < st.length := by
        have := (List.getElem?_eq_some_iff.mp hy).1
        have := hst.1
        omega
      have hpj : st[i]? = some st[i] := List.getElem?_eq_getElem hj
      have dl := deeds _ (List.getElem_mem hj)
      generalize st[i] = pj at hpj dl
      obtain ⟨yp, zp, rfl, g1, g2, g3⟩ := (hst.2 i y pj hy hpj).tk (TK.of sm)
      obtain ⟨w0, r, k, e, hf, _, hw⟩ := word_of dl.1
      refine ⟨rfl, fun d nd => ⟨upd_same, toolD, rfl, by show 3 ≤ 15; decide, ?_⟩⟩
      rw [upd_upd, tool_new]
      have smd : Same H6 (upd H6 d (.dK toolD)) := same_upd nd
      have g2' : SqT K (upd H6 d (.dK toolD)) zp (.str w0 :: r) := e ▸ sqT_same g2 smd
      have g1' : SqT K (upd H6 d (.dK toolD)) yp [.str pj.1, .ref zp] := sqT_same g1 smd
      have hd : (upd H6 d (.dK toolD)) d = some (.dK toolD) := upd_same
      generalize upd H6 d (.dK toolD) = H7 at g2' g1' hd smd
      refine ⟨d, rfl, .inl ⟨_, .inl hd⟩, _, rfl, yp, _, 1, _, rfl, rfl, g1', atI_nat (j := 1) rfl, zp, _, 0, _, rfl, rfl, g2', atI_nat (j := 0) rfl, _, rfl, yp, _, 1, _, rfl, rfl, g1', atI_nat (j := 1) rfl, zp, _, 0, _, rfl, rfl, g2', atI_nat (j := 0) rfl, _, DGet.k (k := (.inr w0 : Key)) hd, ?_⟩
      rw [tool_get]
      have hti : (toolsOf st)[i]? = some (toolW w0) := by
        unfold toolsOf
        rw [List.getElem?_map, hpj]
        show some (toolW (wordL pj.2)) = _
        rw [hw]
      refine ⟨bs.map V.str, smd _ _ hR, ?_, bs ++ [toolW w0], ?_, same_put (sm.trans smd) nR, ?_⟩
      · rw [List.length_map, hbs, List.length_take]
        exact small1000 (by omega)
      · rw [upd_same, List.map_append]
        rfl
      · rw [hbs, List.take_succ, hti]
        rfl
    rintro H6 ⟨bs, hR, sm6, hbs⟩
    have lts : (toolsOf st).length = st.length := by rw [toolsOf, List.length_map]
    rw [hst.1, ← lts, List.take_length] at hbs
    subst hbs
    have hF6 := sm6 _ _ hF
    -- the places
    refine ⟨_, rfl, Fo, _, rfl, .inl (.inl (.inl hF6)), _, rfl, by omega, by have := hst.1; omega, fun D nD => ?_⟩
    refine lc_range (lo := 0) (n := ((ys.length : Nat) : Int).toNat) (fun i H' => H' D = some (.lst ((dueL (toolsOf st) ch i).map fun n => V.int (n : Nat))) ∧ Same H6 H') ⟨upd_same, same_upd nD⟩ ?_ ?_
    · rintro i H7 hi ⟨hD, sm⟩
      have hi' : i < ys.length := by omega
      have hit : i < (toolsOf st).length := by
        have := hst.1
        omega
      have hg' : (toolsOf st)[i]? = some ((toolsOf st).getD i "") := by
        rw [List.getD_eq_getElem?_getD, List.getElem?_eq_getElem hit]
        rfl
      have hix : ((toolsOf st).map V.str)[i]? = some (.str ((toolsOf st).getD i "")) := by
        rw [List.getElem?_map, hg']
        rfl
      have eb : barB ch ((toolsOf st).getD i "") = (!decide ((toolsOf st).getD i "" = ("" : Str)) && !decide ((toolsOf st).getD i "" ∈ ch)) := rfl
      have ds := due_succ (toolsOf st) ch i
      have dl := due_len (toolsOf st) ch i
      have ez : (0 : Int) + (i : Nat) = ((i : Nat) : Int) := by omega
      generalize (toolsOf st).getD i "" = z at hg' hix eb ds
      rw [ez]
      refine ⟨rfl, _, rfl, _, rfl, R, _, _, _, rfl, rfl, .inl (.inl (sm _ _ hR)), atI_nat hix, rfl, _, rfl, ?_⟩
      show if (!decide (V.str z = V.str "")) = true then _ else _
      have no : barB ch z = false → ∀ H', H' = H7 → H' D = some (.lst ((dueL (toolsOf st) ch (i + 1)).map fun n => V.int (n : Nat))) ∧ Same H6 H' := fun e H' eH => by
        rw [ds, e, if_neg Bool.false_ne_true, List.append_nil, eH]
        exact ⟨hD, sm⟩
      by_cases e1 : z = ("" : Str)
      · exact iteF2 (by rw [e1]; simp) (no (by rw [eb, decide_eq_true e1]; rfl) _ rfl)
      · refine iteT2 (by simp [e1]) ?_
        refine ⟨_, rfl, _, rfl, R, _, _, _, rfl, rfl, .inl (.inl (sm _ _ hR)), atI_nat hix, _, rfl, pc, _, rfl, .inr (sqT_same hc5.1 (sm6.trans sm)), rfl, strs_flat _, _, rfl, ?_⟩
        rw [inV_kn]
        by_cases e2 : z ∈ ch
        · exact iteF2 (by rw [decide_eq_true e2]; rfl) (no (by rw [eb, decide_eq_true e2]; simp) _ rfl)
        · have eT : barB ch z = true := by rw [eb, decide_eq_false e1, decide_eq_false e2]; rfl
          refine iteT2 (by rw [decide_eq_false e2]; rfl) ⟨_, rfl, _, hD, ?_, ?_, same_put sm nD⟩
          · rw [List.length_map]
            exact small1000 (by omega)
          · rw [upd_same, ds, eT, if_pos rfl, List.map_append]
            rfl
    rintro H7 ⟨hD, sm7⟩
    have eN : ((ys.length : Nat) : Int).toNat = (toolsOf st).length := by
      have := hst.1
      omega
    rw [eN] at hD
    have S57 : Same H5 H7 := sm6.trans sm7
    have hF7 := S57 _ _ hF
    have hst7 := hst.tk (TK.of S57)
    have hc7 := hc5.same S57
    refine ⟨_, _, _, _, _, Fo, pc, D, ys, st, ch, rfl, hF7, hst7, hst6, hg, hc7, hD, fun H9 S79 => ?_⟩
    have S59 := S57.trans S79
    have hF9 := S59 _ _ hF
    have hst9 := hst.tk (TK.of S59)
    have s9 := St.same s5 S59
    have tb9 := tabs_same tb5 S59
    have k9 : Kept sa sw H H9 := k5.trans (Kept.of S59)
    clear hR hD sm6 sm7 hF6 S57 S79 hF7 hst7 hc7
    -- values that are no drawings
    refine ⟨_, rfl, by show 1 ≤ sizeLine; decide, fun l1 n1 => ⟨by show 3 ≤ sizeLine; decide, fun d0 nd0 => ⟨by show 2 ≤ sizeLine; decide, fun t0 nt0 => ⟨by show 1 ≤ sizeLine; decide, fun l2 n2 => fun q0 nq0 => ⟨by show 4 ≤ sizeLine; decide, fun ll nll => ?_⟩⟩⟩⟩⟩
    have V1 : Same H9 (upd H9 l1 (.lst [.non])) := same_upd n1
    have h1 : (upd H9 l1 (.lst [.non])) l1 = some (.lst [.non]) := upd_same
    have o1 := St.off s9 n1
    have v1 := St.same s9 V1
    generalize upd H9 l1 (.lst [.non]) = G1 at V1 h1 v1 nd0 nt0 n2 nq0 nll ⊢
    have V2 : Same G1 (upd G1 d0 (.tup [.str "gauge", .str "a", .str "o"])) := same_upd nd0
    have h2 : (upd G1 d0 (.tup [.str "gauge", .str "a", .str "o"])) d0 = some (.tup [.str "gauge", .str "a", .str "o"]) := upd_same
    have o2 := St.off v1 nd0
    have v2 := St.same v1 V2
    generalize upd G1 d0 (.tup [.str "gauge", .str "a", .str "o"]) = G2 at V2 h2 v2 nt0 n2 nq0 nll ⊢
    have V3 : Same G2 (upd G2 t0 (.tup [.str "a", .ref d0])) := same_upd nt0
    have h3 : (upd G2 t0 (.tup [.str "a", .ref d0])) t0 = some (.tup [.str "a", .ref d0]) := upd_same
    have o3 := St.off v2 nt0
    have v3 := St.same v2 V3
    generalize upd G2 t0 (.tup [.str "a", .ref d0]) = G3 at V3 h3 v3 n2 nq0 nll ⊢
    have V4 : Same G3 (upd G3 l2 (.lst [.ref t0])) := same_upd n2
    have h4 : (upd G3 l2 (.lst [.ref t0])) l2 = some (.lst [.ref t0]) := upd_same
    have o4 := St.off v3 n2
    have v4 := St.same v3 V4
    generalize upd G3 l2 (.lst [.ref t0]) = G4 at V4 h4 v4 nq0 nll ⊢
    have V5 : Same G4 (upd G4 q0 (.dK [])) := same_upd nq0
    have h5 : (upd G4 q0 (.dK [])) q0 = some (.dK []) := upd_same
    have o5 := St.off v4 nq0
    have v5 := St.same v4 V5
    generalize upd G4 q0 (.dK []) = G5 at V5 h5 v5 nll ⊢
    have V6 : Same G5 (upd G5 ll (.lst [.non, .ref l1, .ref l2, .ref q0])) := same_upd nll
    have h6 : (upd G5 ll (.lst [.non, .ref l1, .ref l2, .ref q0])) ll = some (.lst [.non, .ref l1, .ref l2, .ref q0]) := upd_same
    have o6 := St.off v5 nll
    have v6 := St.same v5 V6
    generalize upd G5 ll (.lst [.non, .ref l1, .ref l2, .ref q0]) = G6 at V6 h6 v6 ⊢
    have S96 : Same H9 G6 := V1.trans (V2.trans (V3.trans (V4.trans (V5.trans V6))))
    refine ⟨sa, sw, sc, ll, _, _, rfl, v6, by omega, .inl (.inl h6), o6.1, o6.2.1, by show 0 < 4; decide, by show 4 ≤ 1000; decide, fun H10 x hx k10 s10 => ?_⟩
    have ox : OddS H10 x := by
      simp only [List.mem_cons, List.not_mem_nil, or_false] at hx
      rcases hx with rfl | rfl | rfl | rfl
      · exact .non
      · exact .one (k10 _ _ ((V2.trans (V3.trans (V4.trans (V5.trans V6)))) _ _ h1) o1.1 o1.2.1)
      · exact .bad (k10 _ _ ((V5.trans V6) _ _ h4) o4.1 o4.2.1) (k10 _ _ ((V4.trans (V5.trans V6)) _ _ h3) o3.1 o3.2.1) (k10 _ _ ((V3.trans (V4.trans (V5.trans V6))) _ _ h2) o2.1 o2.2.1)
      · exact .dict (k10 _ _ (V6 _ _ h5) o5.1 o5.2.1)
    have k910 : Kept sa sw H9 H10 := (Kept.of S96).trans k10
    have hF10 := k910 _ _ hF9 oF.1 oF.2.1
    have hst10 := hst9.tk (TK.kept s9 k910)
    have tb10 := tabs_kept tb9 s9 k910
    -- the drawing first
    refine ⟨tb10, fun Ha ea ta => ?_⟩
    obtain ⟨o, hsv, ho⟩ := (ox.ext ea).sv
    refine ⟨_, rfl, .inr (.inl ⟨x, .non, o, rfl, hsv, ho, fun Hb Sb => ⟨exmB, fun e ne => ?_⟩⟩)⟩
    have eb : LamX.ExtN H10 (upd Hb e (ErrO (.ref CB) none e)) := ea.trans (LamX.ExtN.of (Sb.trans (same_upd ne)))
    have tb := tabs_same ta (Sb.trans (same_upd (o := ErrO (.ref CB) none e) ne))
    have he : (upd Hb e (ErrO (.ref CB) none e)) e = some (ErrO (.ref CB) none e) := upd_same
    generalize upd Hb e (ErrO (.ref CB) none e) = Hc at eb tb he
    -- then the chest
    refine ⟨tb, fun Hd ed td => ?_⟩
    have ed' := eb.trans ed
    refine ⟨_, rfl, by show 1 ≤ sizeLine; decide, fun l3 nl3 => ?_⟩
    have Se : Same Hd (upd Hd l3 (.lst [.str "disc"])) := same_upd nl3
    have hl3 : (upd Hd l3 (.lst [.str "disc"])) l3 = some (.lst [.str "disc"]) := upd_same
    have he2 := Se _ _ (ed _ _ he (fun _ z => by cases z))
    have ee := ed'.trans (LamX.ExtN.of Se)
    have te := tabs_same td Se
    generalize upd Hd l3 (.lst [.str "disc"]) = He at hl3 he2 ee te
    have hFe := ee _ _ hF10 (fun _ z => by cases z)
    have hste := hst10.tk (tk_ext ee)
    refine .inr (.inr ⟨.ref Fo, .ref l3, st.map sdOf, none, rfl, hste.sv (.inl (.inl (.inl hFe))) (by omega), hg, .inr ⟨.lst hl3, rfl⟩, rfl, fun Hf Sf => ⟨exmC, fun e2 ne2 => ?_⟩⟩)
    have ef : LamX.ExtN H10 (upd Hf e2 (ErrO (.ref CC) none e2)) := ee.trans (LamX.ExtN.of (Sf.trans (same_upd ne2)))
    have tf := tabs_same te (Sf.trans (same_upd (o := ErrO (.ref CC) none e2) ne2))
    have he3 : (upd Hf e2 (ErrO (.ref CC) none e2)) e = some (ErrO (.ref CB) none e) := (Sf.trans (same_upd ne2)) _ _ he2
    have he4 : (upd Hf e2 (ErrO (.ref CC) none e2)) e2 = some (ErrO (.ref CC) none e2) := upd_same
    generalize upd Hf e2 (ErrO (.ref CC) none e2) = Hg at ef tf he3 he4
    refine ⟨_, rfl, e, .ref CB, .ref CB, true, rfl, he3, fun u r => r, kitB, true, rfl, iteT2 rfl ?_⟩
    refine ⟨_, rfl, e2, .ref CC, .ref CC, true, rfl, he4, fun u r => r, kitC, ?_⟩
    refine q Hg ((KeptN.of (k9.trans k910)).trans (KeptN.ext ef)) (St.mono (St.ext s10 ef) ?_) tf
    omega
end
end Y41

set_option Elab.async false
set_option linter.all false
set_option maxRecDepth 100000
set_option maxHeartbeats 4000000
/-! The law. -/
namespace Y42
open PySem PySem.Spec PyProof.Rows L2 Cau Dr15 Y1 Y2 Y3 Y4 Y5 Y6 Y7 Y8 Y10 Y11 Y12 Y13 Y18 Y21 Y22 Y24 Y25 Y30 Y31 Y32 Y33 Y34 Y35 Y36 Y37 Y38 Y39 Y40 Y41 RepG
abbrev sLaw : Stmt := topS 58
def lawN : List Str := ["script", "state", "words", "turn", "both", "told", "errors", "odd", "one", "other", "tool", "error"]
theorem scL : FnScope lawN ["script"] (defScope sLaw) := ⟨rfl, rfl, rfl, by decide +kernel, rfl, by decide +kernel, by decide +kernel⟩
theorem any_of {c e : Ch} (hc : ∀ z ∈ c, z ∈ toolsN) (he : ∀ z ∈ e, z ∈ toolsN) (f : Str → Bool) : (ofT (c ++ e)).any f = (c.any f || e.any f) := by
  rw [← List.any_append, Bool.eq_iff_iff, List.any_eq_true, List.any_eq_true]
  constructor
  · rintro ⟨z, hz, hf⟩
    exact ⟨z, (ofT_mem.mp hz).2, hf⟩
  · rintro ⟨z, hz, hf⟩
    refine ⟨z, ofT_mem.mpr ⟨?_, hz⟩, hf⟩
    rcases List.mem_append.mp hz with h | h
    · exact hc z h
    · exact he z h
theorem rank_both {c e : Ch} (hc : ∀ z ∈ c, z ∈ toolsN) (he : ∀ z ∈ e, z ∈ toolsN) : (if ((rankC e : Nat) : Int) > ((rankC c : Nat) : Int) then ((rankC e : Nat) : Int) else ((rankC c : Nat) : Int)) = ((rankC (ofT (c ++ e)) : Nat) : Int) := by
  unfold rankC
  rw [any_of hc he, any_of hc he]
  cases c.any (fun t => decide (t ∈ allN)) <;> cases e.any (fun t => decide (t ∈ allN)) <;> cases c.any (fun t => decide (t ∈ midN)) <;> cases e.any (fun t => decide (t ∈ midN)) <;> decide
theorem cat_two {K : PySem.W.Frag} {Hx : Hp} {p r : Addr} {c e : Ch} {R : VK} (hp : SqT K Hx p (c.map V.str)) (hq : SqT K Hx r (e.map V.str)) (h1 : c.length ≤ 60) (h2 : e.length ≤ 60) (k : ∀ H' y, Same Hx H' → SqT K H' y ((c ++ e).map V.str) → R (.ref y) H') : rCatA K (.ref p) (.ref r) Hx R := by
  refine ⟨p, r, _, _, rfl, rfl, hp, hq, ?_, fun z => ?_, fun _ z => ?_, fun _ _ t nt => ?_⟩
  · rw [List.length_map, List.length_map]
    exact Nat.le_of_lt (small1000 (by omega))
  · refine k Hx r same_rfl ?_
    rw [List.map_append, z]
    exact hq
  · refine k Hx p same_rfl ?_
    rw [List.map_append, z, List.append_nil]
    exact hp
  · refine k _ t (same_upd nt) ?_
    rw [List.map_append]
    exact .inl (.inl upd_same)
def toldD (a : Str) (c : Ch) (b : Str) : PyData := .list [.str a, tupD c, .str b]
theorem told_lay {a b : Str} {c : Ch} (ha : PyData.strOk a = true) (hb : PyData.strOk b = true) (hc : ∀ z ∈ c, PyData.strOk z = true) : (toldD a c b).canLay0 = true := by
  have h1 : (tupD c).canLay0 = true := Y25.canLay_tup hc
  simp [toldD, PyData.canLay0, PyData.canLayAll0, ha, hb, h1]
theorem told_ok {a b : Str} {c : Ch} (ha : PyData.strOk a = true) (hb : PyData.strOk b = true) (hc : ∀ z ∈ c, PyData.strOk z = true) : SeqAt.shaped (toldD a c b) = true := by
  unfold SeqAt.shaped
  have d : (toldD a c b).depth ≤ 64 := by
    show (PyData.list [.str a, tupD c, .str b]).depth ≤ 64
    rw [PyData.depth, PyData.depthAll, PyData.depthAll, PyData.depthAll, PyData.depthAll, depth_tup, PyData.depth, PyData.depth]
    decide
  rw [told_lay ha hb hc, decide_eq_true d]
  rfl
theorem word_ok (n : Nat) : PyData.strOk (wordR n) = true := by
  match n with
  | 0 => decide +kernel
  | 1 => decide +kernel
  | n + 2 => exact (by decide +kernel : PyData.strOk ("all" : Str) = true)
def tabsL (Pt Pl Pb : Addr) : List (Addr × Str) := [(Pt, (("law" : Str) ++ ".<locals>.") ++ "<lambda>"), (Pl, (("_law_lots_right" : Str) ++ ".<locals>.") ++ "<lambda>"), (Pb, (("_law_barred_right" : Str) ++ ".<locals>.") ++ "<lambda>")]
def spLaw (K : PySem.W.Frag) (Pt Pl Pb : Addr) : Sp := fun vs H Q _ => ∃ (a : Addr) (ns : List Int), vs = [.ref a] ∧ SqL K H a (ns.map V.int) ∧ ns.length ≤ 63 ∧ H Pt = some (.tbl #[]) ∧ H Pl = some (.tbl #[]) ∧ H Pb = some (.tbl #[]) ∧ ∀ H', Q (.bl true) H'
theorem Cd.ext {K : PySem.W.Frag} {H H' : Hp} {x : V} {o : Option (List V)} (h : Cd K H x o) (e : LamX.ExtN H H') : Cd K H' x o := by
  rcases h with ⟨p, xs, e1, h, r⟩ | ⟨h, r⟩
  · exact .inl ⟨p, xs, e1, tk_ext e _ _ h, r⟩
  · refine .inr ⟨?_, r⟩
    cases h with
    | atom h => exact .atom h
    | lst h => exact .lst (e _ _ h (fun _ z => by cases z))
    | dK h => exact .dK (e _ _ h (fun _ z => by cases z))
theorem ChT.ext {K : PySem.W.Frag} {H H' : Hp} {p : Addr} {c : Ch} (h : ChT K H p c) (e : LamX.ExtN H H') : ChT K H' p c := ⟨tk_ext e _ _ h.1, h.2⟩
theorem err_step {H0 Ha Hb : Hp} {er : Addr} {v : Value} {TT : List (Addr × Str)} (e : LamX.ExtN H0 Ha) (t : LamX.Tabs TT Ha) (S : Same Ha Hb) (n : Hb er = none) :
    LamX.ExtN H0 (upd Hb er (ErrO v none er)) ∧ LamX.Tabs TT (upd Hb er (ErrO v none er)) ∧ (upd Hb er (ErrO v none er)) er = some (ErrO v none er) ∧ Same Ha (upd Hb er (ErrO v none er)) :=
  ⟨e.trans (LamX.ExtN.of (S.trans (same_upd n))), tabs_same t (S.trans (same_upd n)), upd_same, S.trans (same_upd n)⟩
theorem err_keep {H H' : Hp} {e : Addr} {v : Value} (s : LamX.ExtN H H') (h : H e = some (ErrO v none e)) : H' e = some (ErrO v none e) := s _ _ h (fun _ z => by cases z)
section
variable {P : Program} {w : World} {K : PySem.W.Frag} {mg : Str → Option Value} {base : Heap}
theorem ok_law {f fB fT fR fH fO fS fJ fN fI fZ fL fC CR CC c Pt Pl Pb : Addr} {fdB fdT fdR fdH fdO fdS fdJ fdN fdI fdZ fdL : FuncData}
    {od an odC anC : Option Addr} {osl oslC : Array (Option Value)} {dV kV doc pm ct oc kVC docC pmC ctC ocC cdvC dVC : Value}
    (lk : K.lookup f = some ⟨oc, od, .func (PySem.W.fnOf "law" "law" (defArgs sLaw) (defBody sLaw) (defScope sLaw) dV kV doc pm an (.ref c) ct), osl⟩) (hcd : PySem.W.codeIn K (.ref c) "law" = true)
    (TB : LamX.TabB base mg c Pt) (hPl : Pl ≠ Pt) (hPb : Pb ≠ Pt)
    (FB : Fun K "_law_begun" "_law_begun" sBegun fB fdB) (GB : FnOk P w K mg base CX0 1 fB fdB ["script"] (spBegun K)) (bB : Binds K fdB ["script"] []) (gB : mg "_law_begun" = some (.ref fB))
    (FT : Fun K "_law_tools" "_law_tools" sTools fT fdT) (GT : FnOk P w K mg base CX0 1 fT fdT [] spTools) (bT : Binds K fdT [] []) (gT : mg "_law_tools" = some (.ref fT))
    (FR : Fun K "_law_rank" "_law_rank" sRank fR fdR) (GR : FnOk P w K mg base CX0 1 fR fdR ["chest"] (spRank K)) (bR : Binds K fdR ["chest"] []) (gR : mg "_law_rank" = some (.ref fR))
    (FH : Fun K "_law_chest" "_law_chest" sChest fH fdH) (GH : FnOk P w K mg base CX0 3 fH fdH ["state"] spChestD) (bH : Binds K fdH ["state"] []) (gH : mg "_law_chest" = some (.ref fH))
    (FO : Fun K "_law_odd_chest" "_law_odd_chest" sOdd fO fdO) (GO : FnOk P w K mg base CX0 4 fO fdO ["state", "chest"] (spOddC K)) (bO : Binds K fdO ["state", "chest"] []) (gO : mg "_law_odd_chest" = some (.ref fO))
    (FS : Fun K "set_of" "set_of" sSetOf fS fdS) (GS : FnOk P w K mg base (L2.CX P w) 3 fS fdS ["chest"] (spSetOf K CC)) (bS : Binds K fdS ["chest"] []) (kS : KBn K fdS ["chest"] 0 ["chest"] (fun _ ws => ws) (fun _ zs => zs)) (gS : mg "set_of" = some (.ref fS))
    (FJ : Fun K "joint" "joint" sJoint fJ fdJ) (GJ : FnOk P w K mg base (L2.CX P w) 3 fJ fdJ ["one", "other"] (spJoint K CC)) (bJ : Binds K fdJ ["one", "other"] []) (kJ : KBn K fdJ ["one", "other"] 0 ["one", "other"] (fun _ ws => ws) (fun _ zs => zs)) (gJ : mg "joint" = some (.ref fJ))
    (FN : Fun K "no_more" "no_more" sNoMore fN fdN) (GN : FnOk P w K mg base (L2.CX P w) 4 fN fdN ["one", "other"] (spNoMore K CC)) (bN : Binds K fdN ["one", "other"] []) (kN : KBn K fdN ["one", "other"] 0 ["one", "other"] (fun _ ws => ws) (fun _ zs => zs)) (gN : mg "no_more" = some (.ref fN))
    (FI : Fun K "is_chest" "is_chest" sIsChest fI fdI) (GI : FnOk P w K mg base CX0 1 fI fdI ["value"] (spIsChest K)) (bI : Binds K fdI ["value"] []) (kI : KBn K fdI ["value"] 0 ["value"] (fun _ ws => ws) (fun _ zs => zs)) (gI : mg "is_chest" = some (.ref fI))
    (kZ : PySem.W.keepIn K (.ref fZ) = true) (GZ : FnG P w K mg base CX0 9 fZ fdZ ["state", "chest"] (spBarR K (tabsL Pt Pl Pb))) (bZ : Binds K fdZ ["state", "chest"] []) (gZ : mg "_law_barred_right" = some (.ref fZ))
    (kL : PySem.W.keepIn K (.ref fL) = true) (GL : FnG P w K mg base CX0 6 fL fdL ["state"] (spLotsR K (tabsL Pt Pl Pb))) (bL : Binds K fdL ["state"] []) (gL : mg "_law_lots_right" = some (.ref fL))
    (lkC : K.lookup fC = some ⟨ocC, odC, .func (PySem.W.fnOf "_law_caught" "_law_caught" (defArgs sCaught) (defBody sCaught) (defScope sCaught) dVC kVC docC pmC anC cdvC ctC), oslC⟩) (hcdC : PySem.W.codeIn K cdvC "_law_caught" = true) (kC : PySem.W.keepIn K (.ref fC) = true)
    (bC : Binds K (PySem.W.fnOf "_law_caught" "_law_caught" (defArgs sCaught) (defBody sCaught) (defScope sCaught) dVC kVC docC pmC anC cdvC ctC) ["action"] []) (gC : mg "_law_caught" = some (.ref fC))
    (gRE : mg "RulerError" = some (.ref CR)) (gBC : mg "BadChest" = some (.ref CC)) (exm : PySem.W.exmOne K (.ref CC) (.ref CR) = some true) (kit : PySem.W.kitOne K (.ref CC) (.ref CC) = some true) (EC : ExcC K CC)
    (mr : mg "range" = none) (mrp : mg "repr" = none) (mi : mg "isinstance" = none) (mtu : mg "tuple" = none) (mlen : mg "len" = none) (mmin : mg "min" = none) (mmax : mg "max" = none) :
    FnG P w K mg base CX0 10 f (PySem.W.fnOf "law" "law" (defArgs sLaw) (defBody sLaw) (defScope sLaw) dV kV doc pm an (.ref c) ct) ["script"] (spLaw K Pt Pl Pb) := by
  refine okGL lk hcd scL (fun vs H Q E h => ?_) (fun A outer s H vs Q E g hr h => ?_)
  · obtain ⟨a, ns, rfl, _⟩ := h
    rfl
  · obtain ⟨a, ns, rfl, hS, hlen, hPt, hPl', hPb', q⟩ := h
    have hu := hu_of (hr.mono (Nat.zero_le _) : Room 0 _)
    have hr6 : Room 6 _ := hr.mono (by decide)
    have hr4 : Room 4 _ := hr.mono (by decide)
    have hr3 : Room 3 _ := hr.mono (by decide)
    have hr1 : Room 1 _ := hr.mono (by decide)
    have hmT : ((Pt, (("law" : Str) ++ ".<locals>.") ++ "<lambda>") : Addr × Str) ∈ tabsL Pt Pl Pb := List.mem_cons_self
    have huT : ∀ p ∈ tabsL Pt Pl Pb, p.1 = Pt → p.2 = (("law" : Str) ++ ".<locals>.") ++ "<lambda>" := fun p hp e => by
      rcases List.mem_cons.mp hp with rfl | hp
      · rfl
      · rcases List.mem_cons.mp hp with rfl | hp
        · exact absurd e hPl
        · rw [List.mem_singleton.mp hp] at e
          exact absurd e hPb
    refine ⟨_, pss_cons (ps_set (i := 1) scL.nd rfl (.inl rfl) (pe_call GB hr1 (by rfl) gB FB.kp bB .nil pass0 (pa_cons (pv 0) pa_nil)))
      (pss_cons (ps_set (i := 2) scL.nd rfl (.inl rfl) (pe_lst (pa_cons pe_str (pa_cons pe_str (pa_cons pe_str pa_nil)))))
      (pss_cons (ps_for PassesOwn.never rfl (pi_range1 (by rfl) mr (pa_cons (pe_op op_add pe_int (pe_callB (call_min2 rfl) (by rfl) mmin (by decide +kernel) (pa_cons (pe_callB call_len_seq (by rfl) mlen PySem.boot_len (pa_cons (pv 0) pa_nil)) (pa_cons pe_int pa_nil)))) pa_nil)) (pg_name (i := 3) scL.nd rfl (.inl rfl))
        (pss_cons (ps_asg (pe_tup (pa_cons (pe_call GH hr3 (by rfl) gH FH.kp bH .nil pass0 (pa_cons (pv 1) pa_nil)) (pa_cons (pe_call GH hr3 (by rfl) gH FH.kp bH .nil pass0 (pa_cons (pv 1) pa_nil)) pa_nil)))
          (pg_tup (by rfl) (pgs_cons (pg_name (i := 8) scL.nd rfl (.inr rfl)) (pgs_cons (pg_name (i := 9) scL.nd rfl (.inr rfl)) pgs_nil))))
        (pss_cons (ps_set (i := 4) scL.nd rfl (.inl rfl) (pe_callTy call_tuple_of (by rfl) mtu (by decide +kernel) (pa_cons (pe_lc (own := [("tool", 10)]) (g := gName 10) rfl scL.nd (pi_list (pe_call0 GT hr1 (by rfl) gT FT.kp bT .nil pass0))
            (blkOk_by (own := [("tool", 10)]) (N := lawN) (sc := defScope sLaw) (by decide +kernel)) (fun _ _ _ _ _ => pg_name (i := 10) scL.nd rfl (.inl rfl))
            (fun _ _ _ _ _ => pts_one (pt_cmpR (show OpR _ (compareOp .In) (rIn K false) from op_in_seq) (pv 10) (pe_op (show OpR _ (binaryOp .Add) (rCatA K) from op_catA) (pv 8) (pv 9)) (by rfl))) (fun _ _ _ _ _ => pv 10)) pa_nil)))
        (pss_cons (ps_set (i := 5) scL.nd rfl (.inl rfl) (pe_lst (pa_cons (pe_kw GS hr3 (by rfl) gS FS.kp kS passN (pk_cons (pv 8) pk_nil)) (pa_cons (pe_kw GJ hr3 (by rfl) gJ FJ.kp kJ passN (pk_cons (pv 8) (pk_cons (pv 9) pk_nil)))
            (pa_cons (pe_call GS hr3 (by rfl) gS FS.kp bS .nil passN (pa_cons (pe_call GJ hr3 (by rfl) gJ FJ.kp bJ .nil passN (pa_cons (pv 8) (pa_cons (pv 9) pa_nil))) pa_nil)) pa_nil)))))
        (pss_cons (ps_if (pt_cmpR (op_neD hr.units) (pv 5) (pe_lst (pa_cons (pe_ix ix_list (pv 2) (pe_call GR hr1 (by rfl) gR FR.kp bR .nil pass0 (pa_cons (pv 8) pa_nil)) (fun _ _ => rfl)) (pa_cons (pv 4)
            (pa_cons (pe_ix ix_list (pv 2) (pe_callB (call_max2 rfl) (by rfl) mmax (by decide +kernel) (pa_cons (pe_call GR hr1 (by rfl) gR FR.kp bR .nil pass0 (pa_cons (pv 8) pa_nil)) (pa_cons (pe_call GR hr1 (by rfl) gR FR.kp bR .nil pass0 (pa_cons (pv 9) pa_nil)) pa_nil))) (fun _ _ => rfl)) pa_nil)))) (nomark _)) (pss_one (ps_ret pe_bl)) pss_nil)
        (pss_cons (ps_if (pt_cmpR op_ne (pe_callB (call_repr g hr) (by rfl) mrp (by decide +kernel) (pa_cons (pe_kw GN hr4 (by rfl) gN FN.kp kN passN (pk_cons (pv 8) (pk_cons (pv 9) pk_nil))) pa_nil))
            (pe_callB (call_repr g hr) (by rfl) mrp (by decide +kernel) (pa_cons (pe_cmpR op_le (pe_call GR hr1 (by rfl) gR FR.kp bR .nil pass0 (pa_cons (pv 8) pa_nil)) (pe_call GR hr1 (by rfl) gR FR.kp bR .nil pass0 (pa_cons (pv 9) pa_nil)) (nomark _)) pa_nil)) (nomark _)) (pss_one (ps_ret pe_bl)) pss_nil)
        (pss_cons (ps_set (i := 7) scL.nd rfl (.inr rfl) (pe_call GO hr4 (by rfl) gO FO.kp bO .nil pass0 (pa_cons (pv 1) (pa_cons (pv 8) pa_nil))))
        (pss_cons (ps_if (pt_cmpR op_ne (pe_callB (call_repr g hr) (by rfl) mrp (by decide +kernel) (pa_cons (pe_lst (pa_cons (pe_kw GI hr1 (by rfl) gI FI.kp kI pass0 (pk_cons (pv 8) pk_nil)) (pa_cons (pe_call GI hr1 (by rfl) gI FI.kp bI .nil pass0 (pa_cons (pv 7) pa_nil)) pa_nil))) pa_nil)) pe_str (nomark _)) (pss_one (ps_ret pe_bl)) pss_nil)
        (pss_cons (ps_set (i := 6) scL.nd rfl (.inl rfl) (pe_lst (pa_cons
            (pe_cau lkC hcdC kC bC gC gRE TB rfl hmT huT (hr.mono (by decide) : Room (3 + 2) _) (by rfl) (show LamX.LamS (defScope sLaw) _ from LamX.lamS_by (by decide +kernel)) rfl (fun _ _ _ _ _ => rfl)
              (fun A o s H E f c' hrl => pe_call GS hrl (by rfl) gS FS.kp bS .nil (passes_call (takes_of rfl rfl rfl rfl) (fun _ _ _ _ h => h)) (pa_cons (pv 7) pa_nil))) (pa_cons
            (pe_cau lkC hcdC kC bC gC gRE TB rfl hmT huT (hr.mono (by decide) : Room (3 + 2) _) (by rfl) (show LamX.LamS (defScope sLaw) _ from LamX.lamS_by (by decide +kernel)) rfl (fun _ _ _ _ _ => rfl)
              (fun A o s H E f c' hrl => pe_call GJ hrl (by rfl) gJ FJ.kp bJ .nil (passes_call (takes_of rfl rfl rfl rfl) (fun _ _ _ _ h => h)) (pa_cons (pv 8) (pa_cons (pv 7) pa_nil)))) (pa_cons
            (pe_cau lkC hcdC kC bC gC gRE TB rfl hmT huT (hr.mono (by decide) : Room (3 + 2) _) (by rfl) (show LamX.LamS (defScope sLaw) _ from LamX.lamS_by (by decide +kernel)) rfl (fun _ _ _ _ _ => rfl)
              (fun A o s H E f c' hrl => pe_call GJ hrl (by rfl) gJ FJ.kp bJ .nil (passes_call (takes_of rfl rfl rfl rfl) (fun _ _ _ _ h => h)) (pa_cons (pv 7) (pa_cons (pv 8) pa_nil)))) pa_nil)))))
        (pss_cons (ps_set (i := 6) scL.nd rfl (.inl rfl) (pe_op op_cat (pv 6) (pe_lst (pa_cons
            (pe_cau lkC hcdC kC bC gC gRE TB rfl hmT huT (hr.mono (by decide) : Room (4 + 2) _) (by rfl) (show LamX.LamS (defScope sLaw) _ from LamX.lamS_by (by decide +kernel)) rfl (fun _ _ _ _ _ => rfl)
              (fun A o s H E f c' hrl => pe_call GN hrl (by rfl) gN FN.kp bN .nil (passes_call (takes_of rfl rfl rfl rfl) (fun _ _ _ _ h => h)) (pa_cons (pv 7) (pa_cons (pv 9) pa_nil)))) (pa_cons
            (pe_cau lkC hcdC kC bC gC gRE TB rfl hmT huT (hr.mono (by decide) : Room (4 + 2) _) (by rfl) (show LamX.LamS (defScope sLaw) _ from LamX.lamS_by (by decide +kernel)) rfl (fun _ _ _ _ _ => rfl)
              (fun A o s H E f c' hrl => pe_call GN hrl (by rfl) gN FN.kp bN .nil (passes_call (takes_of rfl rfl rfl rfl) (fun _ _ _ _ h => h)) (pa_cons (pv 9) (pa_cons (pv 7) pa_nil)))) pa_nil)))))
        (pss_cons (ps_if (pt_cmpR (op_neD hr.units) (pe_lc (own := [("error", 11)]) (g := gName 11) rfl scL.nd (pi_list (pv 6))
            (blkOk_by (own := [("error", 11)]) (N := lawN) (sc := defScope sLaw) (by decide +kernel)) (fun _ _ _ _ _ => pg_name (i := 11) scL.nd rfl (.inl rfl))
            (fun _ _ _ _ _ => pts_one (pt_not (pt_val (pe_callB (show CallR _ (.builtin "isinstance") (rIsErr K CC) from call_isErr EC) (by rfl) mi (by decide +kernel) (pa_cons (pv 11) (pa_cons (pe_glob (v := .ref CC) (by rfl) gBC rfl) pa_nil))))))
            (fun _ _ _ _ _ => pe_int)) (pe_lst pa_nil) (nomark _)) (pss_one (ps_ret pe_bl)) pss_nil)
        (pss_one (ps_if (pt_not (pt_val (pe_callG GZ g hr (by rfl) gZ kZ bZ pass0 (pa_cons (pv 1) (pa_cons (pv 8) pa_nil))))) (pss_one (ps_ret pe_bl)) pss_nil)))))))))))))
      (pss_one (ps_ret (pe_callG GL g hr6 (by rfl) gL kL bL pass0 (pa_cons (pv 1) pa_nil)))))), ?_⟩
    refine ⟨_, rfl, a, ns, rfl, hS, hlen, fun H1 sa sw sc S1 nsa nsw nsc _ _ _ s1 => ?_⟩
    refine ⟨by show 3 ≤ sizeLine; decide, fun wd nwd => ?_⟩
    have S2 : Same H1 (upd H1 wd (.lst [.str "fractions", .str "middle", .str "all"])) := same_upd nwd
    have hw : (upd H1 wd (.lst [.str "fractions", .str "middle", .str "all"])) wd = some (.lst (wordsN.map V.str)) := upd_same
    have owd := St.off s1 nwd
    have s2 := St.same s1 S2
    generalize upd H1 wd (.lst [.str "fractions", .str "middle", .str "all"]) = H2 at S2 hw s2 ⊢
    have S12 := S1.trans S2
    have t2 : LamX.Tabs (tabsL Pt Pl Pb) H2 := fun p hp => by
      rcases List.mem_cons.mp hp with rfl | hp
      · exact LamX.TabS.nil (S12 _ _ hPt)
      · rcases List.mem_cons.mp hp with rfl | hp
        · exact LamX.TabS.nil (S12 _ _ hPl')
        · rw [List.mem_singleton.mp hp]
          exact LamX.TabS.nil (S12 _ _ hPb')
    refine ⟨.ref a, rfl, a, _, rfl, .inl (S12.seq hS), _, _, rfl, 2, _, rfl, rfl, ?_⟩
    obtain ⟨m, hm, hm0, hm1⟩ : ∃ m : Int, (2 + if (6 : Int) < (((ns.map V.int).length : Nat) : Int) then 6 else (((ns.map V.int).length : Nat) : Int)) = m ∧ 2 ≤ m ∧ m ≤ 8 := by
      refine ⟨_, rfl, ?_, ?_⟩ <;> split <;> omega
    refine ⟨_, rfl, by show (-4611686018427387904 : Int) ≤ _; rw [hm]; omega, by show _ < (4611686018427387904 : Int); rw [hm]; omega, ?_⟩
    rw [hm]
    refine for_range (lo := 0) (n := m.toNat) (fun i σ H' => ∃ y3 y4 y5 y6 y7 y8 y9 : Option V, σ = [some (.ref a), some (.ref sa), some (.ref wd), y3, y4, y5, y6, y7, y8, y9, none, none] ∧ H' wd = some (.lst (wordsN.map V.str)) ∧ St H' sa sw sc (1000 * i) ∧ LamX.Tabs (tabsL Pt Pl Pb) H')
      ⟨_, _, _, _, _, _, _, rfl, hw, s2, t2⟩ ?_ ?_
    · rintro i σ H3 hi ⟨y3, y4, y5, y6, y7, y8, y9, rfl, hw3, s3, t3⟩
      have hi8 : i < 8 := by omega
      -- two chests
      refine ⟨_, rfl, sa, sw, sc, _, rfl, s3, by omega, fun H4 p ch hch hp k4 s4 op => ?_⟩
      refine ⟨_, rfl, sa, sw, sc, _, rfl, s4, by omega, fun H5 r eh heh hr5 k5 s5 or' => ?_⟩
      have hp5 := k5 _ _ hp op.1 op.2.1
      refine ⟨by show 2 ≤ sizeLine; decide, fun tp ntp => ⟨tp, _, rfl, .inl (.inl upd_same), rfl, _, _, rfl, _, _, rfl, rfl, ?_⟩⟩
      have S6 : Same H5 (upd H5 tp (.tup [.ref p, .ref r])) := same_upd ntp
      have s6 := St.same s5 S6
      have k36 : Kept sa sw H3 (upd H5 tp (.tup [.ref p, .ref r])) := k4.trans (k5.trans (Kept.of S6))
      have c6 : ChT K (upd H5 tp (.tup [.ref p, .ref r])) p ch := ⟨.inl (.inl (S6 _ _ hp5)), hch⟩
      have e6 : ChT K (upd H5 tp (.tup [.ref p, .ref r])) r eh := ⟨.inl (.inl (S6 _ _ hr5)), heh⟩
      generalize upd H5 tp (.tup [.ref p, .ref r]) = H6 at S6 s6 k36 c6 e6
      have hw6 := k36 _ _ hw3 owd.1 owd.2.1
      have t6 := tabs_kept t3 s3 k36
      have lc := chest_len hch
      have le := chest_len heh
      have csub := chest_sub hch
      have esub := chest_sub heh
      -- both
      refine ⟨rfl, fun l nl => ?_⟩
      have S7 : Same H6 (upd H6 l (.lst (toolsN.map V.str))) := same_upd nl
      have hl : (upd H6 l (.lst (toolsN.map V.str))) l = some (.lst (toolsN.map V.str)) := upd_same
      generalize upd H6 l (.lst (toolsN.map V.str)) = H7 at S7 hl
      refine ⟨l, rfl, ⟨_, .inl (.inl hl)⟩, fun D nD => ?_⟩
      have nD6 : H6 D = none := PySem.Spec.same_none S7 nD
      refine lc_list (K := K) (a := l) (xs := toolsN.map V.str) (fun j H' => ∃ bs : List Str, H' D = some (.lst (bs.map V.str)) ∧ bs = (toolsN.take j).filter (fun t => decide (t ∈ ch ++ eh)) ∧ Same H7 H') ⟨[], upd_same, rfl, same_upd nD⟩ (fun j H' _ ⟨_, _, _, sm⟩ => .inl (.inl (sm _ _ hl))) ?_ ?_
      · rintro j x H8 hx ⟨bs, hD, hbs, sm⟩
        obtain ⟨z, rfl, hz⟩ : ∃ z, x = V.str z ∧ toolsN[j]? = some z := by
          rw [List.getElem?_map] at hx
          cases g : toolsN[j]? with
          | none => rw [g] at hx; cases hx
          | some z => rw [g] at hx; exact ⟨z, (Option.some.inj hx).symm, rfl⟩
        have bl : bs.length ≤ 9 := by
          rw [hbs]
          refine Nat.le_trans (List.length_filter_le _ _) ?_
          rw [List.length_take]
          have : toolsN.length = 9 := rfl
          omega
        have step : (toolsN.take (j + 1)).filter (fun t => decide (t ∈ ch ++ eh)) = bs ++ (if z ∈ ch ++ eh then [z] else []) := by
          rw [hbs, List.take_succ, List.filter_append, hz]
          congr 1
          show List.filter _ [z] = _
          rw [List.filter_cons]
          by_cases e : z ∈ ch ++ eh
          · rw [if_pos e, if_pos (decide_eq_true e)]
            rfl
          · rw [if_neg e, if_neg (by simpa using e)]
            rfl
        have S78 := S7.trans sm
        refine ⟨rfl, _, rfl, _, rfl, _, rfl, cat_two (c6.same S78).1 (e6.same S78).1 (by omega) (by omega) fun H9 y S9 hy => ?_⟩
        refine ⟨y, _, rfl, .inr hy, rfl, strs_flat _, _, rfl, ?_⟩
        rw [inV_kn]
        by_cases e : z ∈ ch ++ eh
        · refine iteT2 (decide_eq_true e) ⟨_, rfl, _, S9 _ _ hD, ?_, bs ++ [z], by rw [upd_same, List.map_append]; rfl, ?_, same_put (sm.trans S9) nD⟩
          · rw [List.length_map]
            exact small1000 (by omega)
          · rw [step, if_pos e]
        · refine iteF2 (decide_eq_false e) ⟨bs, S9 _ _ hD, ?_, sm.trans S9⟩
          rw [step, if_neg e, List.append_nil]
      rintro H8 ⟨bs, hD, hbs, sm8⟩
      rw [List.length_map, List.take_length] at hbs
      have hbs' : bs = ofT (ch ++ eh) := hbs
      refine ⟨D, _, rfl, .inl ⟨.inl (.inl hD), fun bo nbo => ?_⟩⟩
      have S69 : Same H6 (upd H8 bo (.tup (bs.map V.str))) := S7.trans (sm8.trans (same_upd nbo))
      have hbo : (upd H8 bo (.tup (bs.map V.str))) bo = some (.tup (bs.map V.str)) := upd_same
      generalize upd H8 bo (.tup (bs.map V.str)) = H9 at S69 hbo
      subst hbs'
      have uok := ofT_ofT (ch ++ eh)
      -- told
      refine ⟨_, rfl, rfl, .inl ⟨p, ch, rfl, c6.same S69, fun Ha Sa => ?_⟩⟩
      refine ⟨_, rfl, _, rfl, rfl, .inl ⟨p, ch, r, eh, rfl, (c6.same S69).same Sa, (e6.same S69).same Sa, fun Hb Sb Hc q1 Sc nq1 hq1 => ?_⟩⟩
      have Sac := Sa.trans (Sb.trans Sc)
      refine ⟨_, rfl, _, rfl, .inl ⟨p, ch, r, eh, rfl, (c6.same S69).same Sac, (e6.same S69).same Sac, fun Hd Sd He q2 Se nq2 hq2 => ?_⟩⟩
      refine .inl ⟨q2, _, rfl, ⟨.inl (.inl hq2), uok⟩, fun Hf Sf => ⟨by show 3 ≤ sizeLine; decide, fun tl ntl => ?_⟩⟩
      have S9f : Same H9 Hf := Sac.trans (Sd.trans (Se.trans Sf))
      have hq1f := (Sd.trans (Se.trans Sf)) _ _ hq1
      have Sg : Same Hf (upd Hf tl (.lst [.str (wordC ch), .ref q1, .str (wordC (ofT (ch ++ eh)))])) := same_upd ntl
      have htl : (upd Hf tl (.lst [.str (wordC ch), .ref q1, .str (wordC (ofT (ch ++ eh)))])) tl = some (.lst [.str (wordC ch), .ref q1, .str (wordC (ofT (ch ++ eh)))]) := upd_same
      have hq1g := Sg _ _ hq1f
      generalize upd Hf tl (.lst [.str (wordC ch), .ref q1, .str (wordC (ofT (ch ++ eh)))]) = Hg at Sg htl hq1g
      have S6g : Same H6 Hg := S69.trans (S9f.trans Sg)
      have hbog := (S9f.trans Sg) _ _ hbo
      -- as it should be
      refine ⟨_, rfl, _, rfl, _, rfl, p, ch, rfl, (c6.same S6g).1, csub, by omega, fun Hh Sh => ?_⟩
      refine ⟨wd, wordsN.map V.str, (rankC ch : Nat), .str (wordC ch), rfl, rfl, .inl (.inl ((S6g.trans Sh) _ _ hw6)), atI_nat (words_at (rank_le ch)), ?_⟩
      refine ⟨_, rfl, _, rfl, _, rfl, p, ch, rfl, ((c6.same S6g).same Sh).1, csub, by omega, fun Hi Si => ?_⟩
      refine ⟨_, rfl, r, eh, rfl, (((e6.same S6g).same Sh).same Si).1, esub, by omega, fun Hj Sj => ?_⟩
      have Sgj := Sh.trans (Si.trans Sj)
      refine ⟨_, _, rfl, wd, wordsN.map V.str, _, .str (wordC (ofT (ch ++ eh))), rfl, rfl, .inl (.inl ((S6g.trans Sgj) _ _ hw6)), ?_, ?_⟩
      · rw [rank_both csub esub]
        exact atI_nat (words_at (rank_le _))
      refine ⟨by show 3 ≤ sizeLine; decide, fun t3' nt3 => ?_⟩
      have Sk : Same Hj (upd Hj t3' (.lst [.str (wordC ch), .ref bo, .str (wordC (ofT (ch ++ eh)))])) := same_upd nt3
      have ht3 : (upd Hj t3' (.lst [.str (wordC ch), .ref bo, .str (wordC (ofT (ch ++ eh)))])) t3' = some (.lst [.str (wordC ch), .ref bo, .str (wordC (ofT (ch ++ eh)))]) := upd_same
      have wok1 := word_ok (rankC ch)
      have wok2 := word_ok (rankC (ofT (ch ++ eh)))
      have cok := chest_ok uok
      refine ⟨toldD (wordC ch) (ofT (ch ++ eh)) (wordC (ofT (ch ++ eh))), toldD (wordC ch) (ofT (ch ++ eh)) (wordC (ofT (ch ++ eh))),
        .lst (.inl (.inl ((Sgj.trans Sk) _ _ htl))) (.cons (.str _) (.cons (.tup (.inl (.inl ((Sgj.trans Sk) _ _ hq1g))) (dpAll_strs _)) (.cons (.str _) .nil))),
        .lst (.inl (.inl ht3)) (.cons (.str _) (.cons (.tup (.inl (.inl ((Sgj.trans Sk) _ _ hbog))) (dpAll_strs _)) (.cons (.str _) .nil))), told_ok wok1 wok2 cok, told_ok wok1 wok2 cok, _, rfl, ?_⟩
      refine iteF2 (congrArg not (SeqAt.eqv_refl (toldD (wordC ch) (ofT (ch ++ eh)) (wordC (ofT (ch ++ eh)))) (told_lay wok1 wok2 cok))) ?_
      have S6k : Same H6 (upd Hj t3' (.lst [.str (wordC ch), .ref bo, .str (wordC (ofT (ch ++ eh)))])) := S6g.trans (Sgj.trans Sk)
      generalize upd Hj t3' (.lst [.str (wordC ch), .ref bo, .str (wordC (ofT (ch ++ eh)))]) = Hk at S6k
      clear Sk ht3 Sgj Sj Si Sh hbog S6g hq1g htl Sg hq1f S9f Sf hq2 nq2 Se Sd hq1 nq1 Sc Sb Sa S69 hbo sm8 hD hl S7
      -- no more
      refine ⟨_, rfl, _, rfl, rfl, .inl ⟨p, ch, r, eh, rfl, c6.same S6k, e6.same S6k, fun Ha Sa Hb Sb => ?_⟩⟩
      obtain ⟨w1, w2, w3, w4⟩ : (PyData.bool (decide (rankC ch ≤ rankC eh))).showable = true ∧ (PyData.bool (decide (rankC ch ≤ rankC eh))).hasDict = false ∧ (PyData.bool (decide (rankC ch ≤ rankC eh))).depth ≤ 60 ∧ (PyData.bool (decide (rankC ch ≤ rankC eh))).shown.length ≤ sizeLine := by
        generalize decide (rankC ch ≤ rankC eh) = b
        cases b <;> decide +kernel
      refine ⟨_, _, rfl, .bl _, w1, w2, w3, w4, ?_⟩
      have S6b := S6k.trans (Sa.trans Sb)
      refine ⟨_, rfl, p, ch, rfl, (c6.same S6b).1, csub, by omega, fun Hc Sc => ?_⟩
      refine ⟨_, rfl, r, eh, rfl, ((e6.same S6b).same Sc).1, esub, by omega, fun Hd Sd => ?_⟩
      have eb : decide (((rankC ch : Nat) : Int) ≤ ((rankC eh : Nat) : Int)) = decide (rankC ch ≤ rankC eh) := by
        rw [decide_eq_decide]
        omega
      refine ⟨_, _, rfl, rfl, _, _, rfl, .bl _, ?_⟩
      rw [eb]
      refine ⟨w1, w2, w3, w4, rfl, _, rfl, iteNS rfl ?_⟩
      have S6d := S6b.trans (Sc.trans Sd)
      have s6d := St.same s6 S6d
      -- an odd one
      refine ⟨_, rfl, _, rfl, sa, sw, sc, p, _, ch, rfl, s6d, by omega, c6.same S6d, fun H10 x o hcd10 hno k10 s10 => ?_⟩
      have k610 : Kept sa sw H6 H10 := (Kept.of S6d).trans k10
      have hw10 := k610 _ _ hw6 owd.1 owd.2.1
      have c10 : ChT K H10 p ch := ⟨TK.kept s6 k610 _ _ c6.1, hch⟩
      have e10 : ChT K H10 r eh := ⟨TK.kept s6 k610 _ _ e6.1, heh⟩
      have t10 := tabs_kept t6 s6 k610
      clear S6d S6b Sc Sd Sa Sb S6k
      refine ⟨_, rfl, rfl, .ref p, _, rfl, c10.cd, fun Ha Sa => ?_⟩
      refine ⟨_, rfl, x, o, rfl, hcd10.same Sa, fun Hb Sb => ⟨by show 2 ≤ sizeLine; decide, fun l2 nl2 => ?_⟩⟩
      rw [c10.is, hno]
      have Sc : Same Hb (upd Hb l2 (.lst [.bl true, .bl false])) := same_upd nl2
      have hl2 : (upd Hb l2 (.lst [.bl true, .bl false])) l2 = some (.lst [.bl true, .bl false]) := upd_same
      refine ⟨_, .list [.bool true, .bool false], rfl, .lst (.inl (.inl hl2)) (.cons (.bl _) (.cons (.bl _) .nil)), by decide +kernel, by decide +kernel, by decide +kernel, by decide +kernel, rfl, _, rfl, ?_⟩
      refine iteF2 (by decide +kernel) ?_
      have S1011 := Sa.trans (Sb.trans Sc)
      generalize upd Hb l2 (.lst [.bl true, .bl false]) = H11 at S1011
      have hw11 := S1011 _ _ hw10
      have c11 := c10.same S1011
      have e11 := e10.same S1011
      have o11 := hcd10.same S1011
      have t11 := tabs_same t10 S1011
      have s11 := St.same s10 S1011
      clear Sc hl2 Sa Sb
      have ox : ∀ {H' : Hp}, LamX.ExtN H11 H' → Cd K H' x o := fun {_} e => Cd.ext o11 e
      have cx : ∀ {H' : Hp}, LamX.ExtN H11 H' → ChT K H' p ch := fun {_} e => ChT.ext c11 e
      have rx : ∀ {H' : Hp}, LamX.ExtN H11 H' → ChT K H' r eh := fun {_} e => ChT.ext e11 e
      -- three errors
      refine ⟨t11, fun Ha ea ta => ⟨_, rfl, .inr ⟨x, o, rfl, ox ea, hno, fun Hb Sb => ⟨exm, fun r1 nr1 => ?_⟩⟩⟩⟩
      obtain ⟨x1, y1', z1, _⟩ := err_step (v := .ref CC) ea ta Sb nr1
      generalize upd Hb r1 (ErrO (.ref CC) none r1) = G1 at x1 y1' z1
      refine ⟨y1', fun Ha ea ta => ⟨_, rfl, _, rfl, .inr (.inr ⟨p, ch, x, o, rfl, cx (x1.trans ea), ox (x1.trans ea), hno, fun Hb Sb => ⟨exm, fun r2 nr2 => ?_⟩⟩)⟩⟩
      obtain ⟨x2, y2', z2, S2'⟩ := err_step (v := .ref CC) (x1.trans ea) ta Sb nr2
      have z12 := S2' _ _ (err_keep ea z1)
      generalize upd Hb r2 (ErrO (.ref CC) none r2) = G2 at x2 y2' z2 z12
      refine ⟨y2', fun Ha ea ta => ⟨_, rfl, _, rfl, .inr (.inl ⟨x, .ref p, o, rfl, ox (x2.trans ea), hno, fun Hb Sb => ⟨exm, fun r3 nr3 => ?_⟩⟩)⟩⟩
      obtain ⟨x3, y3', z3, S3'⟩ := err_step (v := .ref CC) (x2.trans ea) ta Sb nr3
      have z13 := S3' _ _ (err_keep ea z12)
      have z23 := S3' _ _ (err_keep ea z2)
      generalize upd Hb r3 (ErrO (.ref CC) none r3) = G3 at x3 y3' z3 z13 z23
      refine ⟨by show 3 ≤ sizeLine; decide, fun la nla => ?_⟩
      have Sl : Same G3 (upd G3 la (.lst [.ref r1, .ref r2, .ref r3])) := same_upd nla
      have hla : (upd G3 la (.lst [.ref r1, .ref r2, .ref r3])) la = some (.lst [.ref r1, .ref r2, .ref r3]) := upd_same
      have x4 := x3.trans (LamX.ExtN.of Sl)
      have y4' := tabs_same y3' Sl
      have z14 := Sl _ _ z13
      have z24 := Sl _ _ z23
      have z34 := Sl _ _ z3
      generalize upd G3 la (.lst [.ref r1, .ref r2, .ref r3]) = G4 at hla x4 y4' z14 z24 z34
      -- two more
      refine ⟨_, rfl, y4', fun Ha ea ta => ⟨_, rfl, _, rfl, .inr (.inl ⟨x, .ref r, o, rfl, ox (x4.trans ea), hno, fun Hb Sb => ⟨exm, fun r4 nr4 => ?_⟩⟩)⟩⟩
      obtain ⟨x5, y5', z5, S5'⟩ := err_step (v := .ref CC) (x4.trans ea) ta Sb nr4
      have hla5 := S5' _ _ (ea _ _ hla (fun _ z => by cases z))
      have z15 := S5' _ _ (err_keep ea z14)
      have z25 := S5' _ _ (err_keep ea z24)
      have z35 := S5' _ _ (err_keep ea z34)
      generalize upd Hb r4 (ErrO (.ref CC) none r4) = G5 at x5 y5' z5 hla5 z15 z25 z35
      refine ⟨y5', fun Ha ea ta => ⟨_, rfl, _, rfl, .inr (.inr ⟨r, eh, x, o, rfl, rx (x5.trans ea), ox (x5.trans ea), hno, fun Hb Sb => ⟨exm, fun r5 nr5 => ?_⟩⟩)⟩⟩
      obtain ⟨x6, y6', z6, S6'⟩ := err_step (v := .ref CC) (x5.trans ea) ta Sb nr5
      have hla6 := S6' _ _ (ea _ _ hla5 (fun _ z => by cases z))
      have z16 := S6' _ _ (err_keep ea z15)
      have z26 := S6' _ _ (err_keep ea z25)
      have z36 := S6' _ _ (err_keep ea z35)
      have z46 := S6' _ _ (err_keep ea z5)
      generalize upd Hb r5 (ErrO (.ref CC) none r5) = G6 at x6 y6' z6 hla6 z16 z26 z36 z46
      refine ⟨by show 2 ≤ sizeLine; decide, fun lb nlb => ⟨la, lb, _, _, rfl, rfl, (upd_ne (ne_of_none hla6 nlb)).trans hla6, upd_same, by show 5 ≤ sizeLine; decide, fun lm nlm => ?_⟩⟩
      have Sb7 : Same G6 (upd G6 lb (.lst [.ref r4, .ref r5])) := same_upd nlb
      have Sm : Same G6 (upd (upd G6 lb (.lst [.ref r4, .ref r5])) lm (.lst ([.ref r1, .ref r2, .ref r3] ++ [.ref r4, .ref r5]))) := Sb7.trans (same_upd nlm)
      have hlm : (upd (upd G6 lb (.lst [.ref r4, .ref r5])) lm (.lst ([.ref r1, .ref r2, .ref r3] ++ [.ref r4, .ref r5]))) lm = some (.lst [.ref r1, .ref r2, .ref r3, .ref r4, .ref r5]) := upd_same
      have x7 := x6.trans (LamX.ExtN.of Sm)
      have y7' := tabs_same y6' Sm
      have errs : ∀ v ∈ [V.ref r1, .ref r2, .ref r3, .ref r4, .ref r5], ∃ e, v = .ref e ∧ (upd (upd G6 lb (.lst [.ref r4, .ref r5])) lm (.lst ([.ref r1, .ref r2, .ref r3] ++ [.ref r4, .ref r5]))) e = some (ErrO (.ref CC) none e) := fun v hv => by
        simp only [List.mem_cons, List.not_mem_nil, or_false] at hv
        rcases hv with rfl | rfl | rfl | rfl | rfl
        · exact ⟨r1, rfl, Sm _ _ z16⟩
        · exact ⟨r2, rfl, Sm _ _ z26⟩
        · exact ⟨r3, rfl, Sm _ _ z36⟩
        · exact ⟨r4, rfl, Sm _ _ z46⟩
        · exact ⟨r5, rfl, Sm _ _ z6⟩
      show tSeq _ _ _ _ _
      generalize upd (upd G6 lb (.lst [.ref r4, .ref r5])) lm (.lst ([.ref r1, .ref r2, .ref r3] ++ [.ref r4, .ref r5])) = G7 at hlm x7 y7' errs ⊢
      -- all of one kind
      refine ⟨_, rfl, lm, rfl, ⟨_, .inl (.inl hlm)⟩, fun D2 nD2 => ?_⟩
      refine lc_list (K := K) (a := lm) (xs := [V.ref r1, .ref r2, .ref r3, .ref r4, .ref r5]) (fun i H' => H' D2 = some (.lst []) ∧ Same G7 H') ⟨upd_same, same_upd nD2⟩ (fun i H' _ ⟨_, sm⟩ => .inl (.inl (sm _ _ hlm))) ?_ ?_
      · rintro i v Hh hx2 ⟨hD2, sm⟩
        obtain ⟨e4, rfl, he4⟩ := errs v (List.mem_of_getElem? hx2)
        exact ⟨rfl, _, rfl, e4, .ref CC, .ref CC, true, rfl, sm _ _ he4, fun u r => r, kit, true, rfl, iteF ⟨hD2, sm⟩⟩
      rintro Hh ⟨hD2, smh⟩
      refine ⟨Nat.zero_le _, fun l9 nl9 => ?_⟩
      have Si : Same Hh (upd Hh l9 (.lst [])) := same_upd nl9
      refine ⟨_, _, dp_nil (Si _ _ hD2), dp_nil upd_same, shaped_nil, shaped_nil, _, rfl, ?_⟩
      refine iteF2 (by decide) ?_
      have S78 := smh.trans Si
      have x8 := x7.trans (LamX.ExtN.of S78)
      have y8' := tabs_same y7' S78
      generalize upd Hh l9 (.lst []) = G8 at x8 y8'
      have s8 := St.ext s11 x8
      -- the first step beyond
      refine ⟨_, rfl, _, rfl, sa, sw, sc, p, _, ch, rfl, s8, by omega, cx x8, y8', fun G9 k9 s9 t9 => ⟨true, rfl, iteF ?_⟩⟩
      have hw8 := x8 _ _ hw11 (fun _ z => by cases z)
      exact ⟨_, _, _, _, _, _, _, rfl, k9.lst hw8 ⟨owd.1, owd.2.1⟩, St.mono s9 (by omega), t9⟩
    · rintro σ H3 ⟨y3, y4, y5, y6, y7, y8, y9, rfl, hw3, s3, t3⟩
      exact ⟨_, rfl, sa, sw, sc, _, rfl, s3, by omega, t3, q⟩
end
end Y42

set_option Elab.async false
set_option linter.all false
set_option maxRecDepth 100000
set_option maxHeartbeats 4000000
namespace Y43
open PySem PySem.Spec PyProof.Rows L2 Cau Dr15 Y1 Y2 Y3 Y4 Y5 Y6 Y7 Y8 Y10 Y11 Y12 Y13 Y18 Y21 Y22 Y24 Y25 Y30 Y31 Y32 Y33 Y34 Y35 Y36 Y37 Y38 Y39 Y40 Y41 Y42
/-! ### what the top has written, and the law's own head -/
theorem all_mk {l : PySem.W.OpenLaw} {w : World} {K : PySem.W.Frag} {h : Heap} {mg : Str → Option Value} {fa : Addr} (X : K.In h) (G : h.Ns mainGlobals mg) (hfa : mg "law" = some (.ref fa))
    (own : ∀ x ∈ (["_law_lots_right", "_law_barred_right", "law"] : List Str), ∀ c P : Addr, PySem.W.tabIn K x = some (c, P) → PySem.W.CodeHd h c P ∧ h.get? P = some { cls := .none, data := .fields #[] })
    {f0 : Addr} {od0 an0 : Option Addr} {sl0 : Array (Option Value)} {oc0 kV0 dc0 pm0 ct0 cd0 : Value}
    {f1 : Addr} {od1 an1 : Option Addr} {sl1 : Array (Option Value)} {oc1 kV1 dc1 pm1 ct1 cd1 : Value}
    {f2 : Addr} {od2 an2 : Option Addr} {sl2 : Array (Option Value)} {oc2 kV2 dc2 pm2 ct2 cd2 : Value}
    {f3 : Addr} {od3 an3 : Option Addr} {sl3 : Array (Option Value)} {oc3 kV3 dc3 pm3 ct3 cd3 : Value}
    {f4 : Addr} {od4 an4 : Option Addr} {sl4 : Array (Option Value)} {oc4 kV4 dc4 pm4 ct4 cd4 : Value}
    {f5 : Addr} {od5 an5 : Option Addr} {sl5 : Array (Option Value)} {oc5 kV5 dc5 pm5 ct5 cd5 : Value}
    {f6 : Addr} {od6 an6 : Option Addr} {sl6 : Array (Option Value)} {oc6 kV6 dc6 pm6 ct6 cd6 : Value}
    {f7 : Addr} {od7 an7 : Option Addr} {sl7 : Array (Option Value)} {oc7 kV7 dc7 pm7 ct7 cd7 : Value}
    {f8 : Addr} {od8 an8 : Option Addr} {sl8 : Array (Option Value)} {oc8 kV8 dc8 pm8 ct8 cd8 : Value}
    {f9 : Addr} {od9 an9 : Option Addr} {sl9 : Array (Option Value)} {oc9 kV9 dc9 pm9 ct9 cd9 : Value}
    {f10 : Addr} {od10 an10 : Option Addr} {sl10 : Array (Option Value)} {oc10 kV10 dc10 pm10 ct10 cd10 : Value}
    {f11 : Addr} {od11 an11 : Option Addr} {sl11 : Array (Option Value)} {oc11 kV11 dc11 pm11 ct11 cd11 : Value}
    {f12 : Addr} {od12 an12 : Option Addr} {sl12 : Array (Option Value)} {oc12 kV12 dc12 pm12 ct12 cd12 : Value}
    {f13 : Addr} {od13 an13 : Option Addr} {sl13 : Array (Option Value)} {oc13 kV13 dc13 pm13 ct13 cd13 : Value}
    {f14 : Addr} {od14 an14 : Option Addr} {sl14 : Array (Option Value)} {oc14 kV14 dc14 pm14 ct14 cd14 : Value}
    {f15 : Addr} {od15 an15 : Option Addr} {sl15 : Array (Option Value)} {oc15 kV15 dc15 pm15 ct15 cd15 : Value}
    {f16 : Addr} {od16 an16 : Option Addr} {sl16 : Array (Option Value)} {oc16 kV16 dc16 pm16 ct16 cd16 : Value}
    {f17 : Addr} {od17 an17 : Option Addr} {sl17 : Array (Option Value)} {oc17 kV17 dc17 pm17 ct17 cd17 : Value}
    {f18 : Addr} {od18 an18 : Option Addr} {sl18 : Array (Option Value)} {oc18 kV18 dc18 pm18 ct18 cd18 : Value}
    {f19 : Addr} {od19 an19 : Option Addr} {sl19 : Array (Option Value)} {oc19 kV19 dc19 pm19 ct19 cd19 : Value}
    {f20 : Addr} {od20 an20 : Option Addr} {sl20 : Array (Option Value)} {oc20 kV20 dc20 pm20 ct20 cd20 : Value}
    {f21 : Addr} {od21 an21 : Option Addr} {sl21 : Array (Option Value)} {oc21 kV21 dc21 pm21 ct21 cd21 : Value}
    {f22 : Addr} {od22 an22 : Option Addr} {sl22 : Array (Option Value)} {oc22 kV22 dc22 pm22 ct22 cd22 : Value}
    {f23 : Addr} {od23 an23 : Option Addr} {sl23 : Array (Option Value)} {oc23 kV23 dc23 pm23 ct23 cd23 : Value}
    {f24 : Addr} {od24 an24 : Option Addr} {sl24 : Array (Option Value)} {oc24 kV24 dc24 pm24 ct24 cd24 : Value}
    {f25 : Addr} {od25 an25 : Option Addr} {sl25 : Array (Option Value)} {oc25 kV25 dc25 pm25 ct25 cd25 : Value}
    {f26 : Addr} {od26 an26 : Option Addr} {sl26 : Array (Option Value)} {oc26 kV26 dc26 pm26 ct26 cd26 : Value}
    {f27 : Addr} {od27 an27 : Option Addr} {sl27 : Array (Option Value)} {oc27 kV27 dc27 pm27 ct27 cd27 : Value}
    {f28 : Addr} {od28 an28 : Option Addr} {sl28 : Array (Option Value)} {oc28 kV28 dc28 pm28 ct28 cd28 : Value}
    {f29 : Addr} {od29 an29 : Option Addr} {sl29 : Array (Option Value)} {oc29 kV29 dc29 pm29 ct29 cd29 : Value}
    {f30 : Addr} {od30 an30 : Option Addr} {sl30 : Array (Option Value)} {oc30 kV30 dc30 pm30 ct30 cd30 : Value}
    {f31 : Addr} {od31 an31 : Option Addr} {sl31 : Array (Option Value)} {oc31 kV31 dc31 pm31 ct31 cd31 : Value}
    {f32 : Addr} {od32 an32 : Option Addr} {sl32 : Array (Option Value)} {oc32 kV32 dc32 pm32 ct32 cd32 : Value}
    {f33 : Addr} {od33 an33 : Option Addr} {sl33 : Array (Option Value)} {oc33 kV33 dc33 pm33 ct33 cd33 : Value}
    {f34 : Addr} {od34 an34 : Option Addr} {sl34 : Array (Option Value)} {oc34 kV34 dc34 pm34 ct34 cd34 : Value}
    {f35 : Addr} {od35 an35 : Option Addr} {sl35 : Array (Option Value)} {oc35 kV35 dc35 pm35 ct35 cd35 : Value}
    {f36 : Addr} {od36 an36 : Option Addr} {sl36 : Array (Option Value)} {oc36 kV36 dc36 pm36 ct36 : Value}
    {cO36 Pt36 : Addr} {co36 : Value} {cdd36 : Option Addr} {cvs36 : Array Value} {csl36 : Array (Option Value)}
    {f37 : Addr} {od37 an37 : Option Addr} {sl37 : Array (Option Value)} {oc37 kV37 dc37 pm37 ct37 : Value}
    {cO37 Pt37 : Addr} {co37 : Value} {cdd37 : Option Addr} {cvs37 : Array Value} {csl37 : Array (Option Value)}
    {f38 : Addr} {od38 an38 : Option Addr} {sl38 : Array (Option Value)} {oc38 kV38 dc38 pm38 ct38 : Value}
    {cO38 Pt38 : Addr} {co38 : Value} {cdd38 : Option Addr} {cvs38 : Array Value} {csl38 : Array (Option Value)}
    {d1 d2 d3 d4 d5 d6 d7 d8 : Addr} {es1 es3 : Array DictEntry} {n1 n3 mm2 mm4 mm5 mm6 mm7 mm8 : Nat} {us2 us4 us5 us6 us7 us8 : Array Value} {od_2 od_4 od_5 od_6 od_7 : Option Addr} {sl_2 sl_4 sl_5 sl_6 sl_7 sl_8 : Array (Option Value)}
    {CR : Addr}
    {CD : Addr}
    {CC : Addr}
    {CW : Addr}
    {CB : Addr}
    {t1 : Tok}
    {t2 : Tok}
    (a0 : PySem.W.nsIn K mainGlobals "is_whole" = some (some (.ref f0)))
    (l0 : K.lookup f0 = some ⟨oc0, od0, .func (PySem.W.fnOf "is_whole" "is_whole" (defArgs sIsWhole) (defBody sIsWhole) (defScope sIsWhole) .none kV0 dc0 pm0 an0 cd0 ct0), sl0⟩)
    (c0 : PySem.W.codeIn K cd0 "is_whole" = true)
    (k0 : PySem.W.keepIn K (.ref f0) = true)
    (a1 : PySem.W.nsIn K mainGlobals "is_tuple_of" = some (some (.ref f1)))
    (l1 : K.lookup f1 = some ⟨oc1, od1, .func (PySem.W.fnOf "is_tuple_of" "is_tuple_of" (defArgs sTupleOf) (defBody sTupleOf) (defScope sTupleOf) .none kV1 dc1 pm1 an1 cd1 ct1), sl1⟩)
    (c1 : PySem.W.codeIn K cd1 "is_tuple_of" = true)
    (k1 : PySem.W.keepIn K (.ref f1) = true)
    (a2 : PySem.W.nsIn K mainGlobals "is_list" = some (some (.ref f2)))
    (l2 : K.lookup f2 = some ⟨oc2, od2, .func (PySem.W.fnOf "is_list" "is_list" (defArgs sIsList) (defBody sIsList) (defScope sIsList) .none kV2 dc2 pm2 an2 cd2 ct2), sl2⟩)
    (c2 : PySem.W.codeIn K cd2 "is_list" = true)
    (k2 : PySem.W.keepIn K (.ref f2) = true)
    (a3 : PySem.W.nsIn K mainGlobals "is_name" = some (some (.ref f3)))
    (l3 : K.lookup f3 = some ⟨oc3, od3, .func (PySem.W.fnOf "is_name" "is_name" (defArgs sIsName) (defBody sIsName) (defScope sIsName) .none kV3 dc3 pm3 an3 cd3 ct3), sl3⟩)
    (c3 : PySem.W.codeIn K cd3 "is_name" = true)
    (k3 : PySem.W.keepIn K (.ref f3) = true)
    (a4 : PySem.W.nsIn K mainGlobals "is_deed" = some (some (.ref f4)))
    (l4 : K.lookup f4 = some ⟨oc4, od4, .func (PySem.W.fnOf "is_deed" "is_deed" (defArgs sIsDeed) (defBody sIsDeed) (defScope sIsDeed) .none kV4 dc4 pm4 an4 cd4 ct4), sl4⟩)
    (c4 : PySem.W.codeIn K cd4 "is_deed" = true)
    (k4 : PySem.W.keepIn K (.ref f4) = true)
    (a5 : PySem.W.nsIn K mainGlobals "check_deed" = some (some (.ref f5)))
    (l5 : K.lookup f5 = some ⟨oc5, od5, .func (PySem.W.fnOf "check_deed" "check_deed" (defArgs sCheckDeed) (defBody sCheckDeed) (defScope sCheckDeed) .none kV5 dc5 pm5 an5 cd5 ct5), sl5⟩)
    (c5 : PySem.W.codeIn K cd5 "check_deed" = true)
    (k5 : PySem.W.keepIn K (.ref f5) = true)
    (a6 : PySem.W.nsIn K mainGlobals "are_steps" = some (some (.ref f6)))
    (l6 : K.lookup f6 = some ⟨oc6, od6, .func (PySem.W.fnOf "are_steps" "are_steps" (defArgs sAreSteps) (defBody sAreSteps) (defScope sAreSteps) .none kV6 dc6 pm6 an6 cd6 ct6), sl6⟩)
    (c6 : PySem.W.codeIn K cd6 "are_steps" = true)
    (k6 : PySem.W.keepIn K (.ref f6) = true)
    (a7 : PySem.W.nsIn K mainGlobals "is_drawing" = some (some (.ref f7)))
    (l7 : K.lookup f7 = some ⟨oc7, od7, .func (PySem.W.fnOf "is_drawing" "is_drawing" (defArgs sIsDrawing) (defBody sIsDrawing) (defScope sIsDrawing) .none kV7 dc7 pm7 an7 cd7 ct7), sl7⟩)
    (c7 : PySem.W.codeIn K cd7 "is_drawing" = true)
    (k7 : PySem.W.keepIn K (.ref f7) = true)
    (a8 : PySem.W.nsIn K mainGlobals "deed_names" = some (some (.ref f8)))
    (l8 : K.lookup f8 = some ⟨oc8, od8, .func (PySem.W.fnOf "deed_names" "deed_names" (defArgs sDeedNames) (defBody sDeedNames) (defScope sDeedNames) .none kV8 dc8 pm8 an8 cd8 ct8), sl8⟩)
    (c8 : PySem.W.codeIn K cd8 "deed_names" = true)
    (k8 : PySem.W.keepIn K (.ref f8) = true)
    (a9 : PySem.W.nsIn K mainGlobals "tool_of" = some (some (.ref f9)))
    (l9 : K.lookup f9 = some ⟨oc9, od9, .func (PySem.W.fnOf "tool_of" "tool_of" (defArgs sToolOf) (defBody sToolOf) (defScope sToolOf) .none kV9 dc9 pm9 an9 cd9 ct9), sl9⟩)
    (c9 : PySem.W.codeIn K cd9 "tool_of" = true)
    (k9 : PySem.W.keepIn K (.ref f9) = true)
    (a10 : PySem.W.nsIn K mainGlobals "is_chest" = some (some (.ref f10)))
    (l10 : K.lookup f10 = some ⟨oc10, od10, .func (PySem.W.fnOf "is_chest" "is_chest" (defArgs sIsChest) (defBody sIsChest) (defScope sIsChest) .none kV10 dc10 pm10 an10 cd10 ct10), sl10⟩)
    (c10 : PySem.W.codeIn K cd10 "is_chest" = true)
    (k10 : PySem.W.keepIn K (.ref f10) = true)
    (a11 : PySem.W.nsIn K mainGlobals "check_chest" = some (some (.ref f11)))
    (l11 : K.lookup f11 = some ⟨oc11, od11, .func (PySem.W.fnOf "check_chest" "check_chest" (defArgs sCheckChest) (defBody sCheckChest) (defScope sCheckChest) .none kV11 dc11 pm11 an11 cd11 ct11), sl11⟩)
    (c11 : PySem.W.codeIn K cd11 "check_chest" = true)
    (k11 : PySem.W.keepIn K (.ref f11) = true)
    (a12 : PySem.W.nsIn K mainGlobals "check_drawing" = some (some (.ref f12)))
    (l12 : K.lookup f12 = some ⟨oc12, od12, .func (PySem.W.fnOf "check_drawing" "check_drawing" (defArgs sCheckDrawing) (defBody sCheckDrawing) (defScope sCheckDrawing) .none kV12 dc12 pm12 an12 cd12 ct12), sl12⟩)
    (c12 : PySem.W.codeIn K cd12 "check_drawing" = true)
    (k12 : PySem.W.keepIn K (.ref f12) = true)
    (a13 : PySem.W.nsIn K mainGlobals "check_word" = some (some (.ref f13)))
    (l13 : K.lookup f13 = some ⟨oc13, od13, .func (PySem.W.fnOf "check_word" "check_word" (defArgs sCheckWord) (defBody sCheckWord) (defScope sCheckWord) .none kV13 dc13 pm13 an13 cd13 ct13), sl13⟩)
    (c13 : PySem.W.codeIn K cd13 "check_word" = true)
    (k13 : PySem.W.keepIn K (.ref f13) = true)
    (a14 : PySem.W.nsIn K mainGlobals "set_of" = some (some (.ref f14)))
    (l14 : K.lookup f14 = some ⟨oc14, od14, .func (PySem.W.fnOf "set_of" "set_of" (defArgs sSetOf) (defBody sSetOf) (defScope sSetOf) .none kV14 dc14 pm14 an14 cd14 ct14), sl14⟩)
    (c14 : PySem.W.codeIn K cd14 "set_of" = true)
    (k14 : PySem.W.keepIn K (.ref f14) = true)
    (a15 : PySem.W.nsIn K mainGlobals "word_of_tools" = some (some (.ref f15)))
    (l15 : K.lookup f15 = some ⟨oc15, od15, .func (PySem.W.fnOf "word_of_tools" "word_of_tools" (defArgs sWordOf) (defBody sWordOf) (defScope sWordOf) .none kV15 dc15 pm15 an15 cd15 ct15), sl15⟩)
    (c15 : PySem.W.codeIn K cd15 "word_of_tools" = true)
    (k15 : PySem.W.keepIn K (.ref f15) = true)
    (a16 : PySem.W.nsIn K mainGlobals "joint" = some (some (.ref f16)))
    (l16 : K.lookup f16 = some ⟨oc16, od16, .func (PySem.W.fnOf "joint" "joint" (defArgs sJoint) (defBody sJoint) (defScope sJoint) .none kV16 dc16 pm16 an16 cd16 ct16), sl16⟩)
    (c16 : PySem.W.codeIn K cd16 "joint" = true)
    (k16 : PySem.W.keepIn K (.ref f16) = true)
    (a17 : PySem.W.nsIn K mainGlobals "no_more" = some (some (.ref f17)))
    (l17 : K.lookup f17 = some ⟨oc17, od17, .func (PySem.W.fnOf "no_more" "no_more" (defArgs sNoMore) (defBody sNoMore) (defScope sNoMore) .none kV17 dc17 pm17 an17 cd17 ct17), sl17⟩)
    (c17 : PySem.W.codeIn K cd17 "no_more" = true)
    (k17 : PySem.W.keepIn K (.ref f17) = true)
    (a18 : PySem.W.nsIn K mainGlobals "chests_with" = some (some (.ref f18)))
    (l18 : K.lookup f18 = some ⟨oc18, od18, .func (PySem.W.fnOf "chests_with" "chests_with" (defArgs sWith) (defBody sWith) (defScope sWith) .none kV18 dc18 pm18 an18 cd18 ct18), sl18⟩)
    (c18 : PySem.W.codeIn K cd18 "chests_with" = true)
    (k18 : PySem.W.keepIn K (.ref f18) = true)
    (a19 : PySem.W.nsIn K mainGlobals "least_chests" = some (some (.ref f19)))
    (l19 : K.lookup f19 = some ⟨oc19, od19, .func (PySem.W.fnOf "least_chests" "least_chests" (defArgs sLeast) (defBody sLeast) (defScope sLeast) .none kV19 dc19 pm19 an19 cd19 ct19), sl19⟩)
    (c19 : PySem.W.codeIn K cd19 "least_chests" = true)
    (k19 : PySem.W.keepIn K (.ref f19) = true)
    (a20 : PySem.W.nsIn K mainGlobals "is_part" = some (some (.ref f20)))
    (l20 : K.lookup f20 = some ⟨oc20, od20, .func (PySem.W.fnOf "is_part" "is_part" (defArgs sIsPart) (defBody sIsPart) (defScope sIsPart) .none kV20 dc20 pm20 an20 cd20 ct20), sl20⟩)
    (c20 : PySem.W.codeIn K cd20 "is_part" = true)
    (k20 : PySem.W.keepIn K (.ref f20) = true)
    (a21 : PySem.W.nsIn K mainGlobals "first_barred" = some (some (.ref f21)))
    (l21 : K.lookup f21 = some ⟨oc21, od21, .func (PySem.W.fnOf "first_barred" "first_barred" (defArgs sBarred) (defBody sBarred) (defScope sBarred) .none kV21 dc21 pm21 an21 cd21 ct21), sl21⟩)
    (c21 : PySem.W.codeIn K cd21 "first_barred" = true)
    (k21 : PySem.W.keepIn K (.ref f21) = true)
    (a22 : PySem.W.nsIn K mainGlobals "_law_begun" = some (some (.ref f22)))
    (l22 : K.lookup f22 = some ⟨oc22, od22, .func (PySem.W.fnOf "_law_begun" "_law_begun" (defArgs sBegun) (defBody sBegun) (defScope sBegun) .none kV22 dc22 pm22 an22 cd22 ct22), sl22⟩)
    (c22 : PySem.W.codeIn K cd22 "_law_begun" = true)
    (k22 : PySem.W.keepIn K (.ref f22) = true)
    (a23 : PySem.W.nsIn K mainGlobals "_law_stirred" = some (some (.ref f23)))
    (l23 : K.lookup f23 = some ⟨oc23, od23, .func (PySem.W.fnOf "_law_stirred" "_law_stirred" (defArgs sStirred) (defBody sStirred) (defScope sStirred) .none kV23 dc23 pm23 an23 cd23 ct23), sl23⟩)
    (c23 : PySem.W.codeIn K cd23 "_law_stirred" = true)
    (k23 : PySem.W.keepIn K (.ref f23) = true)
    (a24 : PySem.W.nsIn K mainGlobals "_law_draw" = some (some (.ref f24)))
    (l24 : K.lookup f24 = some ⟨oc24, od24, .func (PySem.W.fnOf "_law_draw" "_law_draw" (defArgs sDraw) (defBody sDraw) (defScope sDraw) .none kV24 dc24 pm24 an24 cd24 ct24), sl24⟩)
    (c24 : PySem.W.codeIn K cd24 "_law_draw" = true)
    (k24 : PySem.W.keepIn K (.ref f24) = true)
    (a25 : PySem.W.nsIn K mainGlobals "_law_pick" = some (some (.ref f25)))
    (l25 : K.lookup f25 = some ⟨oc25, od25, .func (PySem.W.fnOf "_law_pick" "_law_pick" (defArgs sPick) (defBody sPick) (defScope sPick) .none kV25 dc25 pm25 an25 cd25 ct25), sl25⟩)
    (c25 : PySem.W.codeIn K cd25 "_law_pick" = true)
    (k25 : PySem.W.keepIn K (.ref f25) = true)
    (a26 : PySem.W.nsIn K mainGlobals "_law_shuffled" = some (some (.ref f26)))
    (l26 : K.lookup f26 = some ⟨oc26, od26, .func (PySem.W.fnOf "_law_shuffled" "_law_shuffled" (defArgs sShuf) (defBody sShuf) (defScope sShuf) .none kV26 dc26 pm26 an26 cd26 ct26), sl26⟩)
    (c26 : PySem.W.codeIn K cd26 "_law_shuffled" = true)
    (k26 : PySem.W.keepIn K (.ref f26) = true)
    (a27 : PySem.W.nsIn K mainGlobals "_law_name" = some (some (.ref f27)))
    (l27 : K.lookup f27 = some ⟨oc27, od27, .func (PySem.W.fnOf "_law_name" "_law_name" (defArgs sNm) (defBody sNm) (defScope sNm) .none kV27 dc27 pm27 an27 cd27 ct27), sl27⟩)
    (c27 : PySem.W.codeIn K cd27 "_law_name" = true)
    (k27 : PySem.W.keepIn K (.ref f27) = true)
    (a28 : PySem.W.nsIn K mainGlobals "_law_caught" = some (some (.ref f28)))
    (l28 : K.lookup f28 = some ⟨oc28, od28, .func (PySem.W.fnOf "_law_caught" "_law_caught" (defArgs sCaught) (defBody sCaught) (defScope sCaught) .none kV28 dc28 pm28 an28 cd28 ct28), sl28⟩)
    (c28 : PySem.W.codeIn K cd28 "_law_caught" = true)
    (k28 : PySem.W.keepIn K (.ref f28) = true)
    (a29 : PySem.W.nsIn K mainGlobals "_law_forms" = some (some (.ref f29)))
    (l29 : K.lookup f29 = some ⟨oc29, od29, .func (PySem.W.fnOf "_law_forms" "_law_forms" (defArgs sForms) (defBody sForms) (defScope sForms) .none kV29 dc29 pm29 an29 cd29 ct29), sl29⟩)
    (c29 : PySem.W.codeIn K cd29 "_law_forms" = true)
    (k29 : PySem.W.keepIn K (.ref f29) = true)
    (a30 : PySem.W.nsIn K mainGlobals "_law_has_way" = some (some (.ref f30)))
    (l30 : K.lookup f30 = some ⟨oc30, od30, .func (PySem.W.fnOf "_law_has_way" "_law_has_way" (defArgs sHasWay) (defBody sHasWay) (defScope sHasWay) .none kV30 dc30 pm30 an30 cd30 ct30), sl30⟩)
    (c30 : PySem.W.codeIn K cd30 "_law_has_way" = true)
    (k30 : PySem.W.keepIn K (.ref f30) = true)
    (a31 : PySem.W.nsIn K mainGlobals "_law_deed" = some (some (.ref f31)))
    (l31 : K.lookup f31 = some ⟨oc31, od31, .func (PySem.W.fnOf "_law_deed" "_law_deed" (defArgs sDrawn) (defBody sDrawn) (defScope sDrawn) .none kV31 dc31 pm31 an31 cd31 ct31), sl31⟩)
    (c31 : PySem.W.codeIn K cd31 "_law_deed" = true)
    (k31 : PySem.W.keepIn K (.ref f31) = true)
    (a32 : PySem.W.nsIn K mainGlobals "_law_tools" = some (some (.ref f32)))
    (l32 : K.lookup f32 = some ⟨oc32, od32, .func (PySem.W.fnOf "_law_tools" "_law_tools" (defArgs sTools) (defBody sTools) (defScope sTools) .none kV32 dc32 pm32 an32 cd32 ct32), sl32⟩)
    (c32 : PySem.W.codeIn K cd32 "_law_tools" = true)
    (k32 : PySem.W.keepIn K (.ref f32) = true)
    (a33 : PySem.W.nsIn K mainGlobals "_law_rank" = some (some (.ref f33)))
    (l33 : K.lookup f33 = some ⟨oc33, od33, .func (PySem.W.fnOf "_law_rank" "_law_rank" (defArgs sRank) (defBody sRank) (defScope sRank) .none kV33 dc33 pm33 an33 cd33 ct33), sl33⟩)
    (c33 : PySem.W.codeIn K cd33 "_law_rank" = true)
    (k33 : PySem.W.keepIn K (.ref f33) = true)
    (a34 : PySem.W.nsIn K mainGlobals "_law_chest" = some (some (.ref f34)))
    (l34 : K.lookup f34 = some ⟨oc34, od34, .func (PySem.W.fnOf "_law_chest" "_law_chest" (defArgs sChest) (defBody sChest) (defScope sChest) .none kV34 dc34 pm34 an34 cd34 ct34), sl34⟩)
    (c34 : PySem.W.codeIn K cd34 "_law_chest" = true)
    (k34 : PySem.W.keepIn K (.ref f34) = true)
    (a35 : PySem.W.nsIn K mainGlobals "_law_odd_chest" = some (some (.ref f35)))
    (l35 : K.lookup f35 = some ⟨oc35, od35, .func (PySem.W.fnOf "_law_odd_chest" "_law_odd_chest" (defArgs sOdd) (defBody sOdd) (defScope sOdd) .none kV35 dc35 pm35 an35 cd35 ct35), sl35⟩)
    (c35 : PySem.W.codeIn K cd35 "_law_odd_chest" = true)
    (k35 : PySem.W.keepIn K (.ref f35) = true)
    (a36 : PySem.W.nsIn K mainGlobals "_law_lots_right" = some (some (.ref f36)))
    (l36 : K.lookup f36 = some ⟨oc36, od36, .func (PySem.W.fnOf "_law_lots_right" "_law_lots_right" (defArgs sLots) (defBody sLots) (defScope sLots) .none kV36 dc36 pm36 an36 (.ref cO36) ct36), sl36⟩)
    (c36 : PySem.W.codeIn K (.ref cO36) "_law_lots_right" = true)
    (k36 : PySem.W.keepIn K (.ref f36) = true)
    (co36 : K.lookup cO36 = some ⟨co36, cdd36, .fields cvs36, csl36⟩)
    (cp36 : cvs36[11]? = some (.ref Pt36))
    (cn36 : K.lookup Pt36 = none)
    (a37 : PySem.W.nsIn K mainGlobals "_law_barred_right" = some (some (.ref f37)))
    (l37 : K.lookup f37 = some ⟨oc37, od37, .func (PySem.W.fnOf "_law_barred_right" "_law_barred_right" (defArgs sBarR) (defBody sBarR) (defScope sBarR) .none kV37 dc37 pm37 an37 (.ref cO37) ct37), sl37⟩)
    (c37 : PySem.W.codeIn K (.ref cO37) "_law_barred_right" = true)
    (k37 : PySem.W.keepIn K (.ref f37) = true)
    (co37 : K.lookup cO37 = some ⟨co37, cdd37, .fields cvs37, csl37⟩)
    (cp37 : cvs37[11]? = some (.ref Pt37))
    (cn37 : K.lookup Pt37 = none)
    (a38 : PySem.W.nsIn K mainGlobals "law" = some (some (.ref f38)))
    (l38 : K.lookup f38 = some ⟨oc38, od38, .func (PySem.W.fnOf "law" "law" (defArgs sLaw) (defBody sLaw) (defScope sLaw) .none kV38 dc38 pm38 an38 (.ref cO38) ct38), sl38⟩)
    (c38 : PySem.W.codeIn K (.ref cO38) "law" = true)
    (k38 : PySem.W.keepIn K (.ref f38) = true)
    (co38 : K.lookup cO38 = some ⟨co38, cdd38, .fields cvs38, csl38⟩)
    (cp38 : cvs38[11]? = some (.ref Pt38))
    (cn38 : K.lookup Pt38 = none)
    (gCR : PySem.W.nsIn K mainGlobals "RulerError" = some (some (.ref CR)))
    (eCR : PySem.W.excIn K CR [.type "ValueError", .type "Exception", .type "BaseException", .type "object"] "ValueError.__new__" = true)
    (kpCR : PySem.W.keepIn K (.ref CR) = true)
    (sbCR : PySem.W.subIn K (.ref CR) (.type "BaseException") = some true)
    (tyCR : PySem.W.typeIn K (.ref CR) = some (.type "type"))
    (gaCR : PySem.W.findIn K (.ref CR) "__getattribute__" = some (some (.builtin "BaseException.__getattribute__")))
    (gtCR : PySem.W.findIn K (.ref CR) "__getattr__" = some none)
    (hdCR : PySem.W.hasDictIn K CR = true)
    (clCR : PySem.W.findIn K (.ref CR) "__class__" = some (some (.builtin "object.__class__")))
    (mrCR : PySem.W.mroIn K CR (.type "object") = some true)
    (gCD : PySem.W.nsIn K mainGlobals "BadDeed" = some (some (.ref CD)))
    (eCD : PySem.W.excIn K CD [.type "ValueError", .type "Exception", .type "BaseException", .type "object"] "ValueError.__new__" = true)
    (kpCD : PySem.W.keepIn K (.ref CD) = true)
    (sbCD : PySem.W.subIn K (.ref CD) (.type "BaseException") = some true)
    (tyCD : PySem.W.typeIn K (.ref CD) = some (.type "type"))
    (gaCD : PySem.W.findIn K (.ref CD) "__getattribute__" = some (some (.builtin "BaseException.__getattribute__")))
    (gtCD : PySem.W.findIn K (.ref CD) "__getattr__" = some none)
    (hdCD : PySem.W.hasDictIn K CD = true)
    (clCD : PySem.W.findIn K (.ref CD) "__class__" = some (some (.builtin "object.__class__")))
    (mrCD : PySem.W.mroIn K CD (.type "object") = some true)
    (gCC : PySem.W.nsIn K mainGlobals "BadChest" = some (some (.ref CC)))
    (eCC : PySem.W.excIn K CC [.type "ValueError", .type "Exception", .type "BaseException", .type "object"] "ValueError.__new__" = true)
    (kpCC : PySem.W.keepIn K (.ref CC) = true)
    (sbCC : PySem.W.subIn K (.ref CC) (.type "BaseException") = some true)
    (tyCC : PySem.W.typeIn K (.ref CC) = some (.type "type"))
    (gaCC : PySem.W.findIn K (.ref CC) "__getattribute__" = some (some (.builtin "BaseException.__getattribute__")))
    (gtCC : PySem.W.findIn K (.ref CC) "__getattr__" = some none)
    (hdCC : PySem.W.hasDictIn K CC = true)
    (clCC : PySem.W.findIn K (.ref CC) "__class__" = some (some (.builtin "object.__class__")))
    (mrCC : PySem.W.mroIn K CC (.type "object") = some true)
    (gCW : PySem.W.nsIn K mainGlobals "BadWord" = some (some (.ref CW)))
    (eCW : PySem.W.excIn K CW [.type "ValueError", .type "Exception", .type "BaseException", .type "object"] "ValueError.__new__" = true)
    (kpCW : PySem.W.keepIn K (.ref CW) = true)
    (sbCW : PySem.W.subIn K (.ref CW) (.type "BaseException") = some true)
    (tyCW : PySem.W.typeIn K (.ref CW) = some (.type "type"))
    (gaCW : PySem.W.findIn K (.ref CW) "__getattribute__" = some (some (.builtin "BaseException.__getattribute__")))
    (gtCW : PySem.W.findIn K (.ref CW) "__getattr__" = some none)
    (hdCW : PySem.W.hasDictIn K CW = true)
    (clCW : PySem.W.findIn K (.ref CW) "__class__" = some (some (.builtin "object.__class__")))
    (mrCW : PySem.W.mroIn K CW (.type "object") = some true)
    (gCB : PySem.W.nsIn K mainGlobals "BadDrawing" = some (some (.ref CB)))
    (eCB : PySem.W.excIn K CB [.type "ValueError", .type "Exception", .type "BaseException", .type "object"] "ValueError.__new__" = true)
    (kpCB : PySem.W.keepIn K (.ref CB) = true)
    (sbCB : PySem.W.subIn K (.ref CB) (.type "BaseException") = some true)
    (tyCB : PySem.W.typeIn K (.ref CB) = some (.type "type"))
    (gaCB : PySem.W.findIn K (.ref CB) "__getattribute__" = some (some (.builtin "BaseException.__getattribute__")))
    (gtCB : PySem.W.findIn K (.ref CB) "__getattr__" = some none)
    (hdCB : PySem.W.hasDictIn K CB = true)
    (clCB : PySem.W.findIn K (.ref CB) "__class__" = some (some (.builtin "object.__class__")))
    (mrCB : PySem.W.mroIn K CB (.type "object") = some true)
    (sn : PySem.W.specialIn K (.builtin "object.__class__") "__get__" = some (some (.builtin "getset_descriptor.__get__")))
    (tk : PySem.W.takesIn K (.builtin "object.__class__") = some true)
    (sCC : PySem.W.subIn K (.ref CC) (.ref CR) = some true)
    (sCW : PySem.W.subIn K (.ref CW) (.ref CR) = some true)
    (sCB : PySem.W.subIn K (.ref CB) (.ref CR) = some true)
    (gD1 : PySem.W.nsIn K mainGlobals "NAME_COUNTS" = some (some (.ref d1)))
    (hD1 : K.lookup d1 = some ⟨.type "dict", none, .dict es1 n1, #[]⟩)
    (litD1 : PySem.W.KeysLit w.params es1.toList)
    (lowD1 : (d1 == sysModules) = false)
    (tabD1 : (es1.toList.map fun e => (Y26.txV e.key, Y26.nuV e.val)) = (formsL.map fun p => (some p.1, some (p.2 : Int))))
    (gD3 : PySem.W.nsIn K mainGlobals "TOOLS_OF_OTHER_WORDS" = some (some (.ref d3)))
    (hD3 : K.lookup d3 = some ⟨.type "dict", none, .dict es3 n3, #[]⟩)
    (litD3 : PySem.W.KeysLit w.params es3.toList)
    (lowD3 : (d3 == sysModules) = false)
    (tabD3 : (es3.toList.map fun e => (Y26.txV e.key, Y26.txV e.val)) = (toolsL.map fun p => (some p.1, some p.2)))
    (gD2 : PySem.W.nsIn K mainGlobals "WORDS_WITH_WAYS" = some (some (.ref d2)))
    (hD2 : K.lookup d2 = some ⟨.type "tuple", od_2, .seq us2 mm2, sl_2⟩)
    (vD2 : Vals (waysL.map V.str) us2.toList)
    (gD4 : PySem.W.nsIn K mainGlobals "SHEET_NAMES" = some (some (.ref d4)))
    (hD4 : K.lookup d4 = some ⟨.type "tuple", od_4, .seq us4 mm4, sl_4⟩)
    (vD4 : Vals (sheetL.map V.str) us4.toList)
    (gD5 : PySem.W.nsIn K mainGlobals "TOOLS" = some (some (.ref d5)))
    (hD5 : K.lookup d5 = some ⟨.type "tuple", od_5, .seq us5 mm5, sl_5⟩)
    (vD5 : Vals (toolsN.map V.str) us5.toList)
    (gD6 : PySem.W.nsIn K mainGlobals "TOOLS_FOR_ALL" = some (some (.ref d6)))
    (hD6 : K.lookup d6 = some ⟨.type "tuple", od_6, .seq us6 mm6, sl_6⟩)
    (vD6 : Vals (allN.map V.str) us6.toList)
    (gD7 : PySem.W.nsIn K mainGlobals "TOOLS_FOR_MIDDLE" = some (some (.ref d7)))
    (hD7 : K.lookup d7 = some ⟨.type "tuple", od_7, .seq us7 mm7, sl_7⟩)
    (vD7 : Vals (midN.map V.str) us7.toList)
    (gD8 : PySem.W.nsIn K mainGlobals "WORDS" = some (some (.ref d8)))
    (hD8 : K.lookup d8 = some ⟨.type "tuple", none, .seq us8 mm8, sl_8⟩)
    (vD8 : Vals (wordsN.map V.str) us8.toList)
    (nLt : Pt36 ≠ Pt38)
    (nZt : Pt37 ≠ Pt38)
    (nSZ : Pt36 ≠ Pt37)
    (n_t1 : PySem.W.nsIn K mainGlobals "LETTERS" = some (some (.str "abcdefghijklmnopqrstuvwxyz" t1)))
    (n_t2 : PySem.W.nsIn K mainGlobals "DIGITS" = some (some (.str "0123456789" t2)))
    (z_isinstance : PySem.W.nsIn K mainGlobals "isinstance" = some none)
    (z_int : PySem.W.nsIn K mainGlobals "int" = some none)
    (z_bool : PySem.W.nsIn K mainGlobals "bool" = some none)
    (z_str : PySem.W.nsIn K mainGlobals "str" = some none)
    (z_len : PySem.W.nsIn K mainGlobals "len" = some none)
    (z_all : PySem.W.nsIn K mainGlobals "all" = some none)
    (z_any : PySem.W.nsIn K mainGlobals "any" = some none)
    (z_tuple : PySem.W.nsIn K mainGlobals "tuple" = some none)
    (z_list : PySem.W.nsIn K mainGlobals "list" = some none)
    (z_set : PySem.W.nsIn K mainGlobals "set" = some none)
    (z_sorted : PySem.W.nsIn K mainGlobals "sorted" = some none)
    (z_abs : PySem.W.nsIn K mainGlobals "abs" = some none)
    (z_range : PySem.W.nsIn K mainGlobals "range" = some none)
    (z_max : PySem.W.nsIn K mainGlobals "max" = some none)
    (z_repr : PySem.W.nsIn K mainGlobals "repr" = some none)
    (z_min : PySem.W.nsIn K mainGlobals "min" = some none)
    (z_enumerate : PySem.W.nsIn K mainGlobals "enumerate" = some none)
    : RepG.LawG l w K L2.CX0 10 63 "script" mg fa h := by
  have e := hfa.symm.trans (PySem.W.mg_of X G a38)
  cases e
  have F0 := fun_mk (st := sIsWhole) l0 c0 k0
  have b0 := F0.binds (ps := ["value"]) fun _ _ _ _ _ _ us hl => match us, hl with | [_], _ => rfl
  have F1 := fun_mk (st := sTupleOf) l1 c1 k1
  have b1 := F1.binds (ps := ["value", "size"]) fun _ _ _ _ _ _ us hl => match us, hl with | [_, _], _ => rfl
  have F2 := fun_mk (st := sIsList) l2 c2 k2
  have b2 := F2.binds (ps := ["value"]) fun _ _ _ _ _ _ us hl => match us, hl with | [_], _ => rfl
  have F3 := fun_mk (st := sIsName) l3 c3 k3
  have b3 := F3.binds (ps := ["value"]) fun _ _ _ _ _ _ us hl => match us, hl with | [_], _ => rfl
  have F4 := fun_mk (st := sIsDeed) l4 c4 k4
  have b4 := F4.binds (ps := ["value"]) fun _ _ _ _ _ _ us hl => match us, hl with | [_], _ => rfl
  have F5 := fun_mk (st := sCheckDeed) l5 c5 k5
  have b5 := F5.binds (ps := ["value"]) fun _ _ _ _ _ _ us hl => match us, hl with | [_], _ => rfl
  have F6 := fun_mk (st := sAreSteps) l6 c6 k6
  have b6 := F6.binds (ps := ["value", "names"]) fun _ _ _ _ _ _ us hl => match us, hl with | [_, _], _ => rfl
  have F7 := fun_mk (st := sIsDrawing) l7 c7 k7
  have b7 := F7.binds (ps := ["value"]) fun _ _ _ _ _ _ us hl => match us, hl with | [_], _ => rfl
  have F8 := fun_mk (st := sDeedNames) l8 c8 k8
  have b8 := F8.binds (ps := ["deed"]) fun _ _ _ _ _ _ us hl => match us, hl with | [_], _ => rfl
  have F9 := fun_mk (st := sToolOf) l9 c9 k9
  have b9 := F9.binds (ps := ["deed"]) fun _ _ _ _ _ _ us hl => match us, hl with | [_], _ => rfl
  have F10 := fun_mk (st := sIsChest) l10 c10 k10
  have b10 := F10.binds (ps := ["value"]) fun _ _ _ _ _ _ us hl => match us, hl with | [_], _ => rfl
  have F11 := fun_mk (st := sCheckChest) l11 c11 k11
  have b11 := F11.binds (ps := ["value"]) fun _ _ _ _ _ _ us hl => match us, hl with | [_], _ => rfl
  have F12 := fun_mk (st := sCheckDrawing) l12 c12 k12
  have b12 := F12.binds (ps := ["value"]) fun _ _ _ _ _ _ us hl => match us, hl with | [_], _ => rfl
  have F13 := fun_mk (st := sCheckWord) l13 c13 k13
  have b13 := F13.binds (ps := ["value"]) fun _ _ _ _ _ _ us hl => match us, hl with | [_], _ => rfl
  have F14 := fun_mk (st := sSetOf) l14 c14 k14
  have b14 := F14.binds (ps := ["chest"]) fun _ _ _ _ _ _ us hl => match us, hl with | [_], _ => rfl
  have F15 := fun_mk (st := sWordOf) l15 c15 k15
  have b15 := F15.binds (ps := ["chest"]) fun _ _ _ _ _ _ us hl => match us, hl with | [_], _ => rfl
  have F16 := fun_mk (st := sJoint) l16 c16 k16
  have b16 := F16.binds (ps := ["one", "other"]) fun _ _ _ _ _ _ us hl => match us, hl with | [_, _], _ => rfl
  have F17 := fun_mk (st := sNoMore) l17 c17 k17
  have b17 := F17.binds (ps := ["one", "other"]) fun _ _ _ _ _ _ us hl => match us, hl with | [_, _], _ => rfl
  have F18 := fun_mk (st := sWith) l18 c18 k18
  have b18 := F18.binds (ps := ["word"]) fun _ _ _ _ _ _ us hl => match us, hl with | [_], _ => rfl
  have F19 := fun_mk (st := sLeast) l19 c19 k19
  have b19 := F19.binds (ps := ["word"]) fun _ _ _ _ _ _ us hl => match us, hl with | [_], _ => rfl
  have F20 := fun_mk (st := sIsPart) l20 c20 k20
  have b20 := F20.binds (ps := ["part", "names"]) fun _ _ _ _ _ _ us hl => match us, hl with | [_, _], _ => rfl
  have F21 := fun_mk (st := sBarred) l21 c21 k21
  have b21 := F21.binds (ps := ["steps", "chest"]) fun _ _ _ _ _ _ us hl => match us, hl with | [_, _], _ => rfl
  have F22 := fun_mk (st := sBegun) l22 c22 k22
  have b22 := F22.binds (ps := ["script"]) fun _ _ _ _ _ _ us hl => match us, hl with | [_], _ => rfl
  have F23 := fun_mk (st := sStirred) l23 c23 k23
  have b23 := F23.binds (ps := ["state"]) fun _ _ _ _ _ _ us hl => match us, hl with | [_], _ => rfl
  have F24 := fun_mk (st := sDraw) l24 c24 k24
  have b24 := F24.binds (ps := ["state", "room"]) fun _ _ _ _ _ _ us hl => match us, hl with | [_, _], _ => rfl
  have F25 := fun_mk (st := sPick) l25 c25 k25
  have b25 := F25.binds (ps := ["state", "some"]) fun _ _ _ _ _ _ us hl => match us, hl with | [_, _], _ => rfl
  have F26 := fun_mk (st := sShuf) l26 c26 k26
  have b26 := F26.binds (ps := ["state", "some"]) fun _ _ _ _ _ _ us hl => match us, hl with | [_, _], _ => rfl
  have F27 := fun_mk (st := sNm) l27 c27 k27
  have b27 := F27.binds (ps := ["state", "barred"]) fun _ _ _ _ _ _ us hl => match us, hl with | [_, _], _ => rfl
  have F28 := fun_mk (st := sCaught) l28 c28 k28
  have b28 := F28.binds (ps := ["action"]) fun _ _ _ _ _ _ us hl => match us, hl with | [_], _ => rfl
  have F29 := fun_mk (st := sForms) l29 c29 k29
  have b29 := F29.binds (ps := []) fun _ _ _ _ _ _ us hl => match us, hl with | [], _ => rfl
  have F30 := fun_mk (st := sHasWay) l30 c30 k30
  have b30 := F30.binds (ps := ["word"]) fun _ _ _ _ _ _ us hl => match us, hl with | [_], _ => rfl
  have F31 := fun_mk (st := sDrawn) l31 c31 k31
  have b31 := F31.binds (ps := ["state", "word", "names"]) fun _ _ _ _ _ _ us hl => match us, hl with | [_, _, _], _ => rfl
  have F32 := fun_mk (st := sTools) l32 c32 k32
  have b32 := F32.binds (ps := []) fun _ _ _ _ _ _ us hl => match us, hl with | [], _ => rfl
  have F33 := fun_mk (st := sRank) l33 c33 k33
  have b33 := F33.binds (ps := ["chest"]) fun _ _ _ _ _ _ us hl => match us, hl with | [_], _ => rfl
  have F34 := fun_mk (st := sChest) l34 c34 k34
  have b34 := F34.binds (ps := ["state"]) fun _ _ _ _ _ _ us hl => match us, hl with | [_], _ => rfl
  have F35 := fun_mk (st := sOdd) l35 c35 k35
  have b35 := F35.binds (ps := ["state", "chest"]) fun _ _ _ _ _ _ us hl => match us, hl with | [_, _], _ => rfl
  have F36 := fun_mk (st := sLots) l36 c36 k36
  have b36 := F36.binds (ps := ["state"]) fun _ _ _ _ _ _ us hl => match us, hl with | [_], _ => rfl
  have tb36 : PySem.W.tabIn K "_law_lots_right" = some (cO36, Pt36) := by
    unfold PySem.W.tabIn
    simp only [a36, l36, co36, cp36, PySem.W.fnOf]
  have F37 := fun_mk (st := sBarR) l37 c37 k37
  have b37 := F37.binds (ps := ["state", "chest"]) fun _ _ _ _ _ _ us hl => match us, hl with | [_, _], _ => rfl
  have tb37 : PySem.W.tabIn K "_law_barred_right" = some (cO37, Pt37) := by
    unfold PySem.W.tabIn
    simp only [a37, l37, co37, cp37, PySem.W.fnOf]
  have F38 := fun_mk (st := sLaw) l38 c38 k38
  have b38 := F38.binds (ps := ["script"]) fun _ _ _ _ _ _ us hl => match us, hl with | [_], _ => rfl
  have tb38 : PySem.W.tabIn K "law" = some (cO38, Pt38) := by
    unfold PySem.W.tabIn
    simp only [a38, l38, co38, cp38, PySem.W.fnOf]
  have exm_ := fun {C : Addr} (s : PySem.W.subIn K (.ref C) (.ref CR) = some true) => (PySem.W.exm_ref sbCR hdCR tyCR s : PySem.W.exmOne K (.ref C) (.ref CR) = some true)
  have kit_ : ∀ C : Addr, PySem.W.kitOne K (.ref C) (.ref C) = some true := fun C => by unfold PySem.W.kitOne; rw [if_pos (beq_self_eq_true _)]
  have mg_ := fun {x : Str} {v : Value} (e : PySem.W.nsIn K mainGlobals x = some (some v)) => PySem.W.mg_of X G e
  have m0_ := fun {x : Str} (e : PySem.W.nsIn K mainGlobals x = some none) => PySem.W.mg_none_of X G e
  refine ⟨PySem.W.fnOf "law" "law" (defArgs sLaw) (defBody sLaw) (defScope sLaw) .none kV38 dc38 pm38 an38 (.ref cO38) ct38, [(cO38, Pt38), (cO36, Pt36), (cO37, Pt37)], spLaw K Pt38 Pt36 Pt37, fun p hp => ?_, fun s u => .of_eq rfl, fun H a ns hl hT hS => ?_, fun base hb hn hTB => ?_⟩
  · rcases List.mem_cons.mp hp with rfl | hp
    · exact ⟨(own "law" (List.mem_cons_of_mem _ (List.mem_cons_of_mem _ (List.mem_singleton.mpr rfl))) cO38 Pt38 tb38).2, cn38, (own "law" (List.mem_cons_of_mem _ (List.mem_cons_of_mem _ (List.mem_singleton.mpr rfl))) cO38 Pt38 tb38).1⟩
    · rcases List.mem_cons.mp hp with rfl | hp
      · exact ⟨(own "_law_lots_right" List.mem_cons_self cO36 Pt36 tb36).2, cn36, (own "_law_lots_right" List.mem_cons_self cO36 Pt36 tb36).1⟩
      · cases List.mem_singleton.mp hp
        exact ⟨(own "_law_barred_right" (List.mem_cons_of_mem _ List.mem_cons_self) cO37 Pt37 tb37).2, cn37, (own "_law_barred_right" (List.mem_cons_of_mem _ List.mem_cons_self) cO37 Pt37 tb37).1⟩
  · exact ⟨a, ns, rfl, hS, hl, hT _ List.mem_cons_self, hT _ (List.mem_cons_of_mem _ List.mem_cons_self), hT _ (List.mem_cons_of_mem _ (List.mem_cons_of_mem _ (List.mem_singleton.mpr rfl))), fun _ => rfl⟩
  · have TD : Y6.TxtE K mg "BadDeed" CD := ⟨mg_ gCD, eCD, kpCD, sbCD, tyCD⟩
    have TB : Y6.TxtE K mg "BadDrawing" CB := ⟨mg_ gCB, eCB, kpCB, sbCB, tyCB⟩
    have TC : Y6.TxtE K mg "BadChest" CC := ⟨mg_ gCC, eCC, kpCC, sbCC, tyCC⟩
    have TW : Y6.TxtE K mg "BadWord" CW := ⟨mg_ gCW, eCW, kpCW, sbCW, tyCW⟩
    have EC : ExcC K CC := ⟨gaCC, gtCC, sbCC, hdCC, clCC, sn, tk, mrCC⟩
    have EW : ExcC K CW := ⟨gaCW, gtCW, sbCW, hdCW, clCW, sn, tk, mrCW⟩
    have EB : ExcC K CB := ⟨gaCB, gtCB, sbCB, hdCB, clCB, sn, tk, mrCB⟩
    have FK : FormsK K w d1 := Y26.forms_of hD1 litD1 lowD1 tabD1
    have TK_ : ToolsK K w d3 := Y26.tools_of hD3 litD3 lowD3 tabD3
    have WK2 : WordsK K d2 waysL := Y26.words_of hD2 vD2 (by decide)
    have WK4 : WordsK K d4 sheetL := Y26.words_of hD4 vD4 (by decide)
    have WK5 : WordsK K d5 toolsN := Y26.words_of hD5 vD5 (by decide)
    have WK6 : WordsK K d6 allN := Y26.words_of hD6 vD6 (by decide)
    have WK7 : WordsK K d7 midN := Y26.words_of hD7 vD7 (by decide)
    have WK8 : WordsK K d8 wordsN := Y26.words_of hD8 vD8 (by decide)
    have tW : ∃ o, K.lookup d8 = some o ∧ o.cls = .type "tuple" ∧ o.dict = none := ⟨_, hD8, rfl, rfl⟩
    have gName := Y1.ok_name (mg := mg) (base := base) (P := l.prog) (w := w) F3 (m0_ z_isinstance) (m0_ z_str) (m0_ z_len) (m0_ z_all) (mg_ n_t1) (mg_ n_t2)
    have gWhole := Y2.ok_whole (mg := mg) (base := base) (P := l.prog) (w := w) F0 (m0_ z_isinstance) (m0_ z_int) (m0_ z_bool)
    have gTup := Y2.ok_tupleOf (mg := mg) (base := base) (P := l.prog) (w := w) F1 (m0_ z_isinstance) (m0_ z_tuple) (m0_ z_len)
    have gLis := Y2.ok_isList (mg := mg) (base := base) (P := l.prog) (w := w) F2 (m0_ z_isinstance) (m0_ z_tuple) (m0_ z_list)
    have gDeed := Y2.ok_deed (mg := mg) (base := base) (P := l.prog) (w := w) F4 F3 gName b3 (mg_ a3) F0 gWhole b0 (mg_ a0) FK (mg_ gD1) WK2 (mg_ gD2) (m0_ z_isinstance) (m0_ z_tuple) (m0_ z_str) (m0_ z_len) (m0_ z_all)
    have gDN := Y3.ok_dn (mg := mg) (base := base) (P := l.prog) (w := w) F8 FK (mg_ gD1)
    have gSteps := Y4.ok_steps (mg := mg) (base := base) (P := l.prog) (w := w) F6 F2 gLis b2 (mg_ a2) F1 gTup b1 (mg_ a1) F3 gName b3 (mg_ a3) F4 gDeed b4 (mg_ a4) F8 gDN b8 (mg_ a8) (m0_ z_all)
    have gDraw := Y7.ok_drawing (mg := mg) (base := base) (P := l.prog) (w := w) F7 F6 gSteps b6 (mg_ a6) WK4 (mg_ gD4)
    have gCkB := Y7.ok_checkDrawing (mg := mg) (base := base) (P := l.prog) (w := w) F12 F7 gDraw b7 (mg_ a7) TB
    have gCkD := Y7.ok_checkDeed (mg := mg) (base := base) (P := l.prog) (w := w) F5 F4 gDeed b4 (mg_ a4) TD
    have gTool := Y7.ok_tool (mg := mg) (base := base) (P := l.prog) (w := w) F9 F5 gCkD b5 (mg_ a5) TK_ (mg_ gD3)
    have gIC := Y30.ok_isChest (mg := mg) (base := base) (P := l.prog) (w := w) F10 WK5 (mg_ gD5) (m0_ z_isinstance) (m0_ z_tuple) (m0_ z_str) (m0_ z_all) (m0_ z_list) (m0_ z_sorted) (m0_ z_set)
    have gCkC := Y30.ok_checkChest (mg := mg) (base := base) (P := l.prog) (w := w) F11 F10 gIC b10 (mg_ a10) TC
    have gCkW := Y30.ok_checkWord (mg := mg) (base := base) (P := l.prog) (w := w) F13 WK8 (mg_ gD8) (m0_ z_isinstance) (m0_ z_str) TW
    have gWO := Y31.ok_wordOf (mg := mg) (base := base) (P := l.prog) (w := w) F15 WK6 (mg_ gD6) WK7 (mg_ gD7) WK8 (mg_ gD8)
    have gSO := Y31.ok_setOf (mg := mg) (base := base) (P := l.prog) (w := w) F14 F11 gCkC b11 (mg_ a11) F15 gWO b15 (mg_ a15)
    have gJo := Y31.ok_joint (mg := mg) (base := base) (P := l.prog) (w := w) F16 F11 gCkC b11 (mg_ a11) (m0_ z_tuple) (m0_ z_sorted) (m0_ z_set)
    have gNo := Y31.ok_noMore (mg := mg) (base := base) (P := l.prog) (w := w) F17 F14 gSO b14 (mg_ a14) WK8 tW (mg_ gD8)
    have gWi := Y33.ok_with (mg := mg) (base := base) (P := l.prog) (w := w) F18 F13 gCkW b13 (mg_ a13) F15 gWO b15 (mg_ a15) WK5 (mg_ gD5) (m0_ z_sorted)
    have gPa := Y33.ok_isPart (mg := mg) (base := base) (P := l.prog) (w := w) F20 (m0_ z_all)
    have gLe := Y35.ok_least (mg := mg) (base := base) (P := l.prog) (w := w) F19 F18 gWi b18 (mg_ a18) F20 gPa b20 (mg_ a20) (m0_ z_sorted) (m0_ z_len) (m0_ z_any)
    have gBa := Y36.ok_barred (mg := mg) (base := base) (P := l.prog) (w := w) F21 F12 gCkB b12 (mg_ a12) F11 gCkC b11 (mg_ a11) F9 gTool b9 (mg_ a9) (m0_ z_enumerate)
    have gBeg := ok_begun (mg := mg) (base := base) (P := l.prog) (w := w) F22 (m0_ z_abs)
    have gDr := ok_draw (mg := mg) (base := base) (P := l.prog) (w := w) F24 F23 b23 (mg_ a23) (m0_ z_int)
    have gPick := Y10.ok_pick (mg := mg) (base := base) (P := l.prog) (w := w) F25 F24 gDr b24 (mg_ a24) (m0_ z_len)
    have gShuf := Y10.ok_shuf (mg := mg) (base := base) (P := l.prog) (w := w) F26 F24 gDr b24 (mg_ a24) (m0_ z_len) (m0_ z_list)
    have gNm := Y11.ok_nm (mg := mg) (base := base) (P := l.prog) (w := w) F27 F25 gPick b25 (mg_ a25)
    have gForms := Y3.ok_forms (mg := mg) (base := base) (P := l.prog) (w := w) F29
    have gHW := Y3.ok_hasWay (mg := mg) (base := base) (P := l.prog) (w := w) F30
    have gDrawn := Y12.ok_drawn (mg := mg) (base := base) (P := l.prog) (w := w) F31 F26 gShuf b26 (mg_ a26) F24 gDr b24 (mg_ a24) F25 gPick b25 (mg_ a25) F29 gForms b29 (mg_ a29) F30 gHW b30 (mg_ a30) (m0_ z_range) (m0_ z_len) (m0_ z_tuple)
    have gTo := Y36.ok_tools (mg := mg) (base := base) (P := l.prog) (w := w) F32
    have gRa := Y36.ok_rank (mg := mg) (base := base) (P := l.prog) (w := w) F33 (m0_ z_int)
    have gCh := Y37.ok_chestD (mg := mg) (base := base) (P := l.prog) (w := w) F34 F24 gDr b24 (mg_ a24) F32 gTo b32 (mg_ a32) (m0_ z_tuple)
    have gOd := Y37.ok_odd (mg := mg) (base := base) (P := l.prog) (w := w) F35 F25 gPick b25 (mg_ a25) (m0_ z_list)
    have kWi : KBn K (PySem.W.fnOf "chests_with" "chests_with" (defArgs sWith) (defBody sWith) (defScope sWith) .none kV18 dc18 pm18 an18 cd18 ct18) ["word"] 0 ["word"] (fun _ ws => ws) (fun _ zs => zs) := ⟨fun s us ws _ h0 h1 => match us, ws, h0, h1 with | [], [_], _, _ => .of_eq rfl, fun _ r => r⟩
    have kLe : KBn K (PySem.W.fnOf "least_chests" "least_chests" (defArgs sLeast) (defBody sLeast) (defScope sLeast) .none kV19 dc19 pm19 an19 cd19 ct19) ["word"] 0 ["word"] (fun _ ws => ws) (fun _ zs => zs) := ⟨fun s us ws _ h0 h1 => match us, ws, h0, h1 with | [], [_], _, _ => .of_eq rfl, fun _ r => r⟩
    have kBa : KBn K (PySem.W.fnOf "first_barred" "first_barred" (defArgs sBarred) (defBody sBarred) (defScope sBarred) .none kV21 dc21 pm21 an21 cd21 ct21) ["steps", "chest"] 0 ["steps", "chest"] (fun _ ws => ws) (fun _ zs => zs) := ⟨fun s us ws _ h0 h1 => match us, ws, h0, h1 with | [], [_, _], _, _ => .of_eq rfl, fun _ r => r⟩
    have kSO : KBn K (PySem.W.fnOf "set_of" "set_of" (defArgs sSetOf) (defBody sSetOf) (defScope sSetOf) .none kV14 dc14 pm14 an14 cd14 ct14) ["chest"] 0 ["chest"] (fun _ ws => ws) (fun _ zs => zs) := ⟨fun s us ws _ h0 h1 => match us, ws, h0, h1 with | [], [_], _, _ => .of_eq rfl, fun _ r => r⟩
    have kJo : KBn K (PySem.W.fnOf "joint" "joint" (defArgs sJoint) (defBody sJoint) (defScope sJoint) .none kV16 dc16 pm16 an16 cd16 ct16) ["one", "other"] 0 ["one", "other"] (fun _ ws => ws) (fun _ zs => zs) := ⟨fun s us ws _ h0 h1 => match us, ws, h0, h1 with | [], [_, _], _, _ => .of_eq rfl, fun _ r => r⟩
    have kNo : KBn K (PySem.W.fnOf "no_more" "no_more" (defArgs sNoMore) (defBody sNoMore) (defScope sNoMore) .none kV17 dc17 pm17 an17 cd17 ct17) ["one", "other"] 0 ["one", "other"] (fun _ ws => ws) (fun _ zs => zs) := ⟨fun s us ws _ h0 h1 => match us, ws, h0, h1 with | [], [_, _], _, _ => .of_eq rfl, fun _ r => r⟩
    have kIC : KBn K (PySem.W.fnOf "is_chest" "is_chest" (defArgs sIsChest) (defBody sIsChest) (defScope sIsChest) .none kV10 dc10 pm10 an10 cd10 ct10) ["value"] 0 ["value"] (fun _ ws => ws) (fun _ zs => zs) := ⟨fun s us ws _ h0 h1 => match us, ws, h0, h1 with | [], [_], _, _ => .of_eq rfl, fun _ r => r⟩
    have memS : ((Pt36, (("_law_lots_right" : Str) ++ ".<locals>.") ++ "<lambda>") : Addr × Str) ∈ tabsL Pt38 Pt36 Pt37 := (List.mem_cons_of_mem _ List.mem_cons_self)
    have onlyS : ∀ p ∈ tabsL Pt38 Pt36 Pt37, p.1 = Pt36 → p.2 = (("_law_lots_right" : Str) ++ ".<locals>.") ++ "<lambda>" := fun p hp e => by
      rcases List.mem_cons.mp hp with rfl | hp
      · exact absurd e.symm nLt
      · rcases List.mem_cons.mp hp with rfl | hp
        · rfl
        · rw [List.mem_singleton.mp hp] at e
          exact absurd e.symm nSZ
    have memZ : ((Pt37, (("_law_barred_right" : Str) ++ ".<locals>.") ++ "<lambda>") : Addr × Str) ∈ tabsL Pt38 Pt36 Pt37 := (List.mem_cons_of_mem _ (List.mem_cons_of_mem _ (List.mem_singleton.mpr rfl)))
    have onlyZ : ∀ p ∈ tabsL Pt38 Pt36 Pt37, p.1 = Pt37 → p.2 = (("_law_barred_right" : Str) ++ ".<locals>.") ++ "<lambda>" := fun p hp e => by
      rcases List.mem_cons.mp hp with rfl | hp
      · exact absurd e.symm nZt
      · rcases List.mem_cons.mp hp with rfl | hp
        · exact absurd e nSZ
        · rw [List.mem_singleton.mp hp]
    have gLR := Y40.ok_lotsR (base := base) (P := l.prog) (w := w) l36 c36 (hTB _ (List.mem_cons_of_mem _ List.mem_cons_self)) memS onlyS F32 gTo b32 (mg_ a32) F33 gRa b33 (mg_ a33) F24 gDr b24 (mg_ a24) F25 gPick b25 (mg_ a25) F18 gWi b18 kWi (mg_ a18) F19 gLe b19 kLe (mg_ a19) l28 c28 k28 b28 (mg_ a28) (mg_ gCR) (mg_ gCW) (exm_ sCW) (kit_ CW) EW (m0_ z_range) (m0_ z_list) (m0_ z_len) (m0_ z_sorted) (m0_ z_isinstance)
    have gBR := Y41.ok_barR (base := base) (P := l.prog) (w := w) l37 c37 (hTB _ (List.mem_cons_of_mem _ (List.mem_cons_of_mem _ (List.mem_singleton.mpr rfl)))) memZ onlyZ F24 gDr b24 (mg_ a24) F27 gNm b27 (mg_ a27) F31 gDrawn b31 (mg_ a31) F25 gPick b25 (mg_ a25) F29 gForms b29 (mg_ a29) F21 gBa b21 kBa (mg_ a21) l28 c28 k28 b28 (mg_ a28) (mg_ gCR) (mg_ gCB) (mg_ gCC) (exm_ sCB) (kit_ CB) EB (exm_ sCC) (kit_ CC) EC (m0_ z_range) (m0_ z_len) (m0_ z_sorted) (m0_ z_isinstance) (m0_ z_repr)
    exact Y42.ok_law l38 c38 (hTB _ List.mem_cons_self) nLt nZt F22 gBeg b22 (mg_ a22) F32 gTo b32 (mg_ a32) F33 gRa b33 (mg_ a33) F34 gCh b34 (mg_ a34) F35 gOd b35 (mg_ a35) F14 gSO b14 kSO (mg_ a14) F16 gJo b16 kJo (mg_ a16) F17 gNo b17 kNo (mg_ a17) F10 gIC b10 kIC (mg_ a10) k37 gBR b37 (mg_ a37) k36 gLR b36 (mg_ a36) l28 c28 k28 b28 (mg_ a28) (mg_ gCR) (mg_ gCC) (exm_ sCC) (kit_ CC) EC (m0_ z_range) (m0_ z_repr) (m0_ z_isinstance) (m0_ z_tuple) (m0_ z_len) (m0_ z_min) (m0_ z_max)
end Y43
open PySem PySem.W PyProof.Rows
set_option maxRecDepth 100000 in
set_option maxHeartbeats 0 in
theorem PySem.Challenge.cw_rulerchest_k15_all_chests_by_three_sets_holds : PySem.Challenge.rw_rulerchest_k15_all_chests_by_three_sets.Holds := by
  w_on; o_law; k_head; (case hw => w_witness2)
  k_fill
  refine RepG.walk_G (l := PySem.Challenge.rw_rulerchest_k15_all_chests_by_three_sets) (n := 63) (k := 10) (x := "script") (CX := fun _ => L2.CX0) (xs := (["_law_lots_right", "_law_barred_right", "law"] : List Str)) rfl (by decide) rfl ⟨rfl, by decide, by decide⟩ (by decide +kernel) (fun w h Y => PySem.W.km_in_of Y) ?F (fun _ _ _ _ _ z => z)
  case F =>
    intro w mg fa h Y KX G hmg own
    refine' Y43.all_mk KX G hmg own ?a0 ?l0 ?c0 ?k0 ?a1 ?l1 ?c1 ?k1 ?a2 ?l2 ?c2 ?k2 ?a3 ?l3 ?c3 ?k3 ?a4 ?l4 ?c4 ?k4 ?a5 ?l5 ?c5 ?k5 ?a6 ?l6 ?c6 ?k6 ?a7 ?l7 ?c7 ?k7 ?a8 ?l8 ?c8 ?k8 ?a9 ?l9 ?c9 ?k9 ?a10 ?l10 ?c10 ?k10 ?a11 ?l11 ?c11 ?k11 ?a12 ?l12 ?c12 ?k12 ?a13 ?l13 ?c13 ?k13 ?a14 ?l14 ?c14 ?k14 ?a15 ?l15 ?c15 ?k15 ?a16 ?l16 ?c16 ?k16 ?a17 ?l17 ?c17 ?k17 ?a18 ?l18 ?c18 ?k18 ?a19 ?l19 ?c19 ?k19 ?a20 ?l20 ?c20 ?k20 ?a21 ?l21 ?c21 ?k21 ?a22 ?l22 ?c22 ?k22 ?a23 ?l23 ?c23 ?k23 ?a24 ?l24 ?c24 ?k24 ?a25 ?l25 ?c25 ?k25 ?a26 ?l26 ?c26 ?k26 ?a27 ?l27 ?c27 ?k27 ?a28 ?l28 ?c28 ?k28 ?a29 ?l29 ?c29 ?k29 ?a30 ?l30 ?c30 ?k30 ?a31 ?l31 ?c31 ?k31 ?a32 ?l32 ?c32 ?k32 ?a33 ?l33 ?c33 ?k33 ?a34 ?l34 ?c34 ?k34 ?a35 ?l35 ?c35 ?k35 ?a36 ?l36 ?c36 ?k36 ?co36 ?cp36 ?cn36 ?a37 ?l37 ?c37 ?k37 ?co37 ?cp37 ?cn37 ?a38 ?l38 ?c38 ?k38 ?co38 ?cp38 ?cn38 ?gCR ?eCR ?kpCR ?sbCR ?tyCR ?gaCR ?gtCR ?hdCR ?clCR ?mrCR ?gCD ?eCD ?kpCD ?sbCD ?tyCD ?gaCD ?gtCD ?hdCD ?clCD ?mrCD ?gCC ?eCC ?kpCC ?sbCC ?tyCC ?gaCC ?gtCC ?hdCC ?clCC ?mrCC ?gCW ?eCW ?kpCW ?sbCW ?tyCW ?gaCW ?gtCW ?hdCW ?clCW ?mrCW ?gCB ?eCB ?kpCB ?sbCB ?tyCB ?gaCB ?gtCB ?hdCB ?clCB ?mrCB ?sn ?tk ?sCC ?sCW ?sCB ?gD1 ?hD1 ?litD1 ?lowD1 ?tabD1 ?gD3 ?hD3 ?litD3 ?lowD3 ?tabD3 ?gD2 ?hD2 ?vD2 ?gD4 ?hD4 ?vD4 ?gD5 ?hD5 ?vD5 ?gD6 ?hD6 ?vD6 ?gD7 ?hD7 ?vD7 ?gD8 ?hD8 ?vD8 ?nLt ?nZt ?nSZ ?n_t1 ?n_t2 ?z_isinstance ?z_int ?z_bool ?z_str ?z_len ?z_all ?z_any ?z_tuple ?z_list ?z_set ?z_sorted ?z_abs ?z_range ?z_max ?z_repr ?z_min ?z_enumerate
    (case a0 => k_is)
    (case l0 => k_is)
    (case c0 => k_is)
    (case k0 => k_is)
    (case a1 => k_is)
    (case l1 => k_is)
    (case c1 => k_is)
    (case k1 => k_is)
    (case a2 => k_is)
    (case l2 => k_is)
    (case c2 => k_is)
    (case k2 => k_is)
    (case a3 => k_is)
    (case l3 => k_is)
    (case c3 => k_is)
    (case k3 => k_is)
    (case a4 => k_is)
    (case l4 => k_is)
    (case c4 => k_is)
    (case k4 => k_is)
    (case a5 => k_is)
    (case l5 => k_is)
    (case c5 => k_is)
    (case k5 => k_is)
    (case a6 => k_is)
    (case l6 => k_is)
    (case c6 => k_is)
    (case k6 => k_is)
    (case a7 => k_is)
    (case l7 => k_is)
    (case c7 => k_is)
    (case k7 => k_is)
    (case a8 => k_is)
    (case l8 => k_is)
    (case c8 => k_is)
    (case k8 => k_is)
    (case a9 => k_is)
    (case l9 => k_is)
    (case c9 => k_is)
    (case k9 => k_is)
    (case a10 => k_is)
    (case l10 => k_is)
    (case c10 => k_is)
    (case k10 => k_is)
    (case a11 => k_is)
    (case l11 => k_is)
    (case c11 => k_is)
    (case k11 => k_is)
    (case a12 => k_is)
    (case l12 => k_is)
    (case c12 => k_is)
    (case k12 => k_is)
    (case a13 => k_is)
    (case l13 => k_is)
    (case c13 => k_is)
    (case k13 => k_is)
    (case a14 => k_is)
    (case l14 => k_is)
    (case c14 => k_is)
    (case k14 => k_is)
    (case a15 => k_is)
    (case l15 => k_is)
    (case c15 => k_is)
    (case k15 => k_is)
    (case a16 => k_is)
    (case l16 => k_is)
    (case c16 => k_is)
    (case k16 => k_is)
    (case a17 => k_is)
    (case l17 => k_is)
    (case c17 => k_is)
    (case k17 => k_is)
    (case a18 => k_is)
    (case l18 => k_is)
    (case c18 => k_is)
    (case k18 => k_is)
    (case a19 => k_is)
    (case l19 => k_is)
    (case c19 => k_is)
    (case k19 => k_is)
    (case a20 => k_is)
    (case l20 => k_is)
    (case c20 => k_is)
    (case k20 => k_is)
    (case a21 => k_is)
    (case l21 => k_is)
    (case c21 => k_is)
    (case k21 => k_is)
    (case a22 => k_is)
    (case l22 => k_is)
    (case c22 => k_is)
    (case k22 => k_is)
    (case a23 => k_is)
    (case l23 => k_is)
    (case c23 => k_is)
    (case k23 => k_is)
    (case a24 => k_is)
    (case l24 => k_is)
    (case c24 => k_is)
    (case k24 => k_is)
    (case a25 => k_is)
    (case l25 => k_is)
    (case c25 => k_is)
    (case k25 => k_is)
    (case a26 => k_is)
    (case l26 => k_is)
    (case c26 => k_is)
    (case k26 => k_is)
    (case a27 => k_is)
    (case l27 => k_is)
    (case c27 => k_is)
    (case k27 => k_is)
    (case a28 => k_is)
    (case l28 => k_is)
    (case c28 => k_is)
    (case k28 => k_is)
    (case a29 => k_is)
    (case l29 => k_is)
    (case c29 => k_is)
    (case k29 => k_is)
    (case a30 => k_is)
    (case l30 => k_is)
    (case c30 => k_is)
    (case k30 => k_is)
    (case a31 => k_is)
    (case l31 => k_is)
    (case c31 => k_is)
    (case k31 => k_is)
    (case a32 => k_is)
    (case l32 => k_is)
    (case c32 => k_is)
    (case k32 => k_is)
    (case a33 => k_is)
    (case l33 => k_is)
    (case c33 => k_is)
    (case k33 => k_is)
    (case a34 => k_is)
    (case l34 => k_is)
    (case c34 => k_is)
    (case k34 => k_is)
    (case a35 => k_is)
    (case l35 => k_is)
    (case c35 => k_is)
    (case k35 => k_is)
    (case a36 => k_is)
    (case l36 => k_is)
    (case c36 => k_is)
    (case k36 => k_is)
    (case co36 => k_is)
    (case cp36 => exact rfl)
    (case cn36 => kernel_rfl)
    (case a37 => k_is)
    (case l37 => k_is)
    (case c37 => k_is)
    (case k37 => k_is)
    (case co37 => k_is)
    (case cp37 => exact rfl)
    (case cn37 => kernel_rfl)
    (case a38 => k_is)
    (case l38 => k_is)
    (case c38 => k_is)
    (case k38 => k_is)
    (case co38 => k_is)
    (case cp38 => exact rfl)
    (case cn38 => kernel_rfl)
    (case gCR => k_is)
    (case eCR => k_exc)
    (case kpCR => k_is)
    (case sbCR => k_is)
    (case tyCR => k_is)
    (case gaCR => k_is)
    (case gtCR => k_is)
    (case hdCR => k_is)
    (case clCR => k_is)
    (case mrCR => k_is)
    (case gCD => k_is)
    (case eCD => k_exc)
    (case kpCD => k_is)
    (case sbCD => k_is)
    (case tyCD => k_is)
    (case gaCD => k_is)
    (case gtCD => k_is)
    (case hdCD => k_is)
    (case clCD => k_is)
    (case mrCD => k_is)
    (case gCC => k_is)
    (case eCC => k_exc)
    (case kpCC => k_is)
    (case sbCC => k_is)
    (case tyCC => k_is)
    (case gaCC => k_is)
    (case gtCC => k_is)
    (case hdCC => k_is)
    (case clCC => k_is)
    (case mrCC => k_is)
    (case gCW => k_is)
    (case eCW => k_exc)
    (case kpCW => k_is)
    (case sbCW => k_is)
    (case tyCW => k_is)
    (case gaCW => k_is)
    (case gtCW => k_is)
    (case hdCW => k_is)
    (case clCW => k_is)
    (case mrCW => k_is)
    (case gCB => k_is)
    (case eCB => k_exc)
    (case kpCB => k_is)
    (case sbCB => k_is)
    (case tyCB => k_is)
    (case gaCB => k_is)
    (case gtCB => k_is)
    (case hdCB => k_is)
    (case clCB => k_is)
    (case mrCB => k_is)
    (case sn => k_is)
    (case tk => k_is)
    (case sCC => k_is)
    (case sCW => k_is)
    (case sCB => k_is)
    (case gD1 => k_is)
    (case hD1 => k_is)
    (case litD1 => exact ⟨⟨_, _, rfl, rfl⟩, ⟨⟨_, _, rfl, rfl⟩, ⟨⟨_, _, rfl, rfl⟩, ⟨⟨_, _, rfl, rfl⟩, ⟨⟨_, _, rfl, rfl⟩, ⟨⟨_, _, rfl, rfl⟩, ⟨⟨_, _, rfl, rfl⟩, ⟨⟨_, _, rfl, rfl⟩, ⟨⟨_, _, rfl, rfl⟩, ⟨⟨_, _, rfl, rfl⟩, ⟨⟨_, _, rfl, rfl⟩, True.intro⟩⟩⟩⟩⟩⟩⟩⟩⟩⟩⟩)
    (case lowD1 => rfl)
    (case tabD1 => rfl)
    (case gD3 => k_is)
    (case hD3 => k_is)
    (case litD3 => exact ⟨⟨_, _, rfl, rfl⟩, ⟨⟨_, _, rfl, rfl⟩, ⟨⟨_, _, rfl, rfl⟩, True.intro⟩⟩⟩)
    (case lowD3 => rfl)
    (case tabD3 => rfl)
    (case gD2 => k_is)
    (case hD2 => k_is)
    (case vD2 => exact .cons ⟨_, rfl⟩ (.cons ⟨_, rfl⟩ (.cons ⟨_, rfl⟩ (.cons ⟨_, rfl⟩ (.cons ⟨_, rfl⟩ (.nil))))))
    (case gD4 => k_is)
    (case hD4 => k_is)
    (case vD4 => exact .cons ⟨_, rfl⟩ (.cons ⟨_, rfl⟩ (.cons ⟨_, rfl⟩ (.cons ⟨_, rfl⟩ (.cons ⟨_, rfl⟩ (.nil))))))
    (case gD5 => k_is)
    (case hD5 => k_is)
    (case vD5 => exact .cons ⟨_, rfl⟩ (.cons ⟨_, rfl⟩ (.cons ⟨_, rfl⟩ (.cons ⟨_, rfl⟩ (.cons ⟨_, rfl⟩ (.cons ⟨_, rfl⟩ (.cons ⟨_, rfl⟩ (.cons ⟨_, rfl⟩ (.cons ⟨_, rfl⟩ (.nil))))))))))
    (case gD6 => k_is)
    (case hD6 => k_is)
    (case vD6 => exact .cons ⟨_, rfl⟩ (.cons ⟨_, rfl⟩ (.cons ⟨_, rfl⟩ (.cons ⟨_, rfl⟩ (.nil)))))
    (case gD7 => k_is)
    (case hD7 => k_is)
    (case vD7 => exact .cons ⟨_, rfl⟩ (.cons ⟨_, rfl⟩ (.cons ⟨_, rfl⟩ (.cons ⟨_, rfl⟩ (.nil)))))
    (case gD8 => k_is)
    (case hD8 => k_is)
    (case vD8 => exact .cons ⟨_, rfl⟩ (.cons ⟨_, rfl⟩ (.cons ⟨_, rfl⟩ (.nil))))
    (case nLt => decide)
    (case nZt => decide)
    (case nSZ => decide)
    (case n_t1 => k_is)
    (case n_t2 => k_is)
    (case z_isinstance => k_is)
    (case z_int => k_is)
    (case z_bool => k_is)
    (case z_str => k_is)
    (case z_len => k_is)
    (case z_all => k_is)
    (case z_any => k_is)
    (case z_tuple => k_is)
    (case z_list => k_is)
    (case z_set => k_is)
    (case z_sorted => k_is)
    (case z_abs => k_is)
    (case z_range => k_is)
    (case z_max => k_is)
    (case z_repr => k_is)
    (case z_min => k_is)
    (case z_enumerate => k_is)
