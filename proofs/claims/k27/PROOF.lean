import PyProof.Rows.All
import Wide.All
import OpenK.AllK
import Wide.FinOn
import KE.KLam
import KE.KNest
import HandS.ForMost
import HandS.ForExc
import HandS.Codes
import HandS.Lambda
import HandS.EndTab
import HandS.ExcIs
import HandS.IsInst
import HandS.Defaults
import HandS.MakeKwOnly
import HandS.Gcd
import HandS.Walk
import HandS.Conv
import HandS.Wide
import HandS.Flow
import Flt.RightSqrt
import HandS.Words
import HandS.WordsExc
import HandS.RaiseMore
import PyProof.ReprRoads
import PyProof.CallFns
import HandS.Steps
import HandS.More
import HandS.TupAny
import HandS.DictComp
import HandS.Iter
import HandS.Set
import HandS.Strs
import HandS.SetFor
import HandS.TupSets
import HandS.SetKeys
import PyProof.Rows.SortStr
import PyProof.SetRoads
import HandS.ExcInit
import KE.KExcSuper
import HandS.ExcField
import HandS.Comp
import HandS.Deep
import PySem.Challenge.RW_rulerchest_k27_what_a_name_hangs_on
set_option Elab.async false
set_option linter.all false
set_option maxRecDepth 100000
set_option maxHeartbeats 2000000
/-! An error that an except suite hands to a name of its own stays known behind the try; a helper that calls what it gets and hands the error back. -/
namespace Cau
open PySem PySem.Spec PyProof.Rows L2

/-- the error object at e, of the class c, its own dict d -/
def ErrO (c : Value) (d : Option Addr) (e : Addr) : HO :=
  .ext fun h => ∃ (ob : Obj) (fs : Array Value), h.get? e = some ob ∧ Zc c d ob ∧ ob.data = .fields fs
theorem errO_ok {P : Program} {w : World} {H : Hp} {h : Heap} {e : Addr} {c : Value} {d : Option Addr} {ob : Obj} {fs : Array Value}
    (g : h.get? e = some ob) (z : Zc c d ob) (hf : ob.data = .fields fs) : ObjOk P w H h e (ErrO c d e) :=
  ⟨⟨ob, fs, g, z, hf⟩, ⟨ob, g⟩, fun _ _ ⟨o, f, q, r⟩ k => ⟨o, f, k o q, r⟩⟩

section
variable {X : Cx} {pins : List (Addr × Obj)} {σ : L2.St} {H : Hp} {s : Shared}
/-- an object that was not there at the entry, and that nothing speaks of, is spoken of from now on -/
theorem inv_told {e : Addr} {u : HO} (I : Inv X pins σ H s) (hn : H e = none) (h0 : X.s_0.heap.get? e = none) (ok : ObjOk X.prog X.w (upd H e u) s.heap e u)
    (hL : e ≠ X.env.locals) (hC : ∀ x c, X.env.cells.lookup x = some c → c ≠ e) (hP : ∀ p ∈ X.pn ++ pins, p.1 ≠ e) : Inv X pins σ (upd H e u) s := by
  have more : ∀ b v, H b = some v → upd H e u b = some v := fun b v q => by
    rw [upd_ne (ne_of_none q hn)]; exact q
  have less : ∀ b, b ≠ e → H b = none → upd H e u b = none := fun b hb q => by rw [upd_ne hb]; exact q
  have un : Un X.fs X.ex X.H_0 (upd H e u) X.s_0.heap s.heap :=
    { keep := I.base.keep
      slot := I.base.slot
      free := fun b o q n hx => less b (fun z => by rw [z, h0] at q; cases q) (I.base.free b o q n hx)
      there := I.base.there
      tups := fun b xs q => more _ _ (I.base.tups b xs q)
      frzs := fun b o v q => more _ _ (I.base.frzs b o v q)
      tbls := fun b ps q => by
        obtain ⟨m, r⟩ := I.base.tbls b ps q
        exact ⟨m, more _ _ r⟩ }
  have hok : HOk X.prog X.w (upd H e u) s.heap := fun b v q => by
    by_cases hb : b = e
    · subst hb
      rw [upd_same] at q
      cases q
      exact ok
    · rw [upd_ne hb] at q
      exact (I.hok b v q).stay (fun _ _ _ r => r) (fun _ r => more _ _ r) fun _ _ r => more _ _ r
  exact
    { ok := I.ok, os := I.os, bare := I.bare, base := un, loc := I.loc, cell := I.cell
      free := less _ (Ne.symm hL) I.free
      freeC := fun x c q => less _ (hC x c q) (I.freeC x c q)
      pin := fun p hp => by
        obtain ⟨a1, a2, a3⟩ := I.pin p hp
        exact ⟨a1, less _ (hP p hp) a2, a3⟩
      hok := hok, len := I.len }
end

/-- what the clause «except x as n» (n in slot i) wishes of an error of the body that it always takes: the suite falls through, and behind it the error is told of at its address -/
def wTell (K : PySem.W.Frag) (c : Value) (i : Nat) (ts : Addr → Value → Option Addr → TS) (D : Ends) : WX := fun cls d σ H =>
  PySem.W.exmOne K cls c = some true ∧
    ∀ e, H e = none → ts e cls d { nx := fun σ' H' => D.nx (σ'.set i none) (upd H' e (ErrO cls d e)), rt := fun _ _ => False, bk := fun _ _ => False, ct := fun _ _ => False } (σ.set i (some (.ref e))) H
section
variable {X : Cx} {x n : Str} {c : Value} {i : Nat} {body suite : List Stmt} {st : Stmt} {q1 q2 q3 : Pos} {tb : WX → TS} {ts : Addr → Value → Option Addr → TS}
theorem ps_tryTell (hst : X.stack = X.env :: X.outer) (hfrm : X.env.frame = some X.env.locals) (hnd : X.N.Nodup) (hi : X.N[i]? = some n) (hl : X.env.kindOf n = some .local) (hc : Names X x c) (hex : X.ex = [])
    (hbody : ∀ (W : WX) (pn : List (Addr × Obj)) (xe : Value → Shared → Prop), Takes (X.tr pn xe) W → PSs (X.tr pn xe) body (tb W))
    (hsuite : ∀ (e : Addr) (ob : Obj) (cls : Value) (d : Option Addr) (pn : List (Addr × Obj)), Zc cls d ob → (∃ fs, ob.data = .fields fs) → PSs (X.suite e ((e, ob) :: pn)) (st :: suite) (ts e cls d)) :
    PS X (.Try body [.ExceptHandler (some (.Name x q1)) (some n) (st :: suite) q2] [] [] q3) (fun D σ H => tb (wTell X.K c i ts D) D σ H) := by
  constructor
  intro pins s σ H D I h
  have OK := I.ok
  have frames : X.A.frames = some (X.env :: X.outer) := OK.frames.trans (congrArg some hst)
  apply wpAny_Try_except
  have run := (hbody (wTell X.K c i ts D) (X.pn ++ pins) (fun e s₁ => wpAny (model X.prog X.w) X.A (noteFrame e X.env)
      (fun _ s₂ => wpAny (model X.prog X.w) X.A (setFlight e none)
        (fun _ s₃ => wpAny (model X.prog X.w) X.A (handleBy e X.env [.ExceptHandler (some (.Name x q1)) (some n) (st :: suite) q2]) (SP X pins D) X.xe s₃) X.xe s₂) X.xe s₁) ?takes).run [] s σ H D (I.toTry _) h
  case takes =>
    rintro u s1 ⟨e, B, sI, pins1, σ1, H1, cls, d, rfl, J1, inB, upS, sky, ne, eos, bare, hm, wish⟩
    have J := J1.ofTry OK
    rw [show (X.tr (X.pn ++ pins) _).stack = X.env :: X.outer from hst] at sky
    -- the error is new: it is no object of the ground
    have gone : B.get? e = none := by
      rcases sky with z | z | z
      · exact z.2.1
      · exact z.2.1
      · exact z.2.1
    refine Sky.land Zc.steady frames hfrm sky fun ha fly upA => ?_
    have K1 : Inv X pins σ1 H1 { s1 with heap := ha } := J.landed inB fly.1 (upS.trans upA) eos bare
    obtain ⟨oa, fa, ga, za, da⟩ := fly.there
    have offFrames : e ∉ frs (X.env :: X.outer) := fun hmem => by
      obtain ⟨_, o', g', hno⟩ := fly.2.2.1.mem hmem
      rw [ga] at g'
      cases g'
      exact hno _ da
    have offL : e ≠ X.env.locals := fun z => offFrames (List.mem_filterMap.mpr ⟨X.env, List.mem_cons_self, by rw [hfrm, z]⟩)
    have offF : e ∉ X.fs := fun hmem => by
      obtain ⟨v, hv, q⟩ := List.mem_filterMap.mp hmem
      exact offFrames (List.mem_filterMap.mpr ⟨v, List.mem_cons_of_mem _ hv, q⟩)
    have offStack : e ∉ frs X.stack := by rw [hst]; exact offFrames
    have nowhere : sI.heap.get? e = none := by
      cases q : sI.heap.get? e with
      | none => rfl
      | some o => exact absurd (inB e o q offStack) (by rw [gone]; intro z; cases z)
    have fresh : X.s_0.heap.get? e = none := by
      cases q : X.s_0.heap.get? e with
      | none => rfl
      | some o =>
        obtain ⟨o', q'⟩ := J.base.there e o q (by rw [hex]; intro z; cases z)
        rw [nowhere] at q'
        cases q'
    have offPins : ∀ p ∈ X.pn ++ pins, p.1 ≠ e := fun p hp z => by
      have q := (J.pin p hp).1
      rw [z, nowhere] at q
      cases q
    have S1 := K1.suite ga da ne offL offF
    refine wpAny_handleBy_cons (codeAny_handlers_test ?_) (by intro z; cases z)
    have isOf : PySem.W.Looks (model X.prog X.w) ha (typeOf (.ref e)) cls := fun A Q E t k q => wpAny_typeOf_ref (k _ _ ga) (by rw [za.1]; exact q)
    have takesIt := PySem.W.exm_one (M := model X.prog X.w) K1.kIn isOf hm
    have named : ∀ {Q E : Value → Shared → Prop}, Q c { s1 with heap := ha } → wpAny (model X.prog X.w) (X.A.mark (some (.ref e))) (eval (.Name x q1) X.env) Q E { s1 with heap := ha } := by
      intro Q E q
      obtain ⟨g1, g2, g3⟩ := hc
      rcases g3 with m | ⟨m, v, nn⟩
      · exact ld_glob (X := X.suite e ((e, oa) :: (X.pn ++ pins))) S1 g1 m q g2
      · exact ld_blt (X := X.suite e ((e, oa) :: (X.pn ++ pins))) S1 g1 m v q nn g2
    refine named (takesIt.here (codeAny_handlers_suite_as (HandSPX.lands_againZ fly fun hb flyB upB => ?_)))
    have K2 : Inv X pins σ1 H1 { s1 with heap := hb } := J.landed inB flyB.1 ((upS.trans upA).trans upB) eos bare
    obtain ⟨ob, fb, gb, zb, db⟩ := flyB.there
    have S2 := K2.suite gb db ne offL offF
    refine store_ok (X := X.suite e ((e, ob) :: (X.pn ++ pins))) (v := .ref e) S2 hnd hi (.inl hl) rfl (fun s5 S5 => ?_) (.inr hl)
    refine wpAny_mono ((hsuite e ob cls d (X.pn ++ pins) zb ⟨_, db⟩).run [] s5 _ H1 _ S5 (wish e ne)) (fun fl s6 sp => ?_) (fun _ _ z => z.elim)
    cases fl with
    | next =>
      obtain ⟨σ6, H6, S6, q6⟩ := sp
      obtain ⟨g6, n6, _, _, _⟩ := S6.pin (e, ob) (List.mem_append_left _ List.mem_cons_self)
      have offCells : ∀ y k, X.env.cells.lookup y = some k → k ≠ e := fun y k q z => by
        obtain ⟨v, o, go, dq⟩ := S6.cell y k q
        rw [z, g6] at go
        cases go
        rw [db] at dq
        cases dq
      have T6 : Inv X pins σ6 (upd H6 e (ErrO cls d e)) s6 := inv_told (S6.unsuite OK) n6 fresh (errO_ok g6 zb db) offL offCells offPins
      exact gone_ok T6 hnd hi hl fun s7 T7 => ⟨_, _, T7, q6⟩
    | brk =>
      obtain ⟨_, _, _, z⟩ := sp
      exact z.elim
    | cont =>
      obtain ⟨_, _, _, z⟩ := sp
      exact z.elim
    | ret v =>
      obtain ⟨_, _, _, _, _, z⟩ := sp
      exact z.elim
  refine wpAny_mono run (fun fl s1 sp => ?_) (fun _ _ z => z)
  cases fl with
  | next =>
    obtain ⟨σ', H', J, q⟩ := sp
    exact wpAny_execs_nil ⟨σ', H', J.ofTry OK, q⟩
  | brk =>
    obtain ⟨σ', H', J, q⟩ := sp
    exact ⟨σ', H', J.ofTry OK, q⟩
  | cont =>
    obtain ⟨σ', H', J, q⟩ := sp
    exact ⟨σ', H', J.ofTry OK, q⟩
  | ret v =>
    obtain ⟨y, σ', H', J, r, q⟩ := sp
    exact ⟨y, σ', H', J.ofTry OK, r, q⟩
end

/-! ### the helper: found = None; try: action(); except CLASS as error: found = error; return found -/
/-- its names -/
def cauN : List Str := ["action", "found", "error"]
def cauScope (cl : Str) : Scope :=
  { kind := .function, names := [("action", .local), ("found", .local), ("error", .local), (cl, .globalImplicit)], isGenerator := false, isCoroutine := false, more := [] }
/-- what it hands back: None behind a call that raises nothing, else the error, told of at its address -/
def TCau (K : PySem.W.Frag) (CS : Addr) : (XK → Hp → VK → Prop) → Hp → VK → Prop := fun tl H Q =>
  tl (fun cls d H' => PySem.W.exmOne K cls (.ref CS) = some true ∧ ∀ e, H' e = none → Q (.ref e) (upd H' e (ErrO cls d e))) H fun _ H' => Q .non H'
/-- a wish need not speak of frames of another length -/
theorem takes_len {X : Cx} {W : WX} (tk : Takes X W) : Takes X (fun cls d σ H => σ.length = X.N.length → W cls d σ H) := by
  rintro u s1 ⟨e, B, sI, pins, σ, H, cls, d, a1, I, a2, a3, a4, a5, a6, a7, w⟩
  exact tk u s1 ⟨e, B, sI, pins, σ, H, cls, d, a1, I, a2, a3, a4, a5, a6, a7, w I.len⟩
section
variable {X : Cx} {x q cl : Str} {g CS : Addr} {cdg : Value} {p1 p2 p3 p4 p5 p6 p7 p8 p9 p10 p11 p12 p13 p14 : Pos} {j : Nat}
theorem cau_gives (hme : X.mg cl = some (.ref CS)) (hdb : (cl == ("__debug__" : Str)) = false) (h3 : (cauScope cl).names.lookup cl = some .globalImplicit) :
    LamX.GivesTo X cauN x (cauScope cl) g cdg
      [.Assign [.Name "found" p1] (.Constant .none j p2) p3,
        .Try [.Expr (.Call (.Name "action" p4) [] [] p5) p6] [.ExceptHandler (some (.Name cl p7)) (some "error") [.Assign [.Name "found" p8] (.Name "error" p9) p10] p11] [] [] p12,
        .Return (some (.Name "found" p13)) p14] "action" q (TCau X.K CS) := by
  intro f c' s H Q tl act hc h
  have nd : cauN.Nodup := by decide +kernel
  have go : (cxOf C8.CX0 X.prog X.w X.K X.mg X.base cauN x (cauScope cl) g cdg X.A X.stack s H C8.E0).nox.mg cl = some (.ref CS) := hme
  have gl : Gl (cxOf C8.CX0 X.prog X.w X.K X.mg X.base cauN x (cauScope cl) g cdg X.A X.stack s H C8.E0).nox cl := h3
  refine ⟨_, pss_cons (ps_set (i := 1) nd rfl (.inl rfl) pe_non)
    (pss_cons (ps_tryTell (X := (cxOf C8.CX0 X.prog X.w X.K X.mg X.base cauN x (cauScope cl) g cdg X.A X.stack s H C8.E0).nox) (c := .ref CS) (i := 2)
        (tb := fun W D σ H => ∃ E : XK, (∀ cls d (σ' : L2.St) H', E cls d H' → σ'.length = 3 → W cls d σ' H') ∧ σ[0]? = some (some (.ref f)) ∧ H c' = some (LamX.CodeO c' q) ∧ tl E H fun _ H' => D.nx σ H')
        rfl rfl nd rfl rfl ⟨gl, hdb, .inl go⟩ rfl (fun W pn xe tk => ?_)
        (fun e ob cls d pn _ _ => pss_one (ps_set (i := 1) nd rfl (.inl rfl) (pv 2))))
      (pss_one (ps_ret (pv 1)))), ?_⟩
  · constructor
    intro pins s' σ H' D I h'
    obtain ⟨E, hW, h1, h2, h3⟩ := h'
    exact (pss_one (ps_expr (pos := p6) (act _ pn xe E p4 p5 (takes_len tk) hW))).run pins s' σ H' D I ⟨h1, h2, h3⟩
  · refine ⟨fun cls d H' => PySem.W.exmOne X.K cls (.ref CS) = some true ∧ ∀ e, H' e = none → Q (.ref e) (upd H' e (ErrO cls d e)), fun cls d σ' H' z hl => ⟨z.1, fun e he => ?_⟩, rfl, hc, ?_⟩
    · match σ', hl with
      | [a0, a1, a2], _ => exact ⟨.ref e, rfl, .ref e, rfl, z.2 e he⟩
    · have e1 : (fun (_ : V) (H' : Hp) => Q .non H') = fun (_ : V) (H' : Hp) => ∃ v, ([some (.ref f), some .non, none] : L2.St)[1]? = some (some v) ∧ Q v H' := by
        funext _ H'
        exact propext ⟨fun z => ⟨.non, rfl, z⟩, fun ⟨v, a, z⟩ => by cases a; exact z⟩
      have h' := h
      unfold TCau at h'
      rw [e1] at h'
      exact h'
end

/-! ### isinstance of an error that is told of -/
def rIsErr (K : PySem.W.Frag) (D : Addr) : List V → Hp → VK → Prop := fun xs H Q =>
  ∃ (e : Addr) (c : V) (cv : Value) (b : Bool), xs = [.ref e, c] ∧ H e = some (ErrO (.ref D) none e) ∧ (∀ u, RelV c u → u = cv) ∧ PySem.W.kitOne K (.ref D) cv = some b ∧ Q (.bl b) H
theorem call_isErr {X : Cx} {D : Addr} (C : ExcC X.K D) : CallR X (.builtin "isinstance") (rIsErr X.K D) := by
  intro pins s σ H xs us Q I r ⟨e, c, cv, b, hx, he, hcv, hb, q⟩
  subst hx
  obtain ⟨u1, u2, hu, r1, r2⟩ := vals2 r
  subst hu
  cases (show u1 = Value.ref e from r1)
  cases hcv _ r2
  obtain ⟨⟨⟨oc, od, oda, osl⟩, fs, g, z, hf⟩, _⟩ := I.hok e _ he
  obtain ⟨z1, z2⟩ := z
  simp only at z1 z2 hf
  subst z1 z2 hf
  have at_ : PySem.W.InstAt s.heap e _ D none := ⟨g, rfl, rfl, trivial⟩
  exact PySem.W.kia_one (PySem.W.handS_kitx_exc C.hg C.hk C.hs C.hd C.ha C.hn C.ht C.hm) I.kIn at_ hb (fun z => nomatch z) fun tk => ⟨.bl b, H, I.tok tk, rfl, q⟩

/-! ### a def called by keywords alone -/
def tKw (m : Nat) (sp : Sp) (gV : List V → List V → List V) (E : XK) (tk : TA) : TE := fun σ H Q => tk σ H fun zs H1 => zs.length = m ∧ sp (gV [] zs) H1 Q E
section
variable {X : Cx} {CX : CXT} {k : Nat} {f : Addr} {fd : FuncData} {ps ks : List Str} {sp : Sp} {E : XK} {x : Str} {p pos : Pos} {kws : List Keyword} {tk : TA} {g : List Value → List Value → List Value} {gV : List V → List V → List V}
theorem pe_kw (F : FnOk X.prog X.w X.K X.mg X.base CX k f fd ps sp) (hr : Room k X.A) (hg : Gl X x) (hm : X.mg x = some (.ref f)) (hk : PySem.W.keepIn X.K (.ref f) = true) (hb : KBn X.K fd ps 0 ks g gV) (hx : Passes CX X E) (hkw : PK X kws tk)
    (h1 : (backToKw pos (keywordEach kws X.env)).all (·.1.isSome) = true := by rfl) (h2 : (backToKw pos (keywordEach kws X.env)).filterMap (·.1) = ks := by rfl) (h3 : (x == ("__debug__" : Str)) = false := by decide)
    (h4 : ((backTo pos (starEach [] X.env)).any (·.1) || (backToKw pos (keywordEach kws X.env)).any (·.1.isNone)) = false := by rfl) :
    PE X (.Call (.Name x p) [] kws pos) (tKw ks.length sp gV E tk) := by
  constructor
  intro pins s σ H Q I h
  apply wpAny_Call_Name_kw
  apply ld_glob I hg hm _ h3
  apply PySem.W.callWith_KW0 (h₀ := X.base) I.ok.mod.kin hk h1 _ h4
  refine thn (hkw.run pos pins s σ H _ I h) fun ws s1 hws => ?_
  obtain ⟨zs, H1, I1, rz, hl, q⟩ := hws
  refine ⟨I1.kIn, ?_⟩
  rw [h2]
  exact run_fnN (n := 0) F hr hb hx I1 .nil rz rfl hl q
end
/-! ### math.isqrt of great ints, by the name under which the module has it -/
def rRoot : List V → Hp → VK → Prop := fun vs H Q => ∃ n : Int, vs = [.int n] ∧ 0 ≤ n ∧ n < 2 ^ 250 ∧ ∀ d : Int, 0 ≤ d → d * d ≤ n → n < (d + 1) * (d + 1) → Q (.int d) H
theorem cr_isqrt {X : Cx} : CallR X (.builtin "math.isqrt") rRoot := by
  intro pins s σ H vs us Q I r ⟨n, hv, h0, h1, q⟩
  subst hv
  obtain ⟨u, hu, ru⟩ := r.one
  subst hu
  obtain ⟨t, rfl⟩ := ru
  have hl : n.toNat.log2 ≤ 249 := PySem.W.mg_log (by
    have e : (n.toNat : Int) = n := Int.toNat_of_nonneg h0
    have h2 : (n.toNat : Int) < ((2 ^ 250 : Nat) : Int) := by rw [e]; exact_mod_cast h1
    exact Int.ofNat_lt.mp h2)
  have sp := PySem.Float64.isqrt_spec n.toNat
  have e : (n.toNat : Int) = n := Int.toNat_of_nonneg h0
  refine call_function_meets PySem.W.MGF.kind_isqrt PySem.W.MGF.plain_isqrt PySem.W.MGF.entry_isqrt (PySem.W.MGF.args_isqrt _) (PySem.W.mg_run_isqrt n t (by omega) (by omega) (by omega)).meets ?_
  refine ⟨.int _, H, I.tok _, ⟨_, rfl⟩, q _ (Int.natCast_nonneg _) ?_ ?_⟩
  · rw [← e]
    exact_mod_cast sp.1
  · rw [← e]
    exact_mod_cast sp.2

/-! ### the end of a law row, with the tables of the code objects of the defs xs -/
theorem walk_tabs {l : PySem.W.OpenLaw} {n k : Nat} {q : Program} {loose : List Str} {XP : (Str → Option Value) → Heap → Prop} {YP : World → Heap → Prop} {d : DefRec} {K : PySem.Params → PySem.W.Frag} {CX : World → CXT} {x : Str} {xs : List Str}
    (h1 : l.most = some n) (h2 : n ≤ sizeLine) (h3 : d.params.defaults = []) (hr : Room k callerA) (hrec : (xs.all fun x => (recsOf q).any fun e => e.name == x) = true) (hY : ∀ (w : World) (h : Heap), YP w h → (K w.params).In h)
    (F : ∀ (w : World) (mg : Str → Option Value) (fa : Addr) (h : Heap), YP w h → (K w.params).In h → h.Ns mainGlobals mg → mg d.name = some (.ref fa) →
      (∀ x ∈ xs, ∀ c P : Addr, PySem.W.tabIn (K w.params) x = some (c, P) → PySem.W.CodeHd h c P ∧ h.get? P = some { cls := .none, data := .fields #[] }) → LamX.LawAtS l w (K w.params) (CX w) k n x mg fa h)
    (hCX : ∀ (w : World) (H : Hp) (s : Shared) (e : Value) (s' : Shared), CX w [] H s (fun _ _ _ => False) e s' → False) :
    PySem.W.WalkO q loose XP YP l.row.toRowW d [] (fun f vs => PySem.call f vs) := by
  apply Att.attach_callB h1 h3
  intro w s₀ s₁ mg mb fa o pm cd doc a vs ns G Y ho hd hcd hmg hobj hints hlen hbits hg
  have KX := hY w _ Y
  have tabs : ∀ x ∈ xs, ∀ c P : Addr, PySem.W.tabIn (K w.params) x = some (c, P) → PySem.W.CodeHd s₁.heap c P ∧ s₁.heap.get? P = some { cls := .none, data := .fields #[] } := by
    intro x hx c P ht
    have hany := List.all_eq_true.mp hrec x hx
    have hsome : ((recsOf q).find? fun e => e.name == x).isSome = true := by rw [List.find?_isSome]; exact List.any_eq_true.mp hany
    obtain ⟨dr, hdr⟩ := Option.isSome_iff_exists.mp hsome
    exact PySem.W.tab_of G.T KX hdr ht
  obtain ⟨fd, cs, sp, hT, nT, C, hb, hsp, hF⟩ := F w mg fa _ Y KX G.T.g hmg tabs
  exact LamX.law_callTs KX G.T.g G.T.b G.T.builtins G.T.nolimit hg hT nT C G.T.bmain hobj hints (Nat.le_trans hlen h2) hr hF hb (fun H hH hS => hsp H a ns hlen hbits hH hS) fun H e s' => hCX w H s₁ e s'
end Cau

set_option Elab.async false
set_option linter.all false
set_option maxRecDepth 100000
set_option maxHeartbeats 2000000
namespace Dr27
open PySem PySem.Spec PyProof.Rows L2 Cau
def topS (i : Nat) : Stmt := PySem.Challenge.pw_rulerchest_k27_what_a_name_hangs_on.main.body.getD i (.Pass ⟨0, 0, 0, 0⟩)
abbrev sBegun : Stmt := topS 33
abbrev sStirred : Stmt := topS 34
abbrev sDraw : Stmt := topS 35
abbrev sPick : Stmt := topS 36
/-! ### heaps -/
theorem same_upd {H : Hp} {p : Addr} {o : HO} (h : H p = none) : Same H (upd H p o) := fun b x e => by
  rw [upd_ne (ne_of_none e h)]
  exact e
/-! ### lists of ints as data -/
theorem canLay_ints : ∀ ns : List Int, PyData.canLayAll0 (ns.map PyData.int) = true
  | [] => by simp [PyData.canLayAll0]
  | n :: r => by simp [PyData.canLayAll0, PyData.canLay0, canLay_ints r]
theorem depth_ints : ∀ ns : List Int, PyData.depthAll (ns.map PyData.int) = 0
  | [] => by simp [PyData.depthAll]
  | n :: r => by simp [PyData.depthAll, PyData.depth, depth_ints r]
theorem shaped_ints (ns : List Int) : SeqAt.shaped (.list (ns.map PyData.int)) = true := by
  unfold SeqAt.shaped
  simp only [PyData.canLay0, PyData.depth, canLay_ints, depth_ints]
  decide
theorem dpAll_ints {K : PySem.W.Frag} {H : Hp} : ∀ ns : List Int, DpAll K H (ns.map V.int) (ns.map PyData.int)
  | [] => .nil
  | n :: r => .cons (.int n) (dpAll_ints r)
theorem dp_ints {K : PySem.W.Frag} {H : Hp} {l : Addr} {ns : List Int} (h : SqL K H l (ns.map V.int)) : Dp K H (.ref l) (.list (ns.map PyData.int)) := .lst h (dpAll_ints ns)
theorem eqv_ints : ∀ xs ys : List Int, PyData.eqv (.list (xs.map PyData.int)) (.list (ys.map PyData.int)) = decide (xs = ys) := by
  have all : ∀ xs ys : List Int, PyData.eqvAll (xs.map PyData.int) (ys.map PyData.int) = decide (xs = ys) := by
    intro xs
    induction xs with
    | nil => intro ys; cases ys <;> simp [PyData.eqvAll]
    | cons x xs ih =>
      intro ys
      cases ys with
      | nil => simp [PyData.eqvAll]
      | cons y ys =>
        simp only [List.map_cons, PyData.eqvAll, PyData.eqv, ih]
        by_cases h1 : x = y <;> by_cases h2 : xs = ys <;> simp [h1, h2]
  intro xs ys
  simp only [PyData.eqv]
  exact all xs ys
/-! ### the state of the draws -/
def stK (w c : Addr) (r t : Int) : List (Key × V) := [(.inr "wide", .ref w), (.inr "cells", .ref c), (.inr "rest", .int r), (.inr "turn", .int t)]
theorem pow18 : CPow 10 18 := ⟨by decide, by decide, by decide⟩
theorem stK_new (w c : Addr) (r t : Int) : mergeK [] (stK w c r t) = stK w c r t := by
  with_unfolding_all rfl
/-- T: at most so many times it was stirred -/
def St (H : Hp) (a w c : Addr) (T : Nat) : Prop := c ≠ w ∧ ∃ (ws cs : List Int) (r t : Int), H a = some (.dK (stK w c r t)) ∧ H w = some (.lst (ws.map V.int)) ∧ H c = some (.lst (cs.map V.int)) ∧ ws.length ≤ 63 ∧ cs.length ≤ 63 ∧ 0 ≤ t ∧ t ≤ T
section
variable {H : Hp} {a w c : Addr} {r t v : Int}
theorem get_wide (h : H a = some (.dK (stK w c r t))) : DGet H a (.str "wide") (some (.ref w)) := by
  have e : valV (stK w c r t) (.inr "wide" : Key) = some (.ref w) := by with_unfolding_all rfl
  exact e ▸ DGet.k (k := (.inr "wide" : Key)) h
theorem get_cells (h : H a = some (.dK (stK w c r t))) : DGet H a (.str "cells") (some (.ref c)) := by
  have e : valV (stK w c r t) (.inr "cells" : Key) = some (.ref c) := by with_unfolding_all rfl
  exact e ▸ DGet.k (k := (.inr "cells" : Key)) h
theorem get_rest (h : H a = some (.dK (stK w c r t))) : DGet H a (.str "rest") (some (.int r)) := by
  have e : valV (stK w c r t) (.inr "rest" : Key) = some (.int r) := by with_unfolding_all rfl
  exact e ▸ DGet.k (k := (.inr "rest" : Key)) h
theorem get_turn (h : H a = some (.dK (stK w c r t))) : DGet H a (.str "turn") (some (.int t)) := by
  have e : valV (stK w c r t) (.inr "turn" : Key) = some (.int t) := by with_unfolding_all rfl
  exact e ▸ DGet.k (k := (.inr "turn" : Key)) h
theorem put_rest (h : H a = some (.dK (stK w c r t))) : DPut H a (.str "rest") (.int v) (upd H a (.dK (stK w c v t))) := by
  have e : putK (stK w c r t) (.inr "rest" : Key) (.int v) = stK w c v t := by with_unfolding_all rfl
  exact e ▸ DPut.k (k := (.inr "rest" : Key)) (v := .int v) h (by show 4 < sizeLine; decide)
theorem put_turn (h : H a = some (.dK (stK w c r t))) : DPut H a (.str "turn") (.int v) (upd H a (.dK (stK w c r v))) := by
  have e : putK (stK w c r t) (.inr "turn" : Key) (.int v) = stK w c r v := by with_unfolding_all rfl
  exact e ▸ DPut.k (k := (.inr "turn" : Key)) (v := .int v) h (by show 4 < sizeLine; decide)
end
def spBegun (K : PySem.W.Frag) : Sp := fun vs H Q _ => ∃ (a : Addr) (ns : List Int), vs = [.ref a] ∧ SqL K H a (ns.map V.int) ∧ ns.length ≤ 63 ∧
  ∀ (H' : Hp) (p w c : Addr), Same H H' → H p = none → H w = none → H c = none → p ≠ w → p ≠ c → w ≠ c → St H' p w c 0 → Q (.ref p) H'
section
variable {P : Program} {w : World} {K : PySem.W.Frag} {mg : Str → Option Value} {base : Heap}
theorem scB : FnScope ["script", "wide", "cell"] ["script"] (defScope sBegun) := ⟨rfl, rfl, rfl, by decide +kernel, rfl, by decide +kernel, by decide +kernel⟩
theorem ok_begun {f : Addr} {fd : FuncData} (F : Fun K "_law_begun" "_law_begun" sBegun f fd) (mabs : mg "abs" = none) : FnOk P w K mg base CX0 1 f fd ["script"] (spBegun K) := by
  refine F.ok scB (fun vs H Q E h => ?_) (fun cdv A outer s H vs Q E hr h => ?_)
  · obtain ⟨a, ns, rfl, _⟩ := h
    rfl
  · obtain ⟨a, ns, rfl, hS, hlen, q⟩ := h
    refine ⟨_, pss_cons (ps_setLc (i := 1) (own := [("cell", 2)]) (g := gName 2) rfl scB.nd rfl rfl (sw_true rfl rfl rfl (by decide +kernel)) (pi_list (pv 0))
        (blkOk_by (own := [("cell", 2)]) (N := ["script", "wide", "cell"]) (sc := defScope sBegun) (by decide +kernel))
        (fun _ _ _ _ _ => pg_name (i := 2) scB.nd rfl (.inl rfl))
        (fun _ _ _ _ _ => pts_one (pt_cmpR op_ge (pe_callB call_abs (by rfl) mabs (by decide +kernel) (pa_cons (pv 2) pa_nil)) (pe_op op_pow pe_int pe_int) (nomark _)))
        (fun _ _ _ _ _ => pe_op op_sub (pe_callB call_abs (by rfl) mabs (by decide +kernel) (pa_cons (pv 2) pa_nil)) (pe_op op_pow pe_int pe_int)))
      (pss_one (ps_ret (pe_disp (pps_cons pe_str (pv 1) (pps_cons pe_str
          (pe_lc (own := [("cell", 2)]) (g := gName 2) (tt := tYes) rfl scB.nd (pi_list (pv 0))
            (blkOk_by (own := [("cell", 2)]) (N := ["script", "wide", "cell"]) (sc := defScope sBegun) (by decide +kernel))
            (fun _ _ _ _ _ => pg_name (i := 2) scB.nd rfl (.inl rfl)) (fun _ _ _ _ _ => pts_nil)
            (fun _ _ _ _ _ => pe_callB call_abs (by rfl) mabs (by decide +kernel) (pa_cons (pv 2) pa_nil)))
          (pps_cons pe_str pe_int (pps_cons pe_str pe_int pps_nil)))) (by rfl) (by rfl) (fun z => by cases z) (by decide)))), ?_⟩
    refine ⟨.ref a, rfl, a, rfl, ⟨_, hS⟩, fun w nw => ?_⟩
    have get : ∀ (i : Nat) (x : V), (ns.map V.int)[i]? = some x → ∃ n, x = V.int n := fun i x hx => by
      rw [List.getElem?_map] at hx
      cases e : ns[i]? with
      | none => rw [e] at hx; cases hx
      | some z => rw [e] at hx; exact ⟨z, (Option.some.inj hx).symm⟩
    refine lc_list (K := K) (a := a) (xs := ns.map V.int) (fun i H1 => ∃ ws : List Int, H1 = upd H w (.lst (ws.map V.int)) ∧ ws.length ≤ i) ⟨[], rfl, Nat.le_refl _⟩ ?_ ?_ ?_
    · rintro i H1 _ ⟨ws, rfl, _⟩
      exact (same_upd nw).seq hS
    · rintro i x H1 hx ⟨ws, rfl, hl⟩
      obtain ⟨n, rfl⟩ := get i x hx
      have hi : i < ns.length := by
        have := (List.getElem?_eq_some_iff.mp hx).1
        rwa [List.length_map] at this
      refine ⟨rfl, .int n, rfl, n, rfl, 10, 18, rfl, rfl, pow18, _, _, rfl, rfl, _, rfl, ?_⟩
      refine ite2 (fun _ => ?_) (fun _ => ⟨ws, rfl, by omega⟩)
      refine ⟨.int n, rfl, n, rfl, 10, 18, rfl, rfl, pow18, _, _, rfl, rfl, _, upd_same, ?_, ?_⟩
      · rw [List.length_map]; exact small1000 (by omega)
      · exact ⟨ws ++ [(if n < 0 then -n else n) - 10 ^ 18], by rw [upd_upd, List.map_append]; rfl, by rw [List.length_append]; simp; omega⟩
    · rintro H1 ⟨ws, rfl, hl⟩
      rw [List.length_map] at hl
      intro p np
      have npw : p ≠ w := fun z => by rw [z, upd_same] at np; cases np
      have s1 : Same H (upd H w (.lst (ws.map V.int))) := same_upd nw
      have s2 : Same H (upd (upd H w (.lst (ws.map V.int))) p (.dK [])) := s1.trans (same_upd np)
      refine ⟨.ref w, rfl, .ref a, rfl, a, rfl, ⟨_, s2.seq hS⟩, fun c nc => ?_⟩
      refine lc_list (K := K) (a := a) (xs := ns.map V.int) (fun i H1 => ∃ cs : List Int, H1 = upd (upd (upd H w (.lst (ws.map V.int))) p (.dK [])) c (.lst (cs.map V.int)) ∧ cs.length ≤ i) ⟨[], rfl, Nat.le_refl _⟩ ?_ ?_ ?_
      · rintro i H1 _ ⟨cs, rfl, _⟩
        exact (s2.trans (same_upd nc)).seq hS
      · rintro i x H1 hx ⟨cs, rfl, hl⟩
        obtain ⟨n, rfl⟩ := get i x hx
        have hi : i < ns.length := by
          have := (List.getElem?_eq_some_iff.mp hx).1
          rwa [List.length_map] at this
        refine ⟨rfl, .int n, rfl, n, rfl, _, upd_same, ?_, ?_⟩
        · rw [List.length_map]; exact small1000 (by omega)
        · exact ⟨cs ++ [(if n < 0 then -n else n)], by rw [upd_upd, List.map_append]; rfl, by rw [List.length_append]; simp; omega⟩
      · rintro H1 ⟨cs, rfl, hl2⟩
        rw [List.length_map] at hl2
        have ncp : c ≠ p := fun z => by rw [z, upd_same] at nc; cases nc
        have ncw : c ≠ w := fun z => by rw [z, upd_ne npw.symm, upd_same] at nc; cases nc
        have nc0 : H c = none := by rw [upd_ne ncp, upd_ne ncw] at nc; exact nc
        have np0 : H p = none := by rw [upd_ne npw] at np; exact np
        refine ⟨by rw [upd_ne ncp.symm, upd_same], stK w c 0 0, rfl, by show 4 ≤ 15; decide, ?_⟩
        refine q _ p w c (fun b o e => ?_) np0 nw nc0 npw ncp.symm ncw.symm ⟨ncw, ws, cs, 0, 0, ?_, ?_, ?_, by omega, by omega, by omega, by omega⟩
        · rw [upd_ne (ne_of_none e np0), upd_ne (ne_of_none e nc0), upd_ne (ne_of_none e np0), upd_ne (ne_of_none e nw)]
          exact e
        · rw [upd_same, stK_new]
        · rw [upd_ne npw.symm, upd_ne ncw.symm, upd_ne npw.symm, upd_same]
        · rw [upd_ne ncp, upd_same]
/-- but the state and its list nothing is changed -/
def Kept (a w : Addr) (H H' : Hp) : Prop := ∀ b o, H b = some o → b ≠ a → b ≠ w → H' b = some o
theorem Kept.trans {a w : Addr} {H H1 H2 : Hp} (x : Kept a w H H1) (y : Kept a w H1 H2) : Kept a w H H2 := fun b o e h1 h2 => y b o (x b o e h1 h2) h1 h2
def spStirred : Sp := fun vs H Q _ => ∃ (a w c : Addr) (T : Nat), vs = [.ref a] ∧ St H a w c T ∧ T ≤ 1000000 ∧
  ∀ (H' : Hp) (d : Int), (∀ b o, H b = some o → b ≠ a → H' b = some o) → St H' a w c (T + 1) → (∀ r t, H a = some (.dK (stK w c r t)) → ∃ t', H' a = some (.dK (stK w c r t'))) → Q (.int d) H'
theorem scS : FnScope ["state", "turn", "found", "prime", "blend", "cell"] ["state"] (defScope sStirred) := ⟨rfl, rfl, rfl, by decide +kernel, rfl, by decide +kernel, by decide +kernel⟩
def primes : List Int := [2147483647, 2147483629, 2147483587, 2147483579]
theorem ok_stirred {f : Addr} {fd : FuncData} (F : Fun K "_law_stirred" "_law_stirred" sStirred f fd) (mint : mg "int" = none) : FnOk P w K mg base CX0 1 f fd ["state"] spStirred := by
  refine F.ok scS (fun vs H Q E h => ?_) (fun cdv A outer s H vs Q E hr h => ?_)
  · obtain ⟨a, w, c, T, rfl, _⟩ := h
    rfl
  · obtain ⟨a, w, c, T, rfl, hSt, hT, q⟩ := h
    have hu := hu_of hr
    refine ⟨_, pss_cons (ps_par (i := 1) (j := 2) rfl scS.nd rfl rfl (by decide) rfl rfl (pa_cons (pe_op op_add (pe_dget hu (pv 0) pe_str (fun _ _ => rfl)) pe_int) (pa_cons pe_int pa_nil)) (by rfl))
      (pss_cons (ps_dput hu (pv 0) pe_str (pv 1) rfl)
      (pss_cons (ps_for PassesOwn.never rfl (pi_list (pe_lst (pa_cons pe_int (pa_cons pe_int (pa_cons pe_int (pa_cons pe_int pa_nil)))))) (pg_name (i := 3) scS.nd rfl (.inl rfl))
        (pss_cons (ps_set (i := 4) scS.nd rfl (.inl rfl) (pe_op op_add (pe_op op_mul pe_int (pv 1)) (pe_op op_fdiv (pv 3) pe_int)))
        (pss_cons (ps_for PassesOwn.never rfl (pi_list (pe_dget hu (pv 0) pe_str (fun _ _ => rfl))) (pg_name (i := 5) scS.nd rfl (.inl rfl))
          (pss_one (ps_set (i := 4) scS.nd rfl (.inl rfl) (pe_op op_modN (pe_callTy call_int1 (by rfl) mint (by decide +kernel) (pa_cons (pe_op op_add (pe_op op_add (pe_op op_mul (pv 4) pe_int) (pv 5)) (pv 1)) pa_nil)) (pv 3)))))
        (pss_one (ps_set (i := 2) scS.nd rfl (.inl rfl) (pe_op op_add (pe_op op_mul (pv 2) pe_int) (pe_op op_modN (pe_callTy call_int1 (by rfl) mint (by decide +kernel) (pa_cons (pe_op op_pow (pv 4) pe_int) pa_nil)) (pv 3))))))))
      (pss_one (ps_ret (pv 2))))), ?_⟩
    obtain ⟨ncw, ws, cs, r, t, hA, hW, hC, hwl, hcl, ht0, htT⟩ := hSt
    refine ⟨.ref a, rfl, a, _, rfl, get_turn hA, t, 1, rfl, rfl, _, _, rfl, ?_⟩
    refine ⟨_, rfl, .ref a, rfl, a, _, rfl, put_turn hA, ?_⟩
    refine ⟨by show 4 ≤ sizeLine; decide, fun l nl => ?_⟩
    have nla : a ≠ l := fun z => by rw [← z, upd_same] at nl; cases nl
    have nlc : c ≠ l := fun z => by rw [← z, upd_ne, hC] at nl
                                    · cases nl
                                    · exact ne_of hC hA (by intro z; cases z)
    have nlw : w ≠ l := fun z => by rw [← z, upd_ne, hW] at nl
                                    · cases nl
                                    · exact ne_of hW hA (by intro z; cases z)
    have nca : c ≠ a := ne_of hC hA (by intro z; cases z)
    have nwa : w ≠ a := ne_of hW hA (by intro z; cases z)
    obtain ⟨H2, hH2⟩ : ∃ H2, H2 = upd (upd H a (.dK (stK w c r (t + 1)))) l (.lst (primes.map V.int)) := ⟨_, rfl⟩
    have A2 : H2 a = some (.dK (stK w c r (t + 1))) := by rw [hH2, upd_ne nla, upd_same]
    have W2 : H2 w = some (.lst (ws.map V.int)) := by rw [hH2, upd_ne nlw, upd_ne nwa]; exact hW
    have C2 : H2 c = some (.lst (cs.map V.int)) := by rw [hH2, upd_ne nlc, upd_ne nca]; exact hC
    have L2' : H2 l = some (.lst (primes.map V.int)) := by rw [hH2, upd_same]
    refine ⟨l, rfl, ⟨_, .inl (.inl upd_same)⟩, for_list (K := K) (a := l) (xs := primes.map V.int) (fun i σ H3 => ∃ (fd : Int) (y3 y4 y5 : Option V), σ = [some (.ref a), some (.int (t + 1)), some (.int fd), y3, y4, y5] ∧ H2 = H3) ⟨0, none, none, none, rfl, hH2⟩ ?_ ?_ ?_⟩
    · rintro i σ H3 _ ⟨_, _, _, _, _, rfl⟩
      exact .inl (.inl L2')
    · rintro i x σ H3 hx ⟨fd, y3, y4, y5, rfl, rfl⟩
      obtain ⟨pr, rfl, hp0, hp1⟩ : ∃ pr : Int, x = V.int pr ∧ 0 < pr ∧ pr < 2147483648 := by
        rw [List.getElem?_map] at hx
        cases e : primes[i]? with
        | none => rw [e] at hx; cases hx
        | some z =>
          rw [e] at hx
          have hm := List.mem_of_getElem? e
          have all : ∀ z ∈ primes, 0 < z ∧ z < 2147483648 := by decide
          exact ⟨z, (Option.some.inj hx).symm, all z hm⟩
      refine ⟨_, rfl, 48271, t + 1, rfl, rfl, .inl ⟨by decide, by decide⟩, _, rfl, _, 37, rfl, rfl, ⟨by decide, by decide⟩, _, _, rfl, rfl, ?_⟩
      refine ⟨.ref a, rfl, a, _, rfl, get_cells A2, c, rfl, ⟨_, .inl (.inl C2)⟩, for_list (K := K) (a := c) (xs := cs.map V.int) (fun i σ H3 => ∃ (bl : Int) (y5 : Option V), σ = [some (.ref a), some (.int (t + 1)), some (.int fd), some (.int pr), some (.int bl), y5] ∧ H2 = H3 ∧ bl.natAbs < 2 ^ 40) ⟨_, y5, rfl, rfl, ?_⟩ ?_ ?_ ?_⟩
      · show (48271 * (t + 1) + pr / 37).natAbs < 1099511627776
        omega
      · rintro i σ H3 _ ⟨_, _, _, rfl, _⟩
        exact .inl (.inl C2)
      · rintro i x σ H3 hx ⟨bl, y5, rfl, rfl, hbl⟩
        obtain ⟨n, rfl⟩ : ∃ n, x = V.int n := by
          rw [List.getElem?_map] at hx
          cases e : cs[i]? with
          | none => rw [e] at hx; cases hx
          | some z => rw [e] at hx; exact ⟨z, (Option.some.inj hx).symm⟩
        refine ⟨_, rfl, bl, 69621, rfl, rfl, .inr ⟨by decide, by decide⟩, _, rfl, _, n, rfl, rfl, _, rfl, _, t + 1, rfl, rfl, .inl ⟨_, rfl, ?_⟩⟩
        have hm1 : 0 ≤ (bl * 69621 + n + (t + 1)).fmod pr := Int.fmod_nonneg_of_pos _ hp0
        have hm2 : (bl * 69621 + n + (t + 1)).fmod pr < pr := Int.fmod_lt_of_pos _ hp0
        refine ⟨_, rfl, _, pr, rfl, rfl, by omega, _, some (.int n), rfl, rfl, ?_⟩
        show _ < 1099511627776
        omega
      · rintro σ H3 ⟨bl, y5, rfl, rfl, hbl⟩
        have hbl' : bl.natAbs < 1099511627776 := hbl
        refine ⟨_, rfl, fd, 2147483563, rfl, rfl, .inr ⟨by decide, by decide⟩, _, rfl, bl, 5, rfl, rfl, ⟨by decide, by decide, ?_⟩, .inl ⟨_, rfl, _, rfl, _, pr, rfl, rfl, by omega, _, _, rfl, rfl, ?_⟩⟩
        · show bl.natAbs < 18446744073709551616
          omega
        · exact ⟨_, _, _, _, rfl, rfl⟩
    · rintro σ H3 ⟨fd, y3, y4, y5, rfl, rfl⟩
      refine ⟨_, rfl, q H2 fd (fun b o e hb => ?_) ⟨ncw, ws, cs, r, t + 1, A2, W2, C2, hwl, hcl, by omega, by omega⟩ fun r' t' e => ?_⟩
      · have hbl : b ≠ l := fun z => by
          rw [z] at e hb
          rw [upd_ne hb, e] at nl
          cases nl
        rw [hH2, upd_ne hbl, upd_ne hb]
        exact e
      · rw [hA] at e
        obtain ⟨e1, e2⟩ : r = r' ∧ t = t' := by
          have e := HO.dK.inj (Option.some.inj e)
          unfold stK at e
          simp at e
          exact e
        exact ⟨t + 1, by rw [← e1]; exact A2⟩
/-- a draw: some d, 0 ≤ d < z -/
def spDraw : Sp := fun vs H Q _ => ∃ (a w c : Addr) (T : Nat) (z : Int), vs = [.ref a, .int z] ∧ St H a w c T ∧ T ≤ 1000000 ∧ 0 < z ∧ z.natAbs < 2 ^ 1000 ∧
  ∀ (H' : Hp) (d : Int), 0 ≤ d → d < z → Kept a w H H' → St H' a w c (T + 1) → Q (.int d) H'
theorem scD : FnScope ["state", "room", "found"] ["state", "room"] (defScope sDraw) := ⟨rfl, rfl, rfl, by decide +kernel, rfl, by decide +kernel, by decide +kernel⟩
theorem ok_draw {f fS : Addr} {fd fdS : FuncData} (F : Fun K "_law_draw" "_law_draw" sDraw f fd) (FS : Fun K "_law_stirred" "_law_stirred" sStirred fS fdS) (bS : Binds K fdS ["state"] []) (gS : mg "_law_stirred" = some (.ref fS)) (mint : mg "int" = none) :
    FnOk P w K mg base CX0 2 f fd ["state", "room"] spDraw := by
  have GS : FnOk P w K mg base CX0 1 fS fdS ["state"] spStirred := ok_stirred FS mint
  refine F.ok scD (fun vs H Q E h => ?_) (fun cdv A outer s H vs Q E hr h => ?_)
  · obtain ⟨a, w, c, T, z, rfl, _⟩ := h
    rfl
  · obtain ⟨a, w, c, T, z, rfl, hSt, hT, hz, hzb, q⟩ := h
    have hu := hu_of hr
    refine ⟨_, pss_cons (ps_if (pt_cmpR op_eq (pe_dget hu (pv 0) pe_str (fun _ _ => rfl)) pe_int (nomark _))
        (pss_one (ps_dput hu (pv 0) pe_str (pe_ifExp (pt_cmpR (op_neD hr.units) (pe_dget hu (pv 0) pe_str (fun _ _ => rfl)) (pe_lst pa_nil) (nomark _))
          (pe_bm PySem.F.plainAttrs_list PySem.F.slot_list_pop PySem.F.type_list_pop mt_popAt (pe_dget hu (pv 0) pe_str (fun _ _ => rfl)) (pa_cons pe_int pa_nil))
          (pe_call GS hr (by rfl) gS FS.kp bS .nil pass0 (pa_cons (pv 0) pa_nil))) rfl)) pss_nil)
      (pss_cons (ps_set (i := 2) scD.nd rfl (.inl rfl) (pe_op op_modN (pe_callTy call_int1 (by rfl) mint (by decide +kernel) (pa_cons (pe_dget hu (pv 0) pe_str (fun _ _ => rfl)) pa_nil)) (pv 1)))
      (pss_cons (ps_dput hu (pv 0) pe_str (pe_op op_fdivW (pe_dget hu (pv 0) pe_str (fun _ _ => rfl)) (pv 1)) rfl)
      (pss_one (ps_ret (pv 2))))), ?_⟩
    obtain ⟨ncw, ws, cs, r, t, hA, hW, hC, hwl, hcl, ht0, htT⟩ := hSt
    have nca : c ≠ a := ne_of hC hA (by intro z; cases z)
    have nwa : w ≠ a := ne_of hW hA (by intro z; cases z)
    have zdiv : CDivW r z → True := fun _ => trivial
    have cdiv : ∀ r1 : Int, CDivW r1 z := fun r1 => wide_div hz hzb (by decide) (by decide)
    have fin : ∀ (H1 : Hp) (ws1 : List Int) (r1 t1 : Int), H1 a = some (.dK (stK w c r1 t1)) → H1 w = some (.lst (ws1.map V.int)) → H1 c = some (.lst (cs.map V.int)) → ws1.length ≤ 63 → 0 ≤ t1 → t1 ≤ (T + 1 : Nat) → Kept a w H H1 →
        Q (.int (r1.fmod z)) (upd H1 a (.dK (stK w c (r1 / z) t1))) := fun H1 ws1 r1 t1 h1 h2 h3 h4 h5 h6 h7 =>
      q _ _ (Int.fmod_nonneg_of_pos _ hz) (Int.fmod_lt_of_pos _ hz) (fun b o e n1 n2 => by rw [upd_ne n1]; exact h7 b o e n1 n2)
        ⟨ncw, ws1, cs, r1 / z, t1, upd_same, by rw [upd_ne nwa]; exact h2, by rw [upd_ne nca]; exact h3, h4, hcl, h5, h6⟩
    refine ⟨.ref a, rfl, a, _, rfl, get_rest hA, rfl, _, rfl, ite2 (fun _ => ?_) (fun _ => ?_)⟩
    · refine ⟨.ref a, rfl, a, _, rfl, get_wide hA, Nat.zero_le _, fun l nl => ?_⟩
      have nal : a ≠ l := ne_of_none hA nl
      have nwl : w ≠ l := ne_of_none hW nl
      have ncl : c ≠ l := ne_of_none hC nl
      have A1 : (upd H l (.lst [])) a = some (.dK (stK w c r t)) := by rw [upd_ne nal]; exact hA
      have W1 : (upd H l (.lst [])) w = some (.lst (ws.map V.int)) := by rw [upd_ne nwl]; exact hW
      have C1 : (upd H l (.lst [])) c = some (.lst (cs.map V.int)) := by rw [upd_ne ncl]; exact hC
      have K1 : Kept a w H (upd H l (.lst [])) := fun b o e _ _ => by rw [upd_ne (ne_of_none e nl)]; exact e
      refine ⟨_, _, dp_ints (.inl (.inl W1)), dp_ints (ns := []) (.inl (.inl upd_same)), shaped_ints ws, shaped_ints [], _, rfl, ?_⟩
      rw [eqv_ints ws []]
      cases ws with
      | nil =>
        refine iteF ?_
        refine ⟨.ref a, rfl, a, w, c, T, rfl, ⟨ncw, [], cs, r, t, A1, W1, C1, hwl, hcl, ht0, htT⟩, hT, fun H2 d k2 s2 _ => ?_⟩
        obtain ⟨_, ws2, cs2, r2, t2, A2, W2, C2, hwl2, hcl2, ht2, htT2⟩ := s2
        have W2' : H2 w = some (.lst (([] : List Int).map V.int)) := k2 w _ W1 nwa
        have C2' : H2 c = some (.lst (cs.map V.int)) := k2 c _ C1 nca
        refine ⟨.ref a, rfl, a, _, rfl, put_rest A2, ?_⟩
        refine ⟨.ref a, rfl, a, _, rfl, get_rest upd_same, .inl ⟨_, rfl, _, rfl, d, z, rfl, rfl, by omega, ?_⟩⟩
        refine ⟨.ref a, rfl, a, _, rfl, get_rest upd_same, _, rfl, d, z, rfl, rfl, cdiv d, .ref a, rfl, a, _, rfl, put_rest upd_same, _, rfl, ?_⟩
        refine fin _ [] d t2 upd_same (by rw [upd_ne nwa]; exact W2') (by rw [upd_ne nca]; exact C2') (by simp) ht2 htT2 fun b o e n1 n2 => ?_
        rw [upd_ne n1]
        exact k2 b o (K1 b o e n1 n2) n1
      | cons n ws =>
        refine iteT ?_
        refine ⟨.ref a, rfl, a, _, rfl, get_wide A1, .inl ⟨rfl, _, .inl (.inl W1)⟩, ?_⟩
        refine ⟨w, _, 0, 0, .int n, rfl, rfl, W1, by decide, by decide, by simp [seqIndex?], rfl, ?_⟩
        have A2 : (upd (upd H l (.lst [])) w (.lst (ws.map V.int))) a = some (.dK (stK w c r t)) := by rw [upd_ne nwa.symm]; exact A1
        refine ⟨.ref a, rfl, a, _, rfl, put_rest A2, ?_⟩
        refine ⟨.ref a, rfl, a, _, rfl, get_rest upd_same, .inl ⟨_, rfl, _, rfl, n, z, rfl, rfl, by omega, ?_⟩⟩
        refine ⟨.ref a, rfl, a, _, rfl, get_rest upd_same, _, rfl, n, z, rfl, rfl, cdiv n, .ref a, rfl, a, _, rfl, put_rest upd_same, _, rfl, ?_⟩
        refine fin _ ws n t upd_same (by rw [upd_ne nwa]; exact upd_same) (by rw [upd_ne nca, upd_ne ncw]; exact C1) (by simp at hwl; omega) ht0 (by omega) fun b o e n1 n2 => ?_
        rw [upd_ne n1, upd_ne n2]
        exact K1 b o e n1 n2
    · refine ⟨.ref a, rfl, a, _, rfl, get_rest hA, .inl ⟨_, rfl, _, rfl, r, z, rfl, rfl, by omega, ?_⟩⟩
      refine ⟨.ref a, rfl, a, _, rfl, get_rest hA, _, rfl, r, z, rfl, rfl, cdiv r, .ref a, rfl, a, _, rfl, put_rest hA, _, rfl, ?_⟩
      exact fin _ ws r t hA hW hC hwl ht0 (by omega) fun b o e _ _ => e
end
end Dr27

set_option Elab.async false
set_option linter.all false
set_option maxRecDepth 100000
set_option maxHeartbeats 2000000
/-! Defs that want to know that no text of a list is being written around them; repr of lists and tuples. -/
namespace RepG
open PySem PySem.Spec PyProof.Rows L2 Cau

/-- like a def's promise, but only where nothing is being written around it -/
structure FnG (P : Program) (w : World) (K : PySem.W.Frag) (mg : Str → Option Value) (base : Heap) (CX : CXT) (k : Nat) (f : Addr) (fd : FuncData) (ps : List Str) (sp : Sp) : Prop where
  arity : ∀ vs H Q E, sp vs H Q E → vs.length = ps.length
  goes : ∀ (A : Around), A.guards = some [] → Room k A → ∀ (outer : List Env) (s : Shared) (H : Hp), Env0 P w K mg base A outer s H → ∀ (args : Args) (us : List Value) (vs : List V), BindsTo s fd args (ps.zip us) → Vals vs us →
    ∀ (Q : VK) (E : XK), sp vs H Q E → codeAny (model P w) A (.call (.ref f) args) (CR CX outer P w H s Q E) s

section
variable {P : Program} {w : World} {K : PySem.W.Frag} {mg : Str → Option Value} {base : Heap} {CX : CXT} {k : Nat} {f : Addr} {fd : FuncData} {ps : List Str} {sp : Sp}
theorem fnG_of (F : FnOk P w K mg base CX k f fd ps sp) : FnG P w K mg base CX k f fd ps sp :=
  ⟨F.len, fun A _ hr outer s H e args us vs hb r Q E h => F.run A outer s H args us vs Q E hr e hb r h⟩
/-- by its body -/
theorem okG {x qual : Str} {st : Stmt} {N : List Str} (F : Fun K x qual st f fd) (S : FnScope N ps (defScope st)) (len : ∀ vs H Q E, sp vs H Q E → vs.length = ps.length)
    (hbody : ∀ (cdv : Value) (A : Around) (outer : List Env) (s : Shared) (H : Hp) (vs : List V) (Q : VK) (E : XK), A.guards = some [] → Room k (A.deeper (envOfC qual (defScope st) s.heap.objs.size f cdv)) → sp vs H Q E →
      ∃ t, PSs (cxOf CX0 P w K mg base N qual (defScope st) f cdv A outer s H E).nox (defBody st) t ∧ t { nx := fun _ H' => Q .non H', rt := Q } (start N vs) H) : FnG P w K mg base CX0 (k + 1) f fd ps sp := by
  obtain ⟨_, _, _, _, _, _, cdv, _, _, rfl, lk, hcd⟩ := F.ex
  refine ⟨len, fun A g hr outer s H e args us vs hb r Q E h => ?_⟩
  refine LamX.run_ofS lk hcd S hr e hb r (len _ _ _ _ h) fun hr' => ?_
  obtain ⟨t, ht, q⟩ := hbody cdv A outer s H vs Q E g hr' h
  exact ⟨t, ht.nox, q⟩
end

section
variable {X : Cx} {CX : CXT} {k : Nat} {f : Addr} {fd : FuncData} {ps : List Str} {sp : Sp} {E : XK} {x : Str} {p pos : Pos} {e : Expr} {es : List Expr} {t : TA}
theorem goG {pins : List (Addr × Obj)} {σ : L2.St} {H : Hp} {s : Shared} {Q : VK} {us : List Value} {vs : List V} (F : FnG X.prog X.w X.K X.mg X.base CX k f fd ps sp) (g : X.A.guards = some []) (hr : Room k X.A) (hb : Binds X.K fd ps []) (hx : Passes CX X E)
    (I : Inv X pins σ H s) (r : Vals vs us) (h : sp vs H Q E) : wpAny (model X.prog X.w) X.A (call (.ref f) us) (EP X pins σ Q) X.xe s := by
  have hl : (us ++ []).length = ps.length := by rw [List.append_nil, ← r.length]; exact F.arity _ _ _ _ h
  have bt := hb s us I.kIn hl
  rw [List.append_nil] at bt
  refine wpAny_call (codeAny_mono (F.goes X.A g hr X.stack s H I.env0 ⟨us, []⟩ us vs bt r Q E h) ?_)
  rintro (e | (_ | _ | _ | u)) s' q
  · exact hx pins σ H s e s' I q
  all_goals first
    | exact I.after q
    | exact False.elim q
theorem pe_callG (F : FnG X.prog X.w X.K X.mg X.base CX k f fd ps sp) (g : X.A.guards = some []) (hr : Room k X.A) (hg : Gl X x) (hm : X.mg x = some (.ref f)) (hk : PySem.W.keepIn X.K (.ref f) = true) (hb : Binds X.K fd ps []) (hx : Passes CX X E)
    (ha : PA X (e :: es) t) (hdb : (x == ("__debug__" : Str)) = false := by decide) (he : starEach (e :: es) X.env = (false, eval e X.env) :: starEach es X.env := by rfl) (hpl : (backTo pos (starEach es X.env)).any (·.1) = false := by rfl) :
    PE X (.Call (.Name x p) (e :: es) [] pos) (tCall sp [] E t) := by
  constructor
  intro pins s σ H Q I h
  apply wpAny_Call_Name_kw
  apply ld_glob I hg hm _ hdb
  refine PySem.W.callWith_K (h₀ := X.base) I.ok.mod.kin hk (thn (ha.run pos pins s σ H _ I h) ?_) he hpl
  rintro us s1 ⟨vs, H1, I1, r, q⟩
  rw [List.append_nil] at q
  exact ⟨I1.kIn, goG F g hr hb hx I1 r q⟩
end

/-! ### repr -/
/-- how far a value is shown -/
def rRepr (K : PySem.W.Frag) : List V → Hp → VK → Prop := fun xs H Q => ∃ (v : V) (d : PyData), xs = [v] ∧ Dp K H v d ∧ d.showable = true ∧ d.hasDict = false ∧ d.depth ≤ 60 ∧ d.shown.length ≤ sizeLine ∧ Q (.str d.shown) H
theorem call_repr {X : Cx} (g : X.A.guards = some []) {k : Nat} (hr : Room k X.A) : CallR X (.builtin "repr") (rRepr X.K) := by
  intro pins s σ H xs us Q I r ⟨v, d, hv, hd, h1, h2, h3, h4, q⟩
  subst hv
  obtain ⟨u, hu, ru⟩ := r.one
  subst hu
  obtain ⟨as, rd⟩ := Dp.reads I d v u hd ru
  have hun := hr.un
  have done : ∀ t, EP X pins σ Q (.str d.shown t) { s with toks := s.toks + 1 } := fun t => ⟨.str d.shown, H, I.tok _, ⟨_, rfl⟩, q⟩
  cases rd with
  | none => exact PySem.P.repr_of_none (done _)
  | bool b => exact PySem.P.repr_of_bool (done _)
  | int i t => exact PySem.P.repr_of_int (by simpa [PyData.showable] using h1) (done _)
  | str y t => exact PySem.P.repr_of_str (done _) h4
  | list a1 a2 a3 a4 =>
    refine repr_of_reads' (.list a1 a2 a3 a4) h1 (PyData.noDict_hsm h2) g (by omega) (fun _ _ e => e) ?_ h4
    exact fun h' u tk hk => ⟨.str _, H, I.kept hk, ⟨_, rfl⟩, q⟩
  | tuple a1 a2 a3 a4 =>
    refine repr_of_reads' (.tuple a1 a2 a3 a4) h1 (PyData.noDict_hsm h2) g (by omega) (fun _ _ e => e) ?_ h4
    exact fun h' u tk hk => ⟨.str _, H, I.kept hk, ⟨_, rfl⟩, q⟩
  | dict a1 a2 a3 a4 a5 => simp [PyData.hasDict] at h2

/-! ### the end of a law row, whose def wants to know that nothing is being written -/
/-- the tables of code objects T, and the script at a where it is not part of the head -/
def topH (T : List Addr) (a : Addr) (on : Bool) (ob : Obj) (xs : List V) : Hp := fun b => if b ∈ T then some (.tbl #[]) else if b = a ∧ on = true then some (.frz ob (.lst xs)) else none
section
variable {T : List Addr} {a b : Addr} {on : Bool} {ob : Obj} {xs : List V}
theorem topH_tab (h : b ∈ T) : topH T a on ob xs b = some (.tbl #[]) := if_pos h
theorem topH_scr (h : a ∉ T) (ho : on = true) : topH T a on ob xs a = some (.frz ob (.lst xs)) := (if_neg h).trans (if_pos ⟨rfl, ho⟩)
theorem topH_cases : (b ∈ T ∧ topH T a on ob xs b = some (.tbl #[])) ∨ (b = a ∧ on = true ∧ topH T a on ob xs b = some (.frz ob (.lst xs))) ∨ topH T a on ob xs b = none := by
  by_cases h : b ∈ T
  · exact .inl ⟨h, topH_tab h⟩
  · by_cases h2 : b = a ∧ on = true
    · exact .inr (.inl ⟨h2.1, h2.2, (if_neg h).trans (if_pos h2)⟩)
    · exact .inr (.inr ((if_neg h).trans (if_neg h2)))
end
theorem top_goes {P : Program} {w : World} {K : PySem.W.Frag} {mg mb : Str → Option Value} {CX : CXT} {k : Nat} {fa a : Addr} {cs : List (Addr × Addr)} {fd : FuncData} {x : Str} {sp : Sp} {s : Shared} {vs : List Value} {ns : List Int}
    (kin : K.In s.heap) (glob : s.heap.Ns mainGlobals mg) (blt : s.heap.Ns builtinsNs mb) (boot : ∀ x : Str, x ≠ "__name__" → mb x = bootBuiltins x) (lim : s.heap.NoLimit) (gens : s.gens = #[])
    (tab : ∀ p ∈ cs, s.heap.get? p.2 = some { cls := .none, data := .fields #[] }) (tabK : ∀ p ∈ cs, K.lookup p.2 = none) (code : ∀ p ∈ cs, PySem.W.CodeHd s.heap p.1 p.2)
    (bm : ∃ (m : Addr) (o : Obj), mg "__builtins__" = some (.ref m) ∧ m ≠ builtinsNs ∧ s.heap.get? m = some o ∧ o.cls = .type "module" ∧ o.dict = some builtinsNs ∧ o.data = .plain)
    (scr : s.heap.get? a = some { cls := .type "list", data := .seq vs.toArray }) (wh : IntsAre vs ns) (len : ns.length ≤ sizeLine) (hr : Room k callerA)
    (F : ∀ base : Heap, K.In base → base.Ns mainGlobals mg → (∀ p ∈ cs, LamX.TabB base mg p.1 p.2) → FnG P w K mg base CX k fa fd [x] sp) (bind : ∀ (s : Shared) (u : Value), BindsTo s fd ⟨[u], []⟩ [(x, u)])
    (hsp : ∀ H : Hp, (∀ p ∈ cs, H p.2 = some (.tbl #[])) → SqL K H a (ns.map V.int) → sp [.ref a] H (fun v _ => v = .bl true) fun _ _ _ => False) (hCX : ∀ H e s', CX [] H s (fun _ _ _ => False) e s' → False) :
    codeAny (model P w) callerA (.call (.ref fa) ⟨[.ref a], []⟩) (fun r s' => r = .ok (.ret (.bool true)) ∧ OldK s.heap s'.heap ∧ s'.os = s.os ∧ AllBare s'.gens) s := by
  obtain ⟨T, hT⟩ : ∃ T, T = cs.map (·.2) := ⟨_, rfl⟩
  obtain ⟨ob, hob⟩ : ∃ ob : Obj, ob = { cls := .type "list", data := .seq vs.toArray } := ⟨_, rfl⟩
  rw [← hob] at scr
  have inT : ∀ p ∈ cs, p.2 ∈ T := fun p hp => by rw [hT]; exact List.mem_map_of_mem hp
  have ofT : ∀ b, b ∈ T → ∃ p ∈ cs, p.2 = b := fun b hb => by rw [hT] at hb; exact List.mem_map.mp hb
  have tabT : ∀ b, b ∈ T → s.heap.get? b = some { cls := .none, data := .fields #[] } := fun b hb => by
    obtain ⟨p, hp, rfl⟩ := ofT b hb
    exact tab p hp
  have aT : a ∉ T := fun z => by
    have q := (tabT a z).symm.trans scr
    rw [hob] at q
    cases q
  obtain ⟨H, hH⟩ : ∃ H, H = topH T a (K.lookup a).isNone ob (ns.map V.int) := ⟨_, rfl⟩
  have ways : ∀ b, (b ∈ T ∧ H b = some (.tbl #[])) ∨ (b = a ∧ K.lookup a = none ∧ H b = some (.frz ob (.lst (ns.map V.int)))) ∨ H b = none := fun b => by
    rw [hH]
    rcases topH_cases (T := T) (a := a) (b := b) (on := (K.lookup a).isNone) (ob := ob) (xs := ns.map V.int) with z | ⟨z1, z2, z3⟩ | z
    · exact .inl z
    · exact .inr (.inl ⟨z1, Option.isNone_iff_eq_none.mp z2, z3⟩)
    · exact .inr (.inr z)
  -- what stands still in the head is not spoken of
  have off : ∀ {b : Addr} {o : Obj}, s.heap.get? b = some o → (∀ us m, o.data ≠ .seq us m) → o.data ≠ .fields #[] → H b = none := fun {b o} e n1 n2 => by
    rcases ways b with ⟨z, _⟩ | ⟨z, _, _⟩ | z
    · rw [tabT b z] at e
      cases e
      exact (n2 rfl).elim
    · rw [z, scr] at e
      cases e
      rw [hob] at n1
      exact (n1 _ _ rfl).elim
    · exact z
  have offD : ∀ {b : Addr} {o : Obj} {es : Array DictEntry} {m : Nat}, s.heap.get? b = some o → o.data = .dict es m → H b = none := fun e d => off e (fun _ _ z => by rw [d] at z; cases z) fun z => by rw [d] at z; cases z
  have offN : ∀ {b : Addr} {m : Str → Option Value}, s.heap.Ns b m → (hidT s.heap H).Ns b m := fun ⟨o, es, ep, e, d, r⟩ => ⟨o, es, ep, hidT_get e (offD e d), d, r⟩
  have kinB : K.In (hidT s.heap H) := fun b o e => hidT_get (kin b o e) (by
    rcases ways b with ⟨z, _⟩ | ⟨z, y, _⟩ | z
    · obtain ⟨p, hp, rfl⟩ := ofT b z
      rw [tabK p hp] at e
      cases e
    · rw [z, y] at e
      cases e
    · exact z)
  have mod : L2.Mod K mg (hidT s.heap H) := by
    obtain ⟨mc, l1, l2⟩ := lim
    exact ⟨kinB, offN glob, ⟨mb, offN blt, boot⟩, ⟨mc, offN l1, l2⟩⟩
  have globD : ∃ (o : Obj) (es : Array DictEntry) (ep : Nat), s.heap.get? mainGlobals = some o ∧ o.data = .dict es ep := by
    obtain ⟨o, es, ep, e, d, _⟩ := glob
    exact ⟨o, es, ep, e, d⟩
  have TB : ∀ p ∈ cs, LamX.TabB (hidT s.heap H) mg p.1 p.2 := fun p hp => by
    have tp := tab p hp
    obtain ⟨og, es, ep, eg, dg⟩ := globD
    have c1 : PySem.W.CodeHd (hidT s.heap H) p.1 p.2 := by
      obtain ⟨o, us, file, tf, flags, tg, inF, text, tt, e, r1, r2, r3, rest⟩ := code p hp
      refine ⟨o, us, file, tf, flags, tg, inF, text, tt, hidT_get e (off e ?_ ?_), r1, r2, r3, rest⟩
      · exact fun _ _ z => by rw [r2] at z; cases z
      · intro z
        rw [r2] at z
        cases z
        simp at r3
    have c2 : (hidT s.heap H).BuiltinsAt mg p.2 := by
      obtain ⟨m, o, b1, b2, b3, b4, b5, b6⟩ := bm
      have d1 : m ≠ mainGlobals := fun z => by
        rw [z, eg] at b3
        cases b3
        rw [dg] at b6
        cases b6
      have d2 : m ≠ p.2 := fun z => by
        rw [z, tp] at b3
        cases b3
        cases b6
      refine ⟨m, o, b1, b2, d1, d2, hidT_get b3 (off b3 ?_ ?_), b4, b5, b6⟩
      · exact fun _ _ z => by rw [b6] at z; cases z
      · exact fun z => by rw [b6] at z; cases z
    refine ⟨c1, c2, fun z => ?_⟩
    rw [z, tp] at eg
    cases eg
    cases dg
  have hok : HOk P w H s.heap := fun b o q => by
    rcases ways b with ⟨z, y⟩ | ⟨z, _, y⟩ | z
    · rw [y] at q
      cases q
      exact tabT b z
    · rw [y] at q
      cases q
      subst z
      exact ⟨scr, by rw [List.length_map]; exact len, vs, _, vals_ints wh, by rw [scr, hob]⟩
    · rw [z] at q
      cases q
  have e0 : Env0 P w K mg (hidT s.heap H) callerA [] s H :=
    { frames := rfl, mod := mod, bs := fun _ _ e => of_hidT e, bsz := Nat.le_of_eq (hidT_size _ _), funs := trivial, frf := fun _ z => absurd z List.not_mem_nil, hok := hok, bare := .of_eq gens }
  have tabH : ∀ p ∈ cs, H p.2 = some (.tbl #[]) := fun p hp => by
    rw [hH]
    exact topH_tab (inT p hp)
  have seq : SqL K H a (ns.map V.int) := by
    cases q : K.lookup a with
    | none => exact .inl (.inr ⟨ob, by rw [hH]; exact topH_scr aT (by rw [q]; rfl)⟩)
    | some o =>
      have e := (kin a o q).symm.trans scr
      cases e
      exact .inr ⟨_, vs.toArray, _, q, by rw [hob], by rw [hob], by rw [hob], by rw [List.size_toArray, wh.length]; exact len, by simpa using vals_ints wh⟩
  refine codeAny_mono ((F _ kinB (offN glob) TB).goes callerA rfl hr [] s H e0 ⟨[.ref a], []⟩ [.ref a] [.ref a] (bind s _) (.cons rfl .nil) _ _ (hsp H tabH seq)) ?_
  rintro (e | (_ | _ | _ | u)) s' z
  · exact (hCX H e s' z).elim
  all_goals first
    | exact False.elim z
    | skip
  obtain ⟨v, H', os, bare, un, hok', rv, q⟩ := z
  cases (show v = .bl true from q)
  cases (show u = Value.bool true from rv)
  have same : ∀ b o, b ∉ T → s.heap.get? b = some o → s'.heap.get? b = some o := fun b o nb e => by
    rcases ways b with ⟨z, _⟩ | ⟨_, _, y⟩ | z
    · exact (nb z).elim
    · obtain ⟨e1, _⟩ := hok b _ y
      obtain ⟨e2, _⟩ := hok' b _ (un.frzs b ob _ y)
      exact (e.symm.trans e1) ▸ e2
    · exact un.keep b o e z (fun y => List.not_mem_nil y) List.not_mem_nil
  have grown : ∀ b, b ∈ T → ∃ more : Array Value, s'.heap.get? b = some { cls := .none, data := .fields more } := fun b hb => by
    obtain ⟨p, hp, rfl⟩ := ofT b hb
    obtain ⟨more, y⟩ := un.tbls p.2 #[] (tabH p hp)
    exact ⟨_, hok' p.2 _ y⟩
  refine ⟨rfl, ⟨fun b o e => ?_, fun b o e => ?_⟩, os, bare⟩
  · by_cases hb : b ∈ T
    · obtain ⟨more, y⟩ := grown b hb
      obtain ⟨p, hp, rfl⟩ := ofT b hb
      rw [tab p hp] at e
      cases e
      exact .inr (.inl ⟨((code p hp).tab (tab p hp)).isCodeTable, rfl, #[], more, rfl, by rw [Array.empty_append]; exact y⟩)
    · exact .inl (same b o hb e)
  · by_cases hb : b ∈ T
    · obtain ⟨more, y⟩ := grown b hb
      exact ⟨_, y⟩
    · exact ⟨o, same b o hb e⟩
/-- what is known of the law's promise at the head's heap h -/
def LawG (l : PySem.W.OpenLaw) (w : World) (K : PySem.W.Frag) (CX : CXT) (k n : Nat) (x : Str) (mg : Str → Option Value) (fa : Addr) (h : Heap) : Prop :=
  ∃ (fd : FuncData) (cs : List (Addr × Addr)) (sp : Sp), (∀ p ∈ cs, h.get? p.2 = some { cls := .none, data := .fields #[] } ∧ K.lookup p.2 = none ∧ PySem.W.CodeHd h p.1 p.2) ∧ (∀ (s : Shared) (u : Value), BindsTo s fd ⟨[u], []⟩ [(x, u)]) ∧
    (∀ (H : Hp) (a : Addr) (ns : List Int), ns.length ≤ n → (∀ p ∈ cs, H p.2 = some (.tbl #[])) → SqL K H a (ns.map V.int) → sp [.ref a] H (fun v _ => v = .bl true) fun _ _ _ => False) ∧
    ∀ base : Heap, K.In base → base.Ns mainGlobals mg → (∀ p ∈ cs, LamX.TabB base mg p.1 p.2) → FnG l.prog w K mg base CX k fa fd [x] sp
theorem walk_G {l : PySem.W.OpenLaw} {n k : Nat} {q : Program} {loose : List Str} {XP : (Str → Option Value) → Heap → Prop} {YP : World → Heap → Prop} {d : DefRec} {K : PySem.Params → PySem.W.Frag} {CX : World → CXT} {x : Str} {xs : List Str}
    (h1 : l.most = some n) (h2 : n ≤ sizeLine) (h3 : d.params.defaults = []) (hr : Room k callerA) (hrec : (xs.all fun x => (recsOf q).any fun e => e.name == x) = true) (hY : ∀ (w : World) (h : Heap), YP w h → (K w.params).In h)
    (F : ∀ (w : World) (mg : Str → Option Value) (fa : Addr) (h : Heap), YP w h → (K w.params).In h → h.Ns mainGlobals mg → mg d.name = some (.ref fa) →
      (∀ x ∈ xs, ∀ c P : Addr, PySem.W.tabIn (K w.params) x = some (c, P) → PySem.W.CodeHd h c P ∧ h.get? P = some { cls := .none, data := .fields #[] }) → LawG l w (K w.params) (CX w) k n x mg fa h)
    (hCX : ∀ (w : World) (H : Hp) (s : Shared) (e : Value) (s' : Shared), CX w [] H s (fun _ _ _ => False) e s' → False) :
    PySem.W.WalkO q loose XP YP l.row.toRowW d [] (fun f vs => PySem.call f vs) := by
  apply Att.attach_callB h1 h3
  intro w s₀ s₁ mg mb fa o pm cd doc a vs ns G Y ho hd hcd hmg hobj hints hlen hbits hg
  have KX := hY w _ Y
  obtain ⟨fd, cs, sp, hT, hb, hsp, hF⟩ := F w mg fa _ Y KX G.T.g hmg fun y hy c p ht => by
    have any := List.all_eq_true.mp hrec y hy
    have some' : ((recsOf q).find? fun e => e.name == y).isSome = true := by rw [List.find?_isSome]; exact List.any_eq_true.mp any
    obtain ⟨dr, hdr⟩ := Option.isSome_iff_exists.mp some'
    exact PySem.W.tab_of G.T KX hdr ht
  exact top_goes KX G.T.g G.T.b G.T.builtins G.T.nolimit hg (fun p hp => (hT p hp).1) (fun p hp => (hT p hp).2.1) (fun p hp => (hT p hp).2.2) G.T.bmain hobj hints (Nat.le_trans hlen h2) hr hF hb (fun H hH hS => hsp H a ns hlen hH hS) fun H e s' => hCX w H s₁ e s'
end RepG

set_option Elab.async false
set_option linter.all false
set_option maxRecDepth 100000
set_option maxHeartbeats 2000000
namespace N1
open PySem PySem.Spec PyProof.Rows L2 Cau Dr27
abbrev sIsWhole : Stmt := topS 10
abbrev sTupleOf : Stmt := topS 11
abbrev sIsList : Stmt := topS 12
abbrev sIsName : Stmt := topS 13
abbrev sLName : Stmt := topS 46
/-! ### signs of a name -/
def letT : Str := "abcdefghijklmnopqrstuvwxyz"
def digT : Str := "0123456789"
def letS (c : Nat) : Bool := decide (c ∈ letT.cps.toList)
def signS (c : Nat) : Bool := letS c || decide (c ∈ digT.cps.toList)
def nameS (s : Str) : Bool := decide (1 ≤ s.cps.size ∧ s.cps.size ≤ 8) && letS (s.cps.getD 0 0) && s.cps.toList.all signS
/-- the text of a value that is one -/
def Tx (K : PySem.W.Frag) (H : Hp) (x : V) (o : Option Str) : Prop := (∃ s : Str, x = .str s ∧ o = some s ∧ s.length ≤ 4000 ∧ PyData.strOk s = true) ∨ (o = none ∧ ∃ t, TyX K H x (.type t) ∧ kitB t "str" = some false)
def nameO : Option Str → Bool
  | some s => nameS s
  | none => false
def spName (K : PySem.W.Frag) : Sp := fun vs H Q _ => ∃ (x : V) (o : Option Str), vs = [x] ∧ Tx K H x o ∧ ∀ H', Same H H' → Q (.bl (nameO o)) H'
section
variable {P : Program} {w : World} {K : PySem.W.Frag} {mg : Str → Option Value} {base : Heap}
theorem iteT2 {c : Bool} {a b : Prop} (hc : c = true) (h : a) : if c = true then a else b := by rw [hc]; exact h
theorem iteF2 {c : Bool} {a b : Prop} (hc : c = false) (h : b) : if c = true then a else b := by rw [hc]; exact h
theorem scN : FnScope ["value", "sign"] ["value"] (defScope sIsName) := ⟨rfl, rfl, rfl, by decide +kernel, rfl, by decide +kernel, by decide +kernel⟩
theorem ok_name {f : Addr} {fd : FuncData} (F : Fun K "is_name" "is_name" sIsName f fd) (mi : mg "isinstance" = none) (ms : mg "str" = none) (ml : mg "len" = none) (ma : mg "all" = none)
    {t1 t2 : Tok} (gl : mg "LETTERS" = some (.str letT t1)) (gd : mg "DIGITS" = some (.str digT t2)) : FnOk P w K mg base CX0 1 f fd ["value"] (spName K) := by
  refine F.ok scN (fun vs H Q E h => ?_) (fun cdv A outer s H vs Q E hr h => ?_)
  · obtain ⟨x, o, rfl, _⟩ := h
    rfl
  · obtain ⟨x, o, rfl, hx, q⟩ := h
    refine ⟨_, pss_cons (ps_if (PW.pt (pw_or (pt_not (pt_val (pe_callB call_isi (by rfl) mi (by decide +kernel) (pa_cons (pv 0) (pa_cons (pe_bltn (v := .ty "str") (by rfl) ms (by decide +kernel) rfl) pa_nil)))))
        (pw_or1 (pt_not (pt_chain op_le op_le pe_int (pe_callB call_len_str (by rfl) ml PySem.boot_len (pa_cons (pv 0) pa_nil)) pe_int))))) (pss_one (ps_ret pe_bl)) pss_nil)
      (pss_one (ps_ret (pe_and (pe_cmpR op_inS (pe_item_str (pv 0) pe_int (fun _ _ => rfl)) (pe_glob (v := .str letT) (by rfl) gl ⟨_, rfl⟩) (by rfl))
        (pe_one (pe_callB (cr_all rfl) (by rfl) ma (by decide +kernel) (pa_cons
          (pe_lc (own := [("sign", 1)]) (g := gName 1) (tt := tYes) rfl scN.nd (pi_str (pv 0))
            (blkOk_by (own := [("sign", 1)]) (N := ["value", "sign"]) (sc := defScope sIsName) (by decide +kernel))
            (fun _ _ _ _ _ => pg_name (i := 1) scN.nd rfl (.inl rfl)) (fun _ _ _ _ _ => pts_nil)
            (fun _ _ _ _ _ => pe_or (pe_cmpR op_inS (pv 1) (pe_glob (v := .str letT) (by rfl) gl ⟨_, rfl⟩) (by rfl)) (pe_one (pe_cmpR op_inS (pv 1) (pe_glob (v := .str digT) (by rfl) gd ⟨_, rfl⟩) (by rfl))))) pa_nil)))))), ?_⟩
    have len0 : ∀ s : Str, s.length = s.cps.size := fun _ => rfl
    rcases hx with ⟨z, rfl, rfl, hz4, hzo⟩ | ⟨rfl, t, ht, hb⟩
    · have hz : z.length ≤ sizeLine := by rw [sizeLine_eq]; omega
      refine ⟨_, rfl, .str z, .ty "str", .type "str", .type "str", true, rfl, .ty _, .base (.str z), kit_ty (by decide +kernel), true, rfl, iteF ?_⟩
      refine ⟨_, rfl, z, rfl, hz, 1, _, rfl, rfl, _, rfl, ?_⟩
      have q' : ∀ b H', nameS z = b → Same H H' → Q (.bl b) H' := fun b H' e sm => by
        subst e
        exact q H' sm
      by_cases h1 : 1 ≤ z.cps.size
      · refine iteT2 (by rw [len0]; exact decide_eq_true (by omega)) ?_
        refine ⟨_, 8, rfl, rfl, _, rfl, ?_⟩
        by_cases h8 : z.cps.size ≤ 8
        · have e8 : decide (((z.length : Nat) : Int) ≤ 8) = true := by rw [len0]; exact decide_eq_true (by omega)
          rw [e8]
          refine iteF ?_
          obtain ⟨c, hc⟩ : ∃ c, z.cps[0]? = some c := ⟨_, Array.getElem?_eq_getElem (by omega)⟩
          refine ⟨_, rfl, z, 0, c, rfl, rfl, by decide, by decide, by rw [len0]; omega, hc, c, letT, rfl, rfl, _, rfl, ?_⟩
          have hd0 : z.cps.getD 0 0 = c := by
            rw [Array.getD_eq_getD_getElem?, hc]
            rfl
          by_cases hl : c ∈ letT.cps.toList
          · refine iteT2 (decide_eq_true hl) ?_
            refine ⟨_, rfl, z, rfl, fun D nD => ?_⟩
            refine lc_it walk_str (fun i H1 => ∃ bs : List Bool, H1 = upd H D (.lst (bs.map V.bl)) ∧ bs = (z.cps.toList.take i).map signS) ⟨[], rfl, rfl⟩ (fun _ _ _ _ => trivial) ?_ ?_
            · rintro i x H1 H2 hi ⟨bs, rfl, hbs⟩ ⟨rfl, c1, hc1, rfl⟩
              have hil : bs.length < 9 := by rw [hbs, List.length_map, List.length_take]; omega
              have step : (z.cps.toList.take (i + 1)).map signS = bs ++ [signS c1] := by
                rw [hbs, List.take_succ, List.map_append, Array.getElem?_toList, hc1]
                rfl
              refine ⟨rfl, _, rfl, c1, letT, rfl, rfl, _, rfl, ?_⟩
              have put : ∀ b, signS c1 = b → ∃ acc, (upd H D (.lst (bs.map V.bl))) D = some (.lst acc) ∧ acc.length < sizeLine ∧ ∃ bs', upd (upd H D (.lst (bs.map V.bl))) D (.lst (acc ++ [V.bl b])) = upd H D (.lst (bs'.map V.bl)) ∧ bs' = (z.cps.toList.take (i + 1)).map signS := fun b e => by
                refine ⟨_, upd_same, ?_, bs ++ [b], ?_, by rw [step, e]⟩
                · rw [List.length_map]; exact small1000 (by omega)
                · rw [upd_upd, List.map_append]; rfl
              refine ite2 (fun e => put _ (by unfold signS letS; rw [of_decide_eq_true e |> decide_eq_true]; rfl)) (fun e => ?_)
              refine ⟨_, rfl, c1, digT, rfl, rfl, put _ ?_⟩
              unfold signS letS
              rw [eq_false_of_ne_true e]
              rfl
            · rintro H1 ⟨bs, rfl, hbs⟩
              refine ⟨D, bs, rfl, .inl (.inl upd_same), q' _ _ ?_ (same_upd nD)⟩
              have e : z.cps.size = z.cps.toList.length := by simp
              rw [e, List.take_length] at hbs
              unfold nameS
              rw [hd0, decide_eq_true (show 1 ≤ z.cps.size ∧ z.cps.size ≤ 8 from ⟨h1, h8⟩), show letS c = true from decide_eq_true hl, hbs, List.all_map]
              rfl
          · refine iteF2 (decide_eq_false hl) (q' _ _ ?_ fun _ _ e => e)
            unfold nameS
            rw [hd0, show letS c = false from decide_eq_false hl]
            simp
        · have e8 : decide (((z.length : Nat) : Int) ≤ 8) = false := by rw [len0]; exact decide_eq_false (by omega)
          rw [e8]
          refine iteT (q' _ _ ?_ fun _ _ e => e)
          unfold nameS
          rw [decide_eq_false (show ¬ (1 ≤ z.cps.size ∧ z.cps.size ≤ 8) by omega)]
          rfl
      · refine iteF2 (by rw [len0]; exact decide_eq_false (by omega)) ⟨_, rfl, iteT (q' _ _ ?_ fun _ _ e => e)⟩
        unfold nameS
        rw [decide_eq_false (show ¬ (1 ≤ z.cps.size ∧ z.cps.size ≤ 8) by omega)]
        rfl
    · exact ⟨_, rfl, x, .ty "str", .type t, .type "str", false, rfl, .ty _, ht, kit_ty hb, false, rfl, iteT (q _ fun _ _ e => e)⟩
/-! ### lists of texts as data -/
theorem canLay_strs : ∀ xs : List Str, (∀ x ∈ xs, PyData.strOk x = true) → PyData.canLayAll0 (xs.map PyData.str) = true
  | [], _ => by simp [PyData.canLayAll0]
  | x :: r, h => by simp [PyData.canLayAll0, PyData.canLay0, h x List.mem_cons_self, canLay_strs r fun y hy => h y (List.mem_cons_of_mem _ hy)]
theorem depth_strs : ∀ xs : List Str, PyData.depthAll (xs.map PyData.str) = 0
  | [] => by simp [PyData.depthAll]
  | n :: r => by simp [PyData.depthAll, PyData.depth, depth_strs r]
theorem shaped_strs {xs : List Str} (h : ∀ x ∈ xs, PyData.strOk x = true) : SeqAt.shaped (.list (xs.map PyData.str)) = true := by
  unfold SeqAt.shaped
  simp only [PyData.canLay0, PyData.depth, canLay_strs xs h, depth_strs]
  decide
theorem dpAll_strs {K : PySem.W.Frag} {H : Hp} : ∀ xs : List Str, DpAll K H (xs.map V.str) (xs.map PyData.str)
  | [] => .nil
  | n :: r => .cons (.str n) (dpAll_strs r)
theorem dp_strs {K : PySem.W.Frag} {H : Hp} {l : Addr} {xs : List Str} (h : SqL K H l (xs.map V.str)) : Dp K H (.ref l) (.list (xs.map PyData.str)) := .lst h (dpAll_strs xs)
theorem dp_nil {K : PySem.W.Frag} {H : Hp} {l : Addr} (h : H l = some (.lst [])) : Dp K H (.ref l) (.list []) := .lst (.inl (.inl h)) .nil
theorem shaped_nil : SeqAt.shaped (.list []) = true := by decide
theorem eqv_nil {α : Type} (f : α → PyData) : ∀ xs : List α, PyData.eqv (.list (xs.map f)) (.list []) = xs.isEmpty
  | [] => rfl
  | x :: r => by simp [PyData.eqv, PyData.eqvAll]
/-! ### the law's look at a name -/
theorem scLN : FnScope ["value", "letters", "sign"] ["value"] (defScope sLName) := ⟨rfl, rfl, rfl, by decide +kernel, rfl, by decide +kernel, by decide +kernel⟩
theorem sign_mem (c : Nat) : decide (c ∈ (letT ++ digT).cps.toList) = signS c := by
  have e : (letT ++ digT).cps.toList = letT.cps.toList ++ digT.cps.toList := Array.toList_append
  unfold signS letS
  rw [e, Bool.eq_iff_iff]
  simp
theorem ok_lname {f : Addr} {fd : FuncData} (F : Fun K "_law_is_name" "_law_is_name" sLName f fd) (mi : mg "isinstance" = none) (ms : mg "str" = none) (ml : mg "len" = none) : FnOk P w K mg base CX0 1 f fd ["value"] (spName K) := by
  refine F.ok scLN (fun vs H Q E h => ?_) (fun cdv A outer s H vs Q E hr h => ?_)
  · obtain ⟨x, o, rfl, _⟩ := h
    rfl
  · obtain ⟨x, o, rfl, hx, q⟩ := h
    refine ⟨_, pss_cons (ps_set (i := 1) scLN.nd rfl (.inr rfl) pe_str)
      (pss_cons (ps_if (PW.pt (pw_or (pt_not (pt_val (pe_callB call_isi (by rfl) mi (by decide +kernel) (pa_cons (pv 0) (pa_cons (pe_bltn (v := .ty "str") (by rfl) ms (by decide +kernel) rfl) pa_nil)))))
        (pw_or (pt_cmpR op_lt (pe_callB call_len_str (by rfl) ml PySem.boot_len (pa_cons (pv 0) pa_nil)) pe_int (by rfl))
        (pw_or (pt_cmpR op_gt (pe_callB call_len_str (by rfl) ml PySem.boot_len (pa_cons (pv 0) pa_nil)) pe_int (by rfl))
        (pw_or1 (pt_cmpR op_notInS (pe_item_str (pv 0) pe_int (fun _ _ => rfl)) (pv 1) (by rfl))))))) (pss_one (ps_ret pe_bl)) pss_nil)
      (pss_one (ps_ret (pe_cmpR (op_eqD hr.units)
          (pe_lc (own := [("sign", 2)]) (g := gName 2) rfl scLN.nd (pi_str (pv 0))
            (blkOk_by (own := [("sign", 2)]) (N := ["value", "letters", "sign"]) (sc := defScope sLName) (by decide +kernel))
            (fun _ _ _ _ _ => pg_name (i := 2) scLN.nd rfl (.inl rfl)) (fun _ _ _ _ _ => pts_one (pt_cmpR op_notInS (pv 2) (pe_op op_add_str (pv 1) pe_str) (by rfl)))
            (fun _ _ _ _ _ => pv 2)) (pe_lst pa_nil) (by rfl))))), ?_⟩
    have len0 : ∀ s : Str, s.length = s.cps.size := fun _ => rfl
    rcases hx with ⟨z, rfl, rfl, hz4, hzo⟩ | ⟨rfl, t, ht, hb⟩
    · have hz : z.length ≤ sizeLine := by rw [sizeLine_eq]; omega
      refine ⟨_, rfl, .str z, .ty "str", .type "str", .type "str", true, rfl, .ty _, .base (.str z), kit_ty (by decide +kernel), true, rfl, iteF ?_⟩
      have q' : ∀ b H', nameS z = b → Same H H' → Q (.bl b) H' := fun b H' e sm => by
        subst e
        exact q H' sm
      refine ⟨_, rfl, z, rfl, hz, _, _, rfl, rfl, _, rfl, ?_⟩
      by_cases h1 : 1 ≤ z.cps.size
      · refine iteF2 (by rw [len0]; exact decide_eq_false (by omega)) ?_
        refine ⟨_, rfl, z, rfl, hz, _, _, rfl, rfl, _, rfl, ?_⟩
        by_cases h8 : z.cps.size ≤ 8
        · refine iteF2 (by rw [len0]; exact decide_eq_false (by omega)) ?_
          obtain ⟨c, hc⟩ : ∃ c, z.cps[0]? = some c := ⟨_, Array.getElem?_eq_getElem (by omega)⟩
          have hd0 : z.cps.getD 0 0 = c := by
            rw [Array.getD_eq_getD_getElem?, hc]
            rfl
          refine ⟨_, rfl, z, 0, c, rfl, rfl, by decide, by decide, by rw [len0]; omega, hc, _, rfl, c, letT, rfl, rfl, _, rfl, ?_⟩
          by_cases hl : c ∈ letT.cps.toList
          · refine iteF2 (by rw [decide_eq_true hl]; rfl) ?_
            refine ⟨_, rfl, z, rfl, fun D nD => ?_⟩
            refine lc_it walk_str (fun i H1 => ∃ bs : List Nat, H1 = upd H D (.lst (bs.map fun c => V.str ⟨#[c]⟩)) ∧ bs = (z.cps.toList.take i).filter (fun c => !signS c)) ⟨[], rfl, rfl⟩ (fun _ _ _ _ => trivial) ?_ ?_
            · rintro i x H1 H2 hi ⟨bs, rfl, hbs⟩ ⟨rfl, c1, hc1, rfl⟩
              have hil : bs.length < 9 := by
                have h2 := List.length_filter_le (fun c => !signS c) (z.cps.toList.take i)
                rw [List.length_take] at h2
                rw [hbs]
                omega
              have step : (z.cps.toList.take (i + 1)).filter (fun c => !signS c) = bs ++ (if signS c1 = true then [] else [c1]) := by
                rw [hbs, List.take_succ, List.filter_append, Array.getElem?_toList, hc1]
                cases e : signS c1 <;> simp [e]
              refine ⟨rfl, _, rfl, _, rfl, letT, digT, rfl, rfl, by decide +kernel, c1, _, rfl, rfl, _, rfl, ?_⟩
              rw [sign_mem]
              cases e : signS c1 with
              | true =>
                refine iteF2 rfl ⟨bs, rfl, ?_⟩
                rw [step, e]
                simp
              | false =>
                refine iteT2 rfl ⟨_, rfl, _, upd_same, ?_, bs ++ [c1], ?_, ?_⟩
                · rw [List.length_map]; exact small1000 (by omega)
                · rw [upd_upd, List.map_append]; rfl
                · rw [step, e]
                  rfl
            · rintro H1 ⟨bs, rfl, hbs⟩
              have e : z.cps.size = z.cps.toList.length := by simp
              rw [e, List.take_length] at hbs
              refine ⟨by show 0 ≤ sizeLine; exact Nat.zero_le _, fun l nl => ?_⟩
              have nDl : D ≠ l := by
                rintro rfl
                rw [upd_same] at nl
                cases nl
              have hm : (bs.map fun c => V.str ⟨#[c]⟩) = (bs.map fun c => (⟨#[c]⟩ : Str)).map V.str := by rw [List.map_map]; rfl
              refine ⟨_, _, dp_strs (xs := bs.map fun c => (⟨#[c]⟩ : Str)) (.inl (.inl (by rw [upd_ne nDl, upd_same, hm]))), dp_nil upd_same, shaped_strs fun x hx => ?_, shaped_nil, ?_⟩
              · obtain ⟨c2, hc2, rfl⟩ := List.mem_map.mp hx
                rw [hbs] at hc2
                have hc3 := (List.mem_filter.mp hc2).1
                have h3 : ∀ c ∈ z.cps.toList, c < 0x110000 := by
                  unfold PyData.strOk at hzo
                  rw [Array.all_eq_true'] at hzo
                  exact fun c hc => of_decide_eq_true (hzo c (Array.mem_toList_iff.mp hc))
                have h4 := h3 _ hc3
                unfold PyData.strOk
                simp [h4]
              · refine q' _ _ ?_ fun b o e => ?_
                · rw [eqv_nil, List.isEmpty_map, hbs]
                  unfold nameS
                  rw [hd0, decide_eq_true (show 1 ≤ z.cps.size ∧ z.cps.size ≤ 8 from ⟨h1, h8⟩), show letS c = true from decide_eq_true hl, Bool.eq_iff_iff, List.isEmpty_iff, List.filter_eq_nil_iff, Bool.and_true, Bool.true_and, List.all_eq_true]
                  constructor
                  · intro h c hc
                    exact h c hc |> fun z => by simpa using z
                  · intro h c hc
                    simpa using h c hc
                · rw [upd_ne (ne_of_none (by rw [upd_ne (ne_of_none e nD)]; exact e) nl), upd_ne (ne_of_none e nD)]
                  exact e
          · refine iteT2 (by rw [decide_eq_false hl]; rfl) (q' _ _ ?_ fun _ _ e => e)
            unfold nameS
            rw [hd0, show letS c = false from decide_eq_false hl]
            simp
        · refine iteT2 (by rw [len0]; exact decide_eq_true (by omega)) (q' _ _ ?_ fun _ _ e => e)
          unfold nameS
          rw [decide_eq_false (show ¬ (1 ≤ z.cps.size ∧ z.cps.size ≤ 8) by omega)]
          rfl
      · refine iteT2 (by rw [len0]; exact decide_eq_true (by omega)) (q' _ _ ?_ fun _ _ e => e)
        unfold nameS
        rw [decide_eq_false (show ¬ (1 ≤ z.cps.size ∧ z.cps.size ≤ 8) by omega)]
        rfl
    · exact ⟨_, rfl, x, .ty "str", .type t, .type "str", false, rfl, .ty _, ht, kit_ty hb, false, rfl, iteT (q _ fun _ _ e => e)⟩
end
end N1

set_option Elab.async false
set_option linter.all false
set_option maxRecDepth 100000
set_option maxHeartbeats 2000000
namespace N2
open PySem PySem.Spec PyProof.Rows L2 Cau Dr27 N1
abbrev sIsDeed : Stmt := topS 19
/-! ### values -/
def AtomV : V → Bool
  | .non | .bl _ => true
  | .int i => decide (0 ≤ i ∧ i < 10)
  | .str s => decide (s.length ≤ 4000) && PyData.strOk s
  | _ => false
def txtOf : V → Option Str
  | .str s => some s
  | _ => none
def nameV (v : V) : Bool := nameO (txtOf v)
theorem tx_atom {K : PySem.W.Frag} {H : Hp} {v : V} (h : AtomV v = true) : Tx K H v (txtOf v) := by
  cases v with
  | non => exact .inr ⟨rfl, "NoneType", .base .non, by decide +kernel⟩
  | bl b => exact .inr ⟨rfl, "bool", .base (.bl b), by decide +kernel⟩
  | int i => exact .inr ⟨rfl, "int", .base (.int i), by decide +kernel⟩
  | str s =>
    unfold AtomV at h
    simp only [Bool.and_eq_true, decide_eq_true_eq] at h
    exact .inl ⟨s, rfl, rfl, h.1, h.2⟩
  | _ => cases h
theorem flat_atom {v : V} (h : AtomV v = true) : flatV v = true := by
  cases v <;> first | rfl | cases h
/-- no tuple -/
inductive NotTup (H : Hp) : V → Prop
  | atom {v : V} (h : AtomV v = true) : NotTup H v
  | lst {p : Addr} {xs : List V} (h : H p = some (.lst xs)) : NotTup H (.ref p)
  | dK {p : Addr} {kvs : List (Key × V)} (h : H p = some (.dK kvs)) : NotTup H (.ref p)
/-- neither list nor tuple -/
inductive NotSeq (H : Hp) : V → Prop
  | atom {v : V} (h : AtomV v = true) : NotSeq H v
  | dK {p : Addr} {kvs : List (Key × V)} (h : H p = some (.dK kvs)) : NotSeq H (.ref p)
theorem NotTup.same {H H' : Hp} {v : V} (h : NotTup H v) (s : Same H H') : NotTup H' v := by
  cases h with
  | atom h => exact .atom h
  | lst h => exact .lst (s _ _ h)
  | dK h => exact .dK (s _ _ h)
theorem NotSeq.same {H H' : Hp} {v : V} (h : NotSeq H v) (s : Same H H') : NotSeq H' v := by
  cases h with
  | atom h => exact .atom h
  | dK h => exact .dK (s _ _ h)
section
variable {K : PySem.W.Frag} {H H' : Hp} {v : V} {p : Addr} {xs : List V}
theorem atom_ty (h : AtomV v = true) : ∃ t, TyX K H v (.type t) ∧ kitB t "tuple" = some false ∧ kitB t "list" = some false := by
  cases v with
  | non => exact ⟨"NoneType", .base .non, by decide +kernel, by decide +kernel⟩
  | bl b => exact ⟨"bool", .base (.bl b), by decide +kernel, by decide +kernel⟩
  | int i => exact ⟨"int", .base (.int i), by decide +kernel, by decide +kernel⟩
  | str s => exact ⟨"str", .base (.str s), by decide +kernel, by decide +kernel⟩
  | _ => cases h
theorem NotTup.ty (h : NotTup H v) : ∃ t, TyX K H v (.type t) ∧ kitB t "tuple" = some false := by
  cases h with
  | atom h =>
    obtain ⟨t, a, b, _⟩ := atom_ty (K := K) (H := H) h
    exact ⟨t, a, b⟩
  | lst h => exact ⟨"list", .base (.lst h), by decide +kernel⟩
  | dK h => exact ⟨"dict", .base (.dK h), by decide +kernel⟩
theorem NotSeq.ty (h : NotSeq H v) : ∃ t, TyX K H v (.type t) ∧ kitB t "tuple" = some false ∧ kitB t "list" = some false := by
  cases h with
  | atom h => exact atom_ty h
  | dK h => exact ⟨"dict", .base (.dK h), by decide +kernel, by decide +kernel⟩
theorem sqT_ty (h : SqT K H p xs) : TyX K H (.ref p) (.type "tuple") := by
  rcases h with (h | ⟨o, h⟩) | ⟨o, its, n, h, c, _⟩
  · exact .base (.tup h)
  · exact .fTuple h
  · exact .kTuple h c
theorem sqL_ty (h : SqL K H p xs) : TyX K H (.ref p) (.type "list") := by
  rcases h with (h | ⟨o, h⟩) | ⟨o, its, n, h, c, _⟩
  · exact .base (.lst h)
  · exact .base (.frz h)
  · exact .kList h c
theorem sqT_same (h : SqT K H p xs) (s : Same H H') : SqT K H' p xs := by
  rcases h with (h | ⟨o, h⟩) | h
  · exact .inl (.inl (s _ _ h))
  · exact .inl (.inr ⟨o, s _ _ h⟩)
  · exact .inr h
theorem same_rfl : Same H H := fun _ _ e => e
theorem sqT_len {X : Cx} {pins : List (Addr × Obj)} {σ : L2.St} {s : Shared} (I : Inv X pins σ H s) (h : SqT X.K H p xs) : xs.length ≤ sizeLine := by
  obtain ⟨_, _, _, hz⟩ := I.tuple h
  exact hz
end
/-! ### deeds -/
def formsL : List (Str × Nat) := [("meet", 4), ("upright", 5), ("gauge", 2), ("dividers", 4), ("halver", 5), ("strip", 5), ("disc", 2), ("rims", 4), ("corner", 4), ("compass", 4), ("circles", 4)]
def waysL : List Str := ["disc", "rims", "corner", "compass", "circles"]
def formOf (w : Str) : Option Nat := formsL.lookup w
def wayW (w : Str) : Bool := waysL.any fun x => x == w
def wayV (v : V) : Bool := decide (v = .int 1) || decide (v = .int 2)
/-- the items of a deed -/
def deedL (xs : List V) : Bool :=
  match xs with
  | [] => false
  | v :: r => match txtOf v with
    | none => false
    | some w => match formOf w with
      | none => false
      | some k => (r.take k).all nameV && (if wayW w = true then decide (r.length = k + 1) && wayV (r.getLastD .non) else decide (r.length = k))
theorem formOf_small {w : Str} {k : Nat} (h : formOf w = some k) : 2 ≤ k ∧ k ≤ 5 := by
  have all : ∀ p ∈ formsL, 2 ≤ p.2 ∧ p.2 ≤ 5 := by decide +kernel
  exact all (w, k) (PySem.mem_of_lookup h)
/-- the table of the words, as the program has written it -/
structure FormsK (K : PySem.W.Frag) (w : World) (d : Addr) : Prop where
  ex : ∃ (es : Array DictEntry) (n : Nat), KDict K w d es n
  no : ∀ z, formOf z = none → PySem.W.nsIn K d z = some none
  yes : ∀ z k, formOf z = some k → ∃ t, PySem.W.nsIn K d z = some (some (.int k t))
def WordsK (K : PySem.W.Frag) (d : Addr) (ws : List Str) : Prop := ∀ H, SqT K H d (ws.map V.str)
/-- a value as a deed: its items, or none -/
def Dd (K : PySem.W.Frag) (H : Hp) (x : V) (o : Option (List V)) : Prop := (∃ p xs, x = .ref p ∧ SqT K H p xs ∧ xs.all AtomV = true ∧ xs.length ≤ 100 ∧ o = some xs) ∨ (NotTup H x ∧ o = none)
def deedO : Option (List V) → Bool
  | some xs => deedL xs
  | none => false
theorem Dd.same {K : PySem.W.Frag} {H H' : Hp} {x : V} {o : Option (List V)} (h : Dd K H x o) (s : Same H H') : Dd K H' x o := by
  rcases h with ⟨p, xs, e, h, r⟩ | ⟨h, r⟩
  · exact .inl ⟨p, xs, e, sqT_same h s, r⟩
  · exact .inr ⟨h.same s, r⟩
def spDeed (K : PySem.W.Frag) : Sp := fun vs H Q _ => ∃ (x : V) (o : Option (List V)), vs = [x] ∧ Dd K H x o ∧ ∀ H', Same H H' → Q (.bl (deedO o)) H'
/-! ### small defs -/
def spWhole (K : PySem.W.Frag) : Sp := fun vs H Q _ => ∃ x : V, vs = [x] ∧ AtomV x = true ∧ Q (.bl (match x with | .int _ => true | _ => false)) H
def spTupleOf (K : PySem.W.Frag) : Sp := fun vs H Q _ => ∃ (x : V) (n : Nat) (b : Bool), vs = [x, .int n] ∧ ((∃ p xs, x = .ref p ∧ SqT K H p xs ∧ b = decide (xs.length = n)) ∨ (NotTup H x ∧ b = false)) ∧ Q (.bl b) H
/-- list or tuple, or neither -/
def Lv (K : PySem.W.Frag) (H : Hp) (x : V) (o : Option (List V)) : Prop := (∃ p xs, x = .ref p ∧ (SqL K H p xs ∨ SqT K H p xs) ∧ o = some xs) ∨ (NotSeq H x ∧ o = none)
def spIsList (K : PySem.W.Frag) : Sp := fun vs H Q _ => ∃ (x : V) (o : Option (List V)), vs = [x] ∧ Lv K H x o ∧ ∀ H', Same H H' → Q (.bl o.isSome) H'
section
variable {P : Program} {w : World} {K : PySem.W.Frag} {mg : Str → Option Value} {base : Heap}
theorem scW : FnScope ["value"] ["value"] (defScope sIsWhole) := ⟨rfl, rfl, rfl, by decide +kernel, rfl, by decide +kernel, by decide +kernel⟩
theorem ok_whole {f : Addr} {fd : FuncData} (F : Fun K "is_whole" "is_whole" sIsWhole f fd) (mi : mg "isinstance" = none) (mint : mg "int" = none) (mb : mg "bool" = none) : FnOk P w K mg base CX0 1 f fd ["value"] (spWhole K) := by
  refine F.ok scW (fun vs H Q E h => ?_) (fun cdv A outer s H vs Q E hr h => ?_)
  · obtain ⟨x, rfl, _⟩ := h
    rfl
  · obtain ⟨x, rfl, hk, q⟩ := h
    refine ⟨_, pss_one (ps_ret (pe_and (pe_callB call_isi (by rfl) mi (by decide +kernel) (pa_cons (pv 0) (pa_cons (pe_bltn (v := .ty "int") (by rfl) mint (by decide +kernel) rfl) pa_nil)))
      (pe_one (pe_not (pe_callB call_isi (by rfl) mi (by decide +kernel) (pa_cons (pv 0) (pa_cons (pe_bltn (v := .ty "bool") (by rfl) mb (by decide +kernel) rfl) pa_nil))))))), ?_⟩
    cases x with
    | non => exact ⟨_, rfl, .non, .ty "int", .type "NoneType", .type "int", false, rfl, .ty _, .base .non, kit_ty (by decide +kernel), false, rfl, iteF q⟩
    | str z => exact ⟨_, rfl, .str z, .ty "int", .type "str", .type "int", false, rfl, .ty _, .base (.str z), kit_ty (by decide +kernel), false, rfl, iteF q⟩
    | int i =>
      refine ⟨_, rfl, .int i, .ty "int", .type "int", .type "int", true, rfl, .ty _, .base (.int i), kit_ty (by decide +kernel), true, rfl, iteT ?_⟩
      exact ⟨_, rfl, .int i, .ty "bool", .type "int", .type "bool", false, rfl, .ty _, .base (.int i), kit_ty (by decide +kernel), false, rfl, q⟩
    | bl c =>
      refine ⟨_, rfl, .bl c, .ty "int", .type "bool", .type "int", true, rfl, .ty _, .base (.bl c), kit_ty (by decide +kernel), true, rfl, iteT ?_⟩
      exact ⟨_, rfl, .bl c, .ty "bool", .type "bool", .type "bool", true, rfl, .ty _, .base (.bl c), kit_ty (by decide +kernel), true, rfl, q⟩
    | _ => cases hk
theorem scT : FnScope ["value", "size"] ["value", "size"] (defScope sTupleOf) := ⟨rfl, rfl, rfl, by decide +kernel, rfl, by decide +kernel, by decide +kernel⟩
theorem ok_tupleOf {f : Addr} {fd : FuncData} (F : Fun K "is_tuple_of" "is_tuple_of" sTupleOf f fd) (mi : mg "isinstance" = none) (mt : mg "tuple" = none) (ml : mg "len" = none) : FnOk P w K mg base CX0 1 f fd ["value", "size"] (spTupleOf K) := by
  refine F.ok scT (fun vs H Q E h => ?_) (fun cdv A outer s H vs Q E hr h => ?_)
  · obtain ⟨x, n, b, rfl, _⟩ := h
    rfl
  · obtain ⟨x, n, b, rfl, hk, q⟩ := h
    refine ⟨_, pss_one (ps_ret (pe_and (pe_callB call_isi (by rfl) mi (by decide +kernel) (pa_cons (pv 0) (pa_cons (pe_bltn (v := .ty "tuple") (by rfl) mt (by decide +kernel) rfl) pa_nil)))
      (pe_one (pe_cmpR op_eq (pe_callB call_len_seq (by rfl) ml PySem.boot_len (pa_cons (pv 0) pa_nil)) (pv 1) (nomark _))))), ?_⟩
    rcases hk with ⟨p, xs, rfl, hp, rfl⟩ | ⟨hn, rfl⟩
    · refine ⟨_, rfl, .ref p, .ty "tuple", .type "tuple", .type "tuple", true, rfl, .ty _, sqT_ty hp, kit_ty (by decide +kernel), true, rfl, iteT ?_⟩
      refine ⟨_, rfl, p, xs, rfl, .inr hp, _, rfl, rfl, ?_⟩
      have e : decide (V.int ((xs.length : Nat) : Int) = V.int ((n : Nat) : Int)) = decide (xs.length = n) := by
        rw [Bool.eq_iff_iff]
        simp
        omega
      rw [e]
      exact q
    · obtain ⟨t, ht, hb⟩ := hn.ty (K := K)
      exact ⟨_, rfl, x, .ty "tuple", .type t, .type "tuple", false, rfl, .ty _, ht, kit_ty hb, false, rfl, iteF q⟩
theorem scI : FnScope ["value"] ["value"] (defScope sIsList) := ⟨rfl, rfl, rfl, by decide +kernel, rfl, by decide +kernel, by decide +kernel⟩
theorem isi_lt {H : Hp} {x : V} {o : Option (List V)} (h : Lv K H x o) : ∃ t, TyX K H x t ∧ PySem.W.kitAny K t [.type "list", .type "tuple"] = some o.isSome := by
  rcases h with ⟨p, xs, rfl, h | h, rfl⟩ | ⟨h, rfl⟩
  · exact ⟨_, sqL_ty h, kitAny_cons (b := true) (kit_ty (by decide +kernel)) (fun z => by cases z) (fun _ => rfl)⟩
  · exact ⟨_, sqT_ty h, kitAny_cons (b := false) (kit_ty (by decide +kernel)) (fun _ => kitAny_cons (b := true) (kit_ty (by decide +kernel)) (fun z => by cases z) (fun _ => rfl)) (fun z => by cases z)⟩
  · obtain ⟨t, ht, h1, h2⟩ := h.ty (K := K)
    exact ⟨_, ht, kitAny_cons (b := false) (kit_ty h2) (fun _ => kitAny_cons (b := false) (kit_ty h1) (fun _ => kitAny_nil) (fun z => by cases z)) (fun z => by cases z)⟩
theorem lv_same {H H' : Hp} {x : V} {o : Option (List V)} (h : Lv K H x o) (s : Same H H') : Lv K H' x o := by
  rcases h with ⟨p, xs, e, h | h, r⟩ | ⟨h, r⟩
  · exact .inl ⟨p, xs, e, .inl (s.seq h), r⟩
  · exact .inl ⟨p, xs, e, .inr (sqT_same h s), r⟩
  · exact .inr ⟨h.same s, r⟩
theorem ok_isList {f : Addr} {fd : FuncData} (F : Fun K "is_list" "is_list" sIsList f fd) (mi : mg "isinstance" = none) (mt : mg "tuple" = none) (ml : mg "list" = none) : FnOk P w K mg base CX0 1 f fd ["value"] (spIsList K) := by
  refine F.ok scI (fun vs H Q E h => ?_) (fun cdv A outer s H vs Q E hr h => ?_)
  · obtain ⟨x, o, rfl, _⟩ := h
    rfl
  · obtain ⟨x, o, rfl, hx, q⟩ := h
    refine ⟨_, pss_one (ps_ret (pe_callB call_isiT (by rfl) mi (by decide +kernel) (pa_cons (pv 0) (pa_cons (pe_tup (pa_cons (pe_bltn (v := .ty "list") (by rfl) ml (by decide +kernel) rfl) (pa_cons (pe_bltn (v := .ty "tuple") (by rfl) mt (by decide +kernel) rfl) pa_nil))) pa_nil)))), ?_⟩
    refine ⟨_, rfl, by show 2 ≤ sizeLine; decide, fun t nt => ?_⟩
    obtain ⟨ty, h1, h2⟩ := isi_lt (lv_same hx (same_upd (o := .tup [.ty "list", .ty "tuple"]) nt))
    exact ⟨x, t, [.ty "list", .ty "tuple"], ty, [.type "list", .type "tuple"], o.isSome, rfl, upd_same, .cons (.ty _) (.cons (.ty _) .nil), h1, h2, q _ (same_upd nt)⟩
/-! ### is_deed -/
theorem cut_1 (v : V) (r : List V) (k : Nat) : cutV (v :: r) (some 1) (some ((k : Int) + 1)) = r.take k := by
  have e : ((k : Int) + 1) = ((k + 1 : Nat) : Int) := by omega
  unfold cutV
  rw [e, HT.sIx_nat, show (some (1 : Int)) = some ((1 : Nat) : Int) from rfl, HT.sIx_nat]
  have h1 : min 1 (v :: r).length = 1 := by simp
  rw [h1]
  show (r.take (min (k + 1) (r.length + 1) - 1)) = r.take k
  have h2 : min (k + 1) (r.length + 1) - 1 = min k r.length := by omega
  rw [h2, List.take_eq_take_iff]
  try omega
theorem _root_.PySem.Spec.same_none {H H' : Hp} {D : Addr} (s : Same H H') (n : H' D = none) : H D = none := by
  cases e : H D with
  | none => rfl
  | some u =>
    rw [s _ _ e] at n
    cases n
theorem same_put {H H' : Hp} {D : Addr} {o : HO} (s : Same H H') (n : H D = none) : Same H (upd H' D o) := fun b u e => by
  rw [upd_ne (ne_of_none e n)]
  exact s b u e
theorem scD : FnScope ["value", "word", "many", "name"] ["value"] (defScope sIsDeed) := ⟨rfl, rfl, rfl, by decide +kernel, rfl, by decide +kernel, by decide +kernel⟩
theorem inV_strs (z : Str) (ws : List Str) : inV (.str z) (ws.map V.str) = ws.any fun x => x == z := by
  unfold inV
  rw [List.any_map]
  rfl
theorem strs_flat (ws : List Str) : (ws.map V.str).all flatV = true := by
  rw [List.all_map, List.all_eq_true]
  intro _ _
  rfl
theorem ok_deed {f fN fW d1 d2 : Addr} {fd fdN fdW : FuncData} (F : Fun K "is_deed" "is_deed" sIsDeed f fd) (FN : Fun K "is_name" "is_name" sIsName fN fdN) (GN : FnOk P w K mg base CX0 1 fN fdN ["value"] (spName K)) (bN : Binds K fdN ["value"] []) (gN : mg "is_name" = some (.ref fN))
    (FW : Fun K "is_whole" "is_whole" sIsWhole fW fdW) (GW : FnOk P w K mg base CX0 1 fW fdW ["value"] (spWhole K)) (bW : Binds K fdW ["value"] []) (gW : mg "is_whole" = some (.ref fW))
    (T : FormsK K w d1) (gT : mg "NAME_COUNTS" = some (.ref d1)) (Ws : WordsK K d2 waysL) (gWs : mg "WORDS_WITH_WAYS" = some (.ref d2))
    (mi : mg "isinstance" = none) (mt : mg "tuple" = none) (ms : mg "str" = none) (ml : mg "len" = none) (ma : mg "all" = none) : FnOk P w K mg base CX0 2 f fd ["value"] (spDeed K) := by
  refine F.ok scD (fun vs H Q E h => ?_) (fun cdv A outer s H vs Q E hr h => ?_)
  · obtain ⟨x, o, rfl, _⟩ := h
    rfl
  · obtain ⟨x, o, rfl, hx, q⟩ := h
    obtain ⟨es, nn, KD⟩ := T.ex
    refine ⟨_, pss_cons (ps_if (PW.pt (pw_or (pt_not (pt_val (pe_callB call_isi (by rfl) mi (by decide +kernel) (pa_cons (pv 0) (pa_cons (pe_bltn (v := .ty "tuple") (by rfl) mt (by decide +kernel) rfl) pa_nil)))))
        (pw_or1 (pt_cmpR op_eq (pe_callB call_len_seq (by rfl) ml PySem.boot_len (pa_cons (pv 0) pa_nil)) pe_int (nomark _))))) (pss_one (ps_ret pe_bl)) pss_nil)
      (pss_cons (ps_set (i := 1) scD.nd rfl (.inl rfl) (pe_ix ix_tup (pv 0) pe_int (fun _ _ => rfl)))
      (pss_cons (ps_if (PW.pt (pw_or (pt_not (pt_val (pe_callB call_isi (by rfl) mi (by decide +kernel) (pa_cons (pv 1) (pa_cons (pe_bltn (v := .ty "str") (by rfl) ms (by decide +kernel) rfl) pa_nil)))))
        (pw_or1 (pt_cmpR (op_notIn_kd KD) (pv 1) (pe_glob (v := .ref d1) (by rfl) gT rfl) (by rfl))))) (pss_one (ps_ret pe_bl)) pss_nil)
      (pss_cons (ps_set (i := 2) scD.nd rfl (.inl rfl) (pe_ix ix_kdict (pe_glob (v := .ref d1) (by rfl) gT rfl) (pv 1) (fun _ _ => rfl)))
      (pss_cons (ps_if (pt_not (pt_val (pe_callB (cr_all rfl) (by rfl) ma (by decide +kernel) (pa_cons
          (pe_lc (own := [("name", 3)]) (g := gName 3) (tt := tYes) rfl scD.nd (pi_tup (pe_slice sl_tup (pv 0) (po_some pe_int) (po_some (pe_op op_add (pv 2) pe_int))))
            (blkOk_by (own := [("name", 3)]) (N := ["value", "word", "many", "name"]) (sc := defScope sIsDeed) (by decide +kernel))
            (fun _ _ _ _ _ => pg_name (i := 3) scD.nd rfl (.inl rfl)) (fun _ _ _ _ _ => pts_nil)
            (fun _ _ _ _ _ => pe_call GN (hr.mono (by decide)) (by rfl) gN FN.kp bN .nil pass0 (pa_cons (pv 3) pa_nil))) pa_nil)))) (pss_one (ps_ret pe_bl)) pss_nil)
      (pss_cons (ps_if (pt_cmpR op_in_seq (pv 1) (pe_glob (v := .ref d2) (by rfl) gWs rfl) (by rfl))
        (pss_one (ps_ret (pe_and (pe_cmpR op_eq (pe_callB call_len_seq (by rfl) ml PySem.boot_len (pa_cons (pv 0) pa_nil)) (pe_op op_add (pv 2) pe_int) (nomark _))
          (pe_and (pe_call GW (hr.mono (by decide)) (by rfl) gW FW.kp bW .nil pass0 (pa_cons (pe_ix ix_tup (pv 0) (pe_un un_neg pe_int) (fun _ _ => rfl)) pa_nil))
          (pe_one (pe_cmpR op_in_seq (pe_ix ix_tup (pv 0) (pe_un un_neg pe_int) (fun _ _ => rfl)) (pe_tup (pa_cons pe_int (pa_cons pe_int pa_nil))) (by rfl))))))) pss_nil)
      (pss_one (ps_ret (pe_cmpR op_eq (pe_callB call_len_seq (by rfl) ml PySem.boot_len (pa_cons (pv 0) pa_nil)) (pe_op op_add (pv 2) pe_int) (nomark _))))))))), ?_⟩
    have q' : ∀ b H', deedO o = b → Same H H' → Q (.bl b) H' := fun b H' e sm => by
      subst e
      exact q H' sm
    rcases hx with ⟨p, xs, rfl, hp, hat, hlen, rfl⟩ | ⟨hn, rfl⟩
    · refine ⟨_, rfl, .ref p, .ty "tuple", .type "tuple", .type "tuple", true, rfl, .ty _, sqT_ty hp, kit_ty (by decide +kernel), true, rfl, iteF ?_⟩
      refine ⟨_, rfl, p, xs, rfl, .inr hp, rfl, _, rfl, ?_⟩
      cases xs with
      | nil => exact iteT2 rfl (q' _ _ rfl same_rfl)
      | cons v r =>
        refine iteF2 (decide_eq_false fun z => by simp at z; omega) ?_
        refine ⟨_, rfl, p, _, 0, v, rfl, rfl, hp, atI_nat (j := 0) rfl, ?_⟩
        have hv : AtomV v = true := List.all_eq_true.mp hat v List.mem_cons_self
        have hr' : ∀ y ∈ r, AtomV y = true := fun y hy => List.all_eq_true.mp hat y (List.mem_cons_of_mem _ hy)
        rcases tx_atom (K := K) (H := H) hv with ⟨z, rfl, hz, _⟩ | ⟨hz, t, ht, hb⟩
        · refine ⟨_, rfl, .str z, .ty "str", .type "str", .type "str", true, rfl, .ty _, .base (.str z), kit_ty (by decide +kernel), true, rfl, iteF ?_⟩
          cases hf : formOf z with
          | none =>
            refine ⟨_, rfl, z, _, rfl, rfl, T.no z hf, _, rfl, iteT2 rfl (q' _ _ ?_ same_rfl)⟩
            show deedL (.str z :: r) = false
            unfold deedL
            simp only [txtOf, hf]
          | some k =>
            obtain ⟨t1, ht1⟩ := T.yes z k hf
            obtain ⟨hk2, hk5⟩ := formOf_small hf
            have dl : deedL (.str z :: r) = ((r.take k).all nameV && (if wayW z = true then decide (r.length = k + 1) && wayV (r.getLastD .non) else decide (r.length = k))) := by
              unfold deedL
              simp only [txtOf, hf]
            refine ⟨_, rfl, z, _, rfl, rfl, ht1, _, rfl, iteF2 rfl ?_⟩
            refine ⟨_, rfl, d1, z, .int k, rfl, rfl, ⟨es, nn, _, KD.at_, KD.lit, ht1, _, rfl⟩, ?_⟩
            -- the names
            refine ⟨_, rfl, _, rfl, _, rfl, _, _, rfl, rfl, _, rfl, p, _, rfl, hp, ?_, fun sp nsp => ?_⟩
            · rintro ⟨z1, _⟩
              have e1 : HT.sIx ((V.str z :: r).length) 0 (some ((1 : Nat) : Int)) = min 1 (V.str z :: r).length := HT.sIx_nat _ _ _
              have e2 : min 1 (V.str z :: r).length = 1 := by simp
              have z2 : HT.sIx ((V.str z :: r).length) 0 (some ((1 : Nat) : Int)) = 0 := z1
              omega
            rw [show ((k : Nat) : Int) + 1 = (k : Int) + 1 from rfl, cut_1]
            have S1 : Same H (upd H sp (.tup (r.take k))) := same_upd nsp
            refine ⟨sp, rfl, ⟨_, .inl (.inl upd_same)⟩, fun D nD => ?_⟩
            have S2 : Same (upd H sp (.tup (r.take k))) (upd (upd H sp (.tup (r.take k))) D (.lst [])) := same_upd nD
            have at_ : ∀ (i : Nat) (x : V), (r.take k)[i]? = some x → AtomV x = true := fun i x hx => hr' x (List.mem_of_mem_take (List.mem_of_getElem? hx))
            refine lc_it (walk_tup (K := K) (a := sp) (xs := r.take k)) (fun i H1 => ∃ bs : List Bool, H1 D = some (.lst (bs.map V.bl)) ∧ bs = ((r.take k).take i).map nameV ∧ Same (upd H sp (.tup (r.take k))) H1) ⟨[], upd_same, rfl, S2⟩ ?_ ?_ ?_
            · rintro i H1 _ ⟨bs, _, _, sm⟩
              exact .inl (.inl (sm _ _ upd_same))
            · rintro i x H1 H2 hi ⟨bs, hD, hbs, sm⟩ ⟨rfl, hx⟩
              refine ⟨rfl, _, rfl, x, _, rfl, tx_atom (at_ i x hx), fun H3 sm3 => ⟨_, sm3 _ _ hD, ?_, bs ++ [nameV x], by rw [upd_same, List.map_append]; rfl, ?_, same_put (sm.trans sm3) nD⟩⟩
              · rw [List.length_map, hbs, List.length_map, List.length_take, List.length_take]
                exact small1000 (by omega)
              · rw [List.take_succ, List.map_append, hx, hbs]
                rfl
            · rintro H1 ⟨bs, hD, hbs, sm⟩
              rw [List.take_length] at hbs
              have S3 := S1.trans sm
              refine ⟨D, bs, rfl, .inl (.inl hD), _, rfl, ?_⟩
              have eall : bs.all id = (r.take k).all nameV := by
                rw [hbs, List.all_map]
                rfl
              rw [eall]
              cases e : (r.take k).all nameV with
              | false =>
                refine iteT2 rfl (q' _ _ ?_ S3)
                show deedL (.str z :: r) = false
                rw [dl, e]
                rfl
              | true =>
                refine iteF2 rfl ?_
                refine ⟨_, rfl, d2, waysL.map V.str, rfl, .inr (Ws H1), rfl, strs_flat _, _, rfl, ?_⟩
                rw [inV_strs]
                have hp3 := sqT_same hp S3
                have el : decide (V.int (((V.str z :: r).length : Nat) : Int) = V.int ((k : Nat) + 2 : Int)) = decide (r.length = k + 1) := by
                  rw [Bool.eq_iff_iff]
                  simp
                  omega
                have el1 : decide (V.int (((V.str z :: r).length : Nat) : Int) = V.int ((k : Nat) + 1 : Int)) = decide (r.length = k) := by
                  rw [Bool.eq_iff_iff]
                  simp
                  omega
                show if (wayW z) = true then _ else _
                cases ew : wayW z with
                | false =>
                  refine iteF2 rfl ?_
                  refine ⟨_, rfl, p, _, rfl, .inr hp3, _, rfl, _, _, rfl, rfl, rfl, ?_⟩
                  refine q' _ _ ?_ S3
                  show deedL (.str z :: r) = _
                  rw [dl, e, ew, el1]
                  rfl
                | true =>
                  refine iteT2 rfl ?_
                  refine ⟨_, rfl, p, _, rfl, .inr hp3, _, rfl, _, _, rfl, rfl, rfl, ?_⟩
                  have en : ∀ b, (if wayW z = true then decide (r.length = k + 1) && wayV (r.getLastD .non) else decide (r.length = k)) = b → deedO (some (V.str z :: r)) = b := fun b eb => by
                    show deedL (.str z :: r) = b
                    rw [dl, e, eb]
                    rfl
                  rw [if_pos ew] at en
                  refine ⟨_, rfl, ?_⟩
                  by_cases hl : r.length = k + 1
                  · refine iteT2 (el.trans (decide_eq_true hl)) ?_
                    obtain ⟨r', y, rfl⟩ : ∃ r' y, r = r' ++ [y] := by
                      rcases List.eq_nil_or_concat r with h0 | ⟨r', y, h0⟩
                      · rw [h0] at hl
                        simp at hl
                      · exact ⟨r', y, by rw [h0, List.concat_eq_append]⟩
                    have hy : AtomV y = true := hr' y (List.mem_append_right _ List.mem_cons_self)
                    have la : atI (V.str z :: (r' ++ [y])) (-1) = some y := atI_last (V.str z :: r') y
                    have gl : (r' ++ [y]).getLastD V.non = y := by simp
                    rw [gl, decide_eq_true hl, Bool.true_and] at en
                    refine ⟨_, rfl, 1, rfl, p, _, -1, y, rfl, rfl, hp3, la, y, rfl, hy, _, rfl, ?_⟩
                    cases y with
                    | int i =>
                      refine iteT2 rfl ?_
                      refine ⟨_, rfl, 1, rfl, p, _, -1, _, rfl, rfl, hp3, la, by show 2 ≤ sizeLine; decide, fun tp ntp => ?_⟩
                      refine ⟨tp, [.int 1, .int 2], rfl, .inr (.inl (.inl upd_same)), rfl, rfl, q' _ _ (en _ ?_) (same_put S3 (PySem.Spec.same_none S3 ntp))⟩
                      show (decide (V.int i = .int 1) || decide (V.int i = .int 2)) = ((1 == i) || ((2 == i) || false))
                      rw [Bool.eq_iff_iff]
                      simp
                      omega
                    | non => exact iteF2 rfl (q' _ _ (en _ rfl) S3)
                    | bl b => exact iteF2 rfl (q' _ _ (en _ rfl) S3)
                    | str b => exact iteF2 rfl (q' _ _ (en _ rfl) S3)
                    | _ => cases hy
                  · refine iteF2 (el.trans (decide_eq_false hl)) (q' _ _ (en _ ?_) S3)
                    rw [decide_eq_false hl]
                    rfl
        · refine ⟨_, rfl, v, .ty "str", .type t, .type "str", false, rfl, .ty _, ht, kit_ty hb, false, rfl, iteT (q' _ _ ?_ same_rfl)⟩
          show deedL (v :: r) = false
          unfold deedL
          simp only [hz]
    · obtain ⟨t, ht, hb⟩ := hn.ty (K := K)
      exact ⟨_, rfl, x, .ty "tuple", .type t, .type "tuple", false, rfl, .ty _, ht, kit_ty hb, false, rfl, iteT (q' _ _ rfl same_rfl)⟩
end
end N2

set_option Elab.async false
set_option linter.all false
set_option maxRecDepth 100000
set_option maxHeartbeats 2000000
namespace N3
open PySem PySem.Spec PyProof.Rows L2 Cau Dr27 N1 N2
abbrev sDeedNames : Stmt := topS 23
abbrev sLDeedNames : Stmt := topS 40
abbrev sForms : Stmt := topS 42
abbrev sHasWay : Stmt := topS 43
abbrev sLDeed : Stmt := topS 47
/-! ### repr of what is no list and no tuple -/
def shA : V → Str
  | .non => "None"
  | .bl b => if b then "True" else "False"
  | .int i => toString i
  | .str s => reprText s
  | _ => ""
def rReprA : List V → Hp → VK → Prop := fun xs H Q => ∃ v, xs = [v] ∧ AtomV v = true ∧ Q (.str (shA v)) H
theorem strOk_lt {x : Str} (h : PyData.strOk x = true) : ∀ c ∈ x.cps.toList, c < 0x110000 := by
  unfold PyData.strOk at h
  rw [Array.all_eq_true'] at h
  exact fun c hc => of_decide_eq_true (h c (Array.mem_toList_iff.mp hc))
theorem repr_fits {x : Str} (h : PyData.strOk x = true) (hl : x.length ≤ 4000) : (reprText x).length ≤ 40002 := by
  have := StrLaws.reprText_len x fun c hc => Nat.lt_trans (strOk_lt h c hc) (by decide)
  omega
theorem call_reprA {X : Cx} : CallR X (.builtin "repr") rReprA := by
  intro pins s σ H xs us Q I r ⟨v, hv, ha, q⟩
  subst hv
  obtain ⟨u, hu, ru⟩ := r.one
  subst hu
  have done : ∀ x t, Q (.str x) H → EP X pins σ Q (.str x t) { s with toks := s.toks + 1 } := fun x t q => ⟨.str x, H, I.tok _, ⟨_, rfl⟩, q⟩
  cases v with
  | non => cases (show u = Value.none from ru); exact PySem.P.repr_of_none (done _ _ q)
  | bl b => cases (show u = Value.bool b from ru); exact PySem.P.repr_of_bool (done _ _ q)
  | int i =>
    obtain ⟨t, rfl⟩ := ru
    have hi : 0 ≤ i ∧ i < 10 := of_decide_eq_true ha
    refine PySem.P.repr_of_int ?_ (done _ _ q)
    have h2 : i.natAbs < 10 := by omega
    have all : ∀ n, n < 10 → n.log2 < 1920 := by decide
    exact all _ h2
  | str z =>
    obtain ⟨t, rfl⟩ := ru
    simp only [AtomV, Bool.and_eq_true, decide_eq_true_eq] at ha
    exact PySem.P.repr_of_str (done _ _ q) (Nat.le_trans (repr_fits ha.2 ha.1) (by decide))
  | _ => cases ha
theorem str_ne_len {a b : Str} (h : a.length ≠ b.length) : (a == b) = false := beq_eq_false_iff_ne.mpr fun z => h (by rw [z])
theorem shA_way {v : V} (h : AtomV v = true) : inV (.str (shA v)) [.str "1", .str "2"] = wayV v := by
  cases v with
  | non => decide +kernel
  | bl b => cases b <;> decide +kernel
  | int i =>
    have hi : 0 ≤ i ∧ i < 10 := of_decide_eq_true h
    have all : ∀ n : Nat, n < 10 → inV (.str (shA (.int (n : Int)))) [.str "1", .str "2"] = wayV (.int (n : Int)) := by decide +kernel
    have e := all i.toNat (by omega)
    rw [Int.toNat_of_nonneg hi.1] at e
    exact e
  | str z =>
    have h2 := StrLaws.reprText_ge2 z
    have e1 : ((reprText z : Str) == ("1" : Str)) = false := str_ne_len (by
      have : ("1" : Str).length = 1 := by decide +kernel
      omega)
    have e2 : ((reprText z : Str) == ("2" : Str)) = false := str_ne_len (by
      have : ("2" : Str).length = 1 := by decide +kernel
      omega)
    show ((("1" : Str) == reprText z) || ((("2" : Str) == reprText z) || false)) = _
    rw [Bool.beq_comm, e1, Bool.beq_comm, e2]
    rfl
  | _ => cases h
/-! ### the law's tables -/
def formsD : List (Key × V) := formsL.map fun p => (.inr p.1, .int p.2)
theorem forms_new : mergeK [] formsD = formsD := by
  with_unfolding_all rfl
theorem forms_get (z : Str) : valV formsD (.inr z) = (formOf z).map fun k => V.int (k : Nat) := by
  have gen : ∀ l : List (Str × Nat), valV (l.map fun p => ((.inr p.1 : Key), V.int p.2)) (.inr z) = (l.lookup z).map fun k => V.int (k : Nat) := by
    intro l
    induction l with
    | nil => rfl
    | cons p r ih =>
      obtain ⟨a, k⟩ := p
      unfold valV at ih ⊢
      rw [List.map_cons, List.find?_cons, List.lookup_cons]
      by_cases h : z = a
      · subst h
        simp
      · have e1 : (z == a) = false := beq_eq_false_iff_ne.mpr h
        have e2 : decide ((Sum.inr a : Key) = Sum.inr z) = false := decide_eq_false fun q => h (Sum.inr.inj q).symm
        rw [e1]
        simp only [e2]
        exact ih
  exact gen formsL
def spForms : Sp := fun vs H Q _ => vs = [] ∧ ∀ p, H p = none → Q (.ref p) (upd H p (.dK formsD))
def spHasWay : Sp := fun vs H Q _ => ∃ z : Str, vs = [.str z] ∧ ∀ H', Same H H' → Q (.bl (wayW z)) H'
section
variable {P : Program} {w : World} {K : PySem.W.Frag} {mg : Str → Option Value} {base : Heap}
theorem scFo : FnScope [] [] (defScope sForms) := ⟨rfl, rfl, rfl, by decide +kernel, rfl, by decide +kernel, by decide +kernel⟩
theorem ok_forms {f : Addr} {fd : FuncData} (F : Fun K "_law_forms" "_law_forms" sForms f fd) : FnOk P w K mg base CX0 1 f fd [] spForms := by
  refine F.ok scFo (fun vs H Q E h => ?_) (fun cdv A outer s H vs Q E hr h => ?_)
  · obtain ⟨rfl, _⟩ := h
    rfl
  · obtain ⟨rfl, q⟩ := h
    refine ⟨_, pss_one (ps_ret (pe_disp (pps_cons pe_str pe_int (pps_cons pe_str pe_int (pps_cons pe_str pe_int (pps_cons pe_str pe_int (pps_cons pe_str pe_int (pps_cons pe_str pe_int (pps_cons pe_str pe_int (pps_cons pe_str pe_int
      (pps_cons pe_str pe_int (pps_cons pe_str pe_int (pps_cons pe_str pe_int pps_nil))))))))))) (by rfl) (by rfl) (fun z => by cases z) (by decide))), ?_⟩
    intro p np
    refine ⟨upd_same, formsD, rfl, by show 11 ≤ 15; decide, ?_⟩
    rw [upd_upd, forms_new]
    exact q p np
theorem scHW : FnScope ["word"] ["word"] (defScope sHasWay) := ⟨rfl, rfl, rfl, by decide +kernel, rfl, by decide +kernel, by decide +kernel⟩
theorem ok_hasWay {f : Addr} {fd : FuncData} (F : Fun K "_law_has_way" "_law_has_way" sHasWay f fd) : FnOk P w K mg base CX0 1 f fd ["word"] spHasWay := by
  refine F.ok scHW (fun vs H Q E h => ?_) (fun cdv A outer s H vs Q E hr h => ?_)
  · obtain ⟨z, rfl, _⟩ := h
    rfl
  · obtain ⟨z, rfl, q⟩ := h
    refine ⟨_, pss_one (ps_ret (pe_cmpR op_in_seq (pv 0) (pe_lst (pa_cons pe_str (pa_cons pe_str (pa_cons pe_str (pa_cons pe_str (pa_cons pe_str pa_nil)))))) (by rfl))), ?_⟩
    refine ⟨_, rfl, by show 5 ≤ sizeLine; decide, fun l nl => ?_⟩
    refine ⟨l, waysL.map V.str, rfl, .inl (.inl (.inl upd_same)), rfl, strs_flat _, ?_⟩
    rw [inV_strs]
    exact q _ (same_upd nl)
/-! ### the names of a deed -/
def spDN (K : PySem.W.Frag) : Sp := fun vs H Q _ => ∃ (p : Addr) (z : Str) (r : List V) (k : Nat), vs = [.ref p] ∧ SqT K H p (.str z :: r) ∧ formOf z = some k ∧ ∀ sp, H sp = none → Q (.ref sp) (upd H sp (.tup (r.take k)))
def spLDN (K : PySem.W.Frag) : Sp := fun vs H Q _ => ∃ (p : Addr) (z : Str) (r : List V) (k : Nat), vs = [.ref p] ∧ SqT K H p (.str z :: r) ∧ formOf z = some k ∧ ∀ (H' : Hp) l, Same H H' → H l = none → H' l = some (.lst (r.take k)) → Q (.ref l) H'
theorem not_whole (v : V) (r : List V) (hi : Option Int) : ¬ (HT.sIx (v :: r).length 0 (some 1) = 0 ∧ HT.sIx (v :: r).length (v :: r).length hi = (v :: r).length) := by
  rintro ⟨z1, _⟩
  have e1 : HT.sIx ((v :: r).length) 0 (some ((1 : Nat) : Int)) = min 1 (v :: r).length := HT.sIx_nat _ _ _
  have e2 : min 1 (v :: r).length = 1 := by simp
  have z2 : HT.sIx ((v :: r).length) 0 (some ((1 : Nat) : Int)) = 0 := z1
  omega
theorem scDN : FnScope ["deed"] ["deed"] (defScope sDeedNames) := ⟨rfl, rfl, rfl, by decide +kernel, rfl, by decide +kernel, by decide +kernel⟩
theorem ok_dn {f d1 : Addr} {fd : FuncData} (F : Fun K "deed_names" "deed_names" sDeedNames f fd) (T : FormsK K w d1) (gT : mg "NAME_COUNTS" = some (.ref d1)) : FnOk P w K mg base CX0 1 f fd ["deed"] (spDN K) := by
  refine F.ok scDN (fun vs H Q E h => ?_) (fun cdv A outer s H vs Q E hr h => ?_)
  · obtain ⟨p, z, r, k, rfl, _⟩ := h
    rfl
  · obtain ⟨p, z, r, k, rfl, hp, hf, q⟩ := h
    obtain ⟨es, nn, KD⟩ := T.ex
    obtain ⟨t1, ht1⟩ := T.yes z k hf
    refine ⟨_, pss_one (ps_ret (pe_slice sl_tup (pv 0) (po_some pe_int) (po_some (pe_op op_add (pe_ix ix_kdict (pe_glob (v := .ref d1) (by rfl) gT rfl) (pe_ix ix_tup (pv 0) pe_int (fun _ _ => rfl)) (fun _ _ => rfl)) pe_int)))), ?_⟩
    refine ⟨_, rfl, _, rfl, _, rfl, p, _, 0, _, rfl, rfl, hp, atI_nat (j := 0) rfl, d1, z, .int k, rfl, rfl, ⟨es, nn, _, KD.at_, KD.lit, ht1, _, rfl⟩, _, _, rfl, rfl, _, rfl, p, _, rfl, hp, not_whole _ _ _, fun sp nsp => ?_⟩
    rw [cut_1]
    exact q sp nsp
theorem scLDN : FnScope ["deed"] ["deed"] (defScope sLDeedNames) := ⟨rfl, rfl, rfl, by decide +kernel, rfl, by decide +kernel, by decide +kernel⟩
theorem cut_1' (v : V) (r : List V) (k : Nat) : cutV (v :: r) (some 1) (some (1 + (k : Int))) = r.take k := by
  rw [Int.add_comm]
  exact cut_1 v r k
theorem ok_ldn {f fF : Addr} {fd fdF : FuncData} (F : Fun K "_law_deed_names" "_law_deed_names" sLDeedNames f fd) (FF : Fun K "_law_forms" "_law_forms" sForms fF fdF) (bF : Binds K fdF [] []) (gF : mg "_law_forms" = some (.ref fF)) (ml : mg "list" = none) :
    FnOk P w K mg base CX0 2 f fd ["deed"] (spLDN K) := by
  have GF : FnOk P w K mg base CX0 1 fF fdF [] spForms := ok_forms FF
  refine F.ok scLDN (fun vs H Q E h => ?_) (fun cdv A outer s H vs Q E hr h => ?_)
  · obtain ⟨p, z, r, k, rfl, _⟩ := h
    rfl
  · obtain ⟨p, z, r, k, rfl, hp, hf, q⟩ := h
    have hu := hu_of (hr.mono (Nat.zero_le _) : Room 0 _)
    refine ⟨_, pss_one (ps_ret (pe_callTy call_list_of (by rfl) ml (by decide +kernel) (pa_cons (pe_slice sl_tup (pv 0) (po_some pe_int) (po_some (pe_op op_add pe_int (pe_dget hu (pe_call0 GF hr (by rfl) gF FF.kp bF .nil pass0) (pe_ix ix_tup (pv 0) pe_int (fun _ _ => rfl)) (fun _ _ => rfl))))) pa_nil))), ?_⟩
    refine ⟨_, rfl, _, rfl, rfl, fun d nd => ?_⟩
    have hp1 := sqT_same hp (same_upd (o := .dK formsD) nd)
    have S1 : Same H (upd H d (.dK formsD)) := same_upd nd
    refine ⟨_, rfl, p, _, 0, _, rfl, rfl, hp1, atI_nat (j := 0) rfl, d, .int k, rfl, ?_, 1, (k : Int), rfl, rfl, _, rfl, p, _, rfl, hp1, not_whole _ _ _, fun sp nsp => ?_⟩
    · have e : valV formsD (.inr z) = some (.int (k : Nat)) := by rw [forms_get, hf]; rfl
      exact e ▸ DGet.k (k := (.inr z : Key)) upd_same
    · rw [cut_1']
      refine ⟨sp, _, rfl, .inr (.inl (.inl upd_same)), fun l nl => q _ _ (S1.trans ((same_upd nsp).trans (same_upd nl))) ?_ upd_same⟩
      exact PySem.Spec.same_none S1 (PySem.Spec.same_none (same_upd nsp) nl)
/-! ### atoms as data -/
def atomD : V → PyData
  | .non => .none
  | .bl b => .bool b
  | .int i => .int i
  | .str s => .str s
  | _ => .none
theorem dp_atom {K : PySem.W.Frag} {H : Hp} {v : V} (h : AtomV v = true) : Dp K H v (atomD v) := by
  cases v with
  | non => exact .non
  | bl b => exact .bl b
  | int i => exact .int i
  | str s => exact .str s
  | _ => cases h
theorem dpAll_atoms {K : PySem.W.Frag} {H : Hp} : ∀ xs : List V, (∀ x ∈ xs, AtomV x = true) → DpAll K H xs (xs.map atomD)
  | [], _ => .nil
  | x :: r, h => .cons (dp_atom (h x List.mem_cons_self)) (dpAll_atoms r fun y hy => h y (List.mem_cons_of_mem _ hy))
theorem canLay_atom {v : V} (h : AtomV v = true) : PyData.canLay0 (atomD v) = true := by
  cases v with
  | str s =>
    simp only [AtomV, Bool.and_eq_true] at h
    simp [atomD, PyData.canLay0, h.2]
  | int i => rfl
  | bl b => rfl
  | non => rfl
  | _ => cases h
theorem depth_atom (v : V) : PyData.depth (atomD v) = 0 := by
  cases v <;> simp [atomD, PyData.depth]
theorem canLay_atoms : ∀ xs : List V, (∀ x ∈ xs, AtomV x = true) → PyData.canLayAll0 (xs.map atomD) = true
  | [], _ => by simp [PyData.canLayAll0]
  | x :: r, h => by simp [PyData.canLayAll0, canLay_atom (h x List.mem_cons_self), canLay_atoms r fun y hy => h y (List.mem_cons_of_mem _ hy)]
theorem depth_atoms : ∀ xs : List V, PyData.depthAll (xs.map atomD) = 0
  | [] => by simp [PyData.depthAll]
  | n :: r => by simp [PyData.depthAll, depth_atom, depth_atoms r]
theorem shaped_atoms {xs : List V} (h : ∀ x ∈ xs, AtomV x = true) : SeqAt.shaped (.list (xs.map atomD)) = true := by
  unfold SeqAt.shaped
  simp only [PyData.canLay0, PyData.depth, canLay_atoms xs h, depth_atoms]
  decide
/-! ### the law's look at a deed -/
theorem deed_odd {v : V} (h : txtOf v = none) (r : List V) : deedL (v :: r) = false := by
  unfold deedL
  simp only [h]
theorem deed_word {z : Str} (h : formOf z = none) (r : List V) : deedL (.str z :: r) = false := by
  unfold deedL
  simp only [txtOf, h]
theorem deed_is {z : Str} {k : Nat} (h : formOf z = some k) (r : List V) : deedL (.str z :: r) = ((r.take k).all nameV && (if wayW z = true then decide (r.length = k + 1) && wayV (r.getLastD .non) else decide (r.length = k))) := by
  unfold deedL
  simp only [txtOf, h]
theorem deed_short {xs : List V} (h : xs.length < 3) : deedL xs = false := by
  match xs, h with
  | [], _ => rfl
  | v :: r, h =>
    cases hv : txtOf v with
    | none => exact deed_odd hv r
    | some z =>
      cases v <;> try (cases hv)
      cases hf : formOf z with
      | none => exact deed_word hf r
      | some k =>
        obtain ⟨hk2, hk5⟩ := formOf_small hf
        simp only [List.length_cons] at h
        rw [deed_is hf, decide_eq_false (show ¬ r.length = k + 1 by omega), decide_eq_false (show ¬ r.length = k by omega)]
        simp
theorem scLD : FnScope ["value", "many", "name"] ["value"] (defScope sLDeed) := ⟨rfl, rfl, rfl, by decide +kernel, rfl, by decide +kernel, by decide +kernel⟩
theorem ok_ldeed {f fN fF fW : Addr} {fd fdN fdF fdW : FuncData} (F : Fun K "_law_is_deed" "_law_is_deed" sLDeed f fd) (FN : Fun K "_law_is_name" "_law_is_name" sLName fN fdN) (GN : FnOk P w K mg base CX0 1 fN fdN ["value"] (spName K)) (bN : Binds K fdN ["value"] []) (gN : mg "_law_is_name" = some (.ref fN))
    (FF : Fun K "_law_forms" "_law_forms" sForms fF fdF) (bF : Binds K fdF [] []) (gF : mg "_law_forms" = some (.ref fF)) (FW : Fun K "_law_has_way" "_law_has_way" sHasWay fW fdW) (bW : Binds K fdW ["word"] []) (gW : mg "_law_has_way" = some (.ref fW))
    (mi : mg "isinstance" = none) (mt : mg "tuple" = none) (ms : mg "str" = none) (ml : mg "len" = none) (mint : mg "int" = none) (mrp : mg "repr" = none) : FnOk P w K mg base CX0 2 f fd ["value"] (spDeed K) := by
  have GF : FnOk P w K mg base CX0 1 fF fdF [] spForms := ok_forms FF
  have GW : FnOk P w K mg base CX0 1 fW fdW ["word"] spHasWay := ok_hasWay FW
  refine F.ok scLD (fun vs H Q E h => ?_) (fun cdv A outer s H vs Q E hr h => ?_)
  · obtain ⟨x, o, rfl, _⟩ := h
    rfl
  · obtain ⟨x, o, rfl, hx, q⟩ := h
    have hu := hu_of (hr.mono (Nat.zero_le _) : Room 0 _)
    refine ⟨_, pss_cons (ps_if (PW.pt (pw_or (pt_not (pt_val (pe_callB call_isi (by rfl) mi (by decide +kernel) (pa_cons (pv 0) (pa_cons (pe_bltn (v := .ty "tuple") (by rfl) mt (by decide +kernel) rfl) pa_nil)))))
        (pw_or (pt_cmpR op_lt (pe_callB call_len_seq (by rfl) ml PySem.boot_len (pa_cons (pv 0) pa_nil)) pe_int (by rfl))
        (pw_or (pt_not (pt_val (pe_callB call_isi (by rfl) mi (by decide +kernel) (pa_cons (pe_ix ix_tup (pv 0) pe_int (fun _ _ => rfl)) (pa_cons (pe_bltn (v := .ty "str") (by rfl) ms (by decide +kernel) rfl) pa_nil)))))
        (pw_or1 (pt_cmp (pc_dnotin hu (pe_ix ix_tup (pv 0) pe_int (fun _ _ => rfl)) (pe_call0 GF hr (by rfl) gF FF.kp bF .nil pass0)))))))) (pss_one (ps_ret pe_bl)) pss_nil)
      (pss_cons (ps_set (i := 1) scLD.nd rfl (.inl rfl) (pe_op op_add pe_int (pe_dget hu (pe_call0 GF hr (by rfl) gF FF.kp bF .nil pass0) (pe_ix ix_tup (pv 0) pe_int (fun _ _ => rfl)) (fun _ _ => rfl))))
      (pss_cons (ps_if (pt_cmpR op_ne (pe_callB call_len_seq (by rfl) ml PySem.boot_len (pa_cons (pv 0) pa_nil)) (pe_op op_add (pv 1) (pe_callTy call_int1 (by rfl) mint (by decide +kernel) (pa_cons (pe_call GW hr (by rfl) gW FW.kp bW .nil pass0 (pa_cons (pe_ix ix_tup (pv 0) pe_int (fun _ _ => rfl)) pa_nil)) pa_nil))) (by rfl)) (pss_one (ps_ret pe_bl)) pss_nil)
      (pss_cons (ps_if (pt_cmpR (op_neD hr.units)
          (pe_lc (own := [("name", 2)]) (g := gName 2) rfl scLD.nd (pi_tup (pe_slice sl_tup (pv 0) (po_some pe_int) (po_some (pv 1))))
            (blkOk_by (own := [("name", 2)]) (N := ["value", "many", "name"]) (sc := defScope sLDeed) (by decide +kernel))
            (fun _ _ _ _ _ => pg_name (i := 2) scLD.nd rfl (.inl rfl))
            (fun _ _ _ _ _ => pts_one (pt_not (pt_val (pe_call GN (hr.mono (by decide)) (by rfl) gN FN.kp bN .nil pass0 (pa_cons (pv 2) pa_nil)))))
            (fun _ _ _ _ _ => pv 2)) (pe_lst pa_nil) (by rfl)) (pss_one (ps_ret pe_bl)) pss_nil)
      (pss_one (ps_ret (pe_or (pe_cmpR op_eq (pe_callB call_len_seq (by rfl) ml PySem.boot_len (pa_cons (pv 0) pa_nil)) (pv 1) (nomark _))
        (pe_one (pe_cmpR op_in_seq (pe_callB call_reprA (by rfl) mrp (by decide +kernel) (pa_cons (pe_ix ix_tup (pv 0) (pv 1) (fun _ _ => rfl)) pa_nil)) (pe_lst (pa_cons pe_str (pa_cons pe_str pa_nil))) (by rfl))))))))), ?_⟩
    have q' : ∀ b H', deedO o = b → Same H H' → Q (.bl b) H' := fun b H' e sm => by
      subst e
      exact q H' sm
    rcases hx with ⟨p, xs, rfl, hp, hat, hlen, rfl⟩ | ⟨hn, rfl⟩
    · refine ⟨_, rfl, .ref p, .ty "tuple", .type "tuple", .type "tuple", true, rfl, .ty _, sqT_ty hp, kit_ty (by decide +kernel), true, rfl, iteF ?_⟩
      refine ⟨_, rfl, p, xs, rfl, .inr hp, _, _, rfl, rfl, _, rfl, ?_⟩
      by_cases h3 : xs.length < 3
      · refine iteT2 (decide_eq_true (by omega)) (q' _ _ ?_ same_rfl)
        exact deed_short h3
      · refine iteF2 (decide_eq_false (by omega)) ?_
        obtain ⟨v, r, rfl⟩ : ∃ v r, xs = v :: r := by
          match xs, h3 with
          | v :: r, _ => exact ⟨v, r, rfl⟩
          | [], h => simp at h
        have hv : AtomV v = true := List.all_eq_true.mp hat v List.mem_cons_self
        have hr' : ∀ y ∈ r, AtomV y = true := fun y hy => List.all_eq_true.mp hat y (List.mem_cons_of_mem _ hy)
        have at0 : atI (v :: r) 0 = some v := atI_nat (j := 0) rfl
        rcases tx_atom (K := K) (H := H) hv with ⟨z, rfl, hz, _⟩ | ⟨hz, t, ht, hb⟩
        · refine ⟨_, rfl, p, _, 0, _, rfl, rfl, hp, at0, .str z, .ty "str", .type "str", .type "str", true, rfl, .ty _, .base (.str z), kit_ty (by decide +kernel), true, rfl, iteF ?_⟩
          refine ⟨_, rfl, p, _, 0, _, rfl, rfl, hp, at0, rfl, fun d nd => ?_⟩
          have S1 : Same H (upd H d (.dK formsD)) := same_upd nd
          have g1 : DGet (upd H d (.dK formsD)) d (.str z) ((formOf z).map fun k => V.int (k : Nat)) := forms_get z ▸ DGet.k (k := (.inr z : Key)) upd_same
          refine ⟨d, _, rfl, g1, _, rfl, ?_⟩
          cases hf : formOf z with
          | none => exact iteT2 rfl (q' _ _ (deed_word hf r) S1)
          | some k =>
            obtain ⟨hk2, hk5⟩ := formOf_small hf
            refine iteF2 rfl ?_
            have hp1 := sqT_same hp S1
            have at0' : atI (V.str z :: r) 0 = some (.str z) := at0
            refine ⟨rfl, fun d2 nd2 => ?_⟩
            have S2 : Same H (upd (upd H d (.dK formsD)) d2 (.dK formsD)) := S1.trans (same_upd nd2)
            have hp2 := sqT_same hp S2
            have g2 : DGet (upd (upd H d (.dK formsD)) d2 (.dK formsD)) d2 (.str z) (some (.int (k : Nat))) := by
              have e : valV formsD (.inr z) = some (.int (k : Nat)) := by rw [forms_get, hf]; rfl
              exact e ▸ DGet.k (k := (.inr z : Key)) upd_same
            refine ⟨_, rfl, p, _, 0, _, rfl, rfl, hp2, at0', d2, .int k, rfl, g2, 1, (k : Int), rfl, rfl, ?_⟩
            refine ⟨_, rfl, p, _, rfl, .inr hp2, _, rfl, _, rfl, p, _, 0, _, rfl, rfl, hp2, at0', z, rfl, fun H3 sm3 => .inr ⟨wayW z, rfl, _, _, rfl, rfl, rfl, _, rfl, ?_⟩⟩
            have S3 := S2.trans sm3
            have hp3 := sqT_same hp S3
            have el : decide (V.int (((V.str z :: r).length : Nat) : Int) = V.int (1 + (k : Int) + if wayW z = true then 1 else 0)) = decide (r.length = k + if wayW z = true then 1 else 0) := by
              rw [Bool.eq_iff_iff]
              cases wayW z <;> simp <;> omega
            rw [el]
            have en : ∀ b, ((r.take k).all nameV && (if wayW z = true then decide (r.length = k + 1) && wayV (r.getLastD .non) else decide (r.length = k))) = b → deedO (some (V.str z :: r)) = b := fun b eb => by
              show deedL (.str z :: r) = b
              rw [deed_is hf, eb]
            by_cases hl : r.length = k + if wayW z = true then 1 else 0
            · refine iteF2 (by rw [decide_eq_true hl]; rfl) ?_
              refine ⟨_, rfl, _, rfl, _, rfl, _, rfl, p, _, rfl, hp3, not_whole _ _ _, fun sp nsp => ?_⟩
              rw [cut_1']
              have S4 : Same H (upd H3 sp (.tup (r.take k))) := S3.trans (same_upd nsp)
              refine ⟨sp, rfl, ⟨_, .inl (.inl upd_same)⟩, fun D nD => ?_⟩
              have at_ : ∀ (i : Nat) (x : V), (r.take k)[i]? = some x → AtomV x = true := fun i x hx => hr' x (List.mem_of_mem_take (List.mem_of_getElem? hx))
              refine lc_it (walk_tup (K := K) (a := sp) (xs := r.take k)) (fun i H1 => ∃ bs : List V, H1 D = some (.lst bs) ∧ bs = ((r.take k).take i).filter (fun v => !nameV v) ∧ Same (upd H3 sp (.tup (r.take k))) H1) ⟨[], upd_same, rfl, same_upd nD⟩ ?_ ?_ ?_
              · rintro i H1 _ ⟨bs, _, _, sm⟩
                exact .inl (.inl (sm _ _ upd_same))
              · rintro i x H1 H2 hi ⟨bs, hD, hbs, sm⟩ ⟨rfl, hx⟩
                have hbl : bs.length < 9 := by
                  have h2 := List.length_filter_le (fun v => !nameV v) ((r.take k).take i)
                  rw [List.length_take, List.length_take] at h2
                  rw [hbs]
                  omega
                have step : ((r.take k).take (i + 1)).filter (fun v => !nameV v) = bs ++ (if nameV x = true then [] else [x]) := by
                  rw [hbs, List.take_succ, List.filter_append, hx]
                  cases e : nameV x <;> simp [e]
                refine ⟨rfl, _, rfl, x, _, rfl, tx_atom (at_ i x hx), fun H5 sm5 => ⟨_, rfl, ?_⟩⟩
                show if (!nameV x) = true then _ else _
                cases e : nameV x with
                | true =>
                  refine iteF2 rfl ⟨bs, sm5 _ _ hD, ?_, sm.trans sm5⟩
                  rw [step, e]
                  simp
                | false =>
                  refine iteT2 rfl ⟨_, rfl, _, sm5 _ _ hD, small1000 (by omega), bs ++ [x], upd_same, ?_, same_put (sm.trans sm5) nD⟩
                  rw [step, e]
                  rfl
              · rintro H1 ⟨bs, hD, hbs, sm⟩
                rw [List.take_length] at hbs
                have S5 := S4.trans sm
                refine ⟨by show 0 ≤ sizeLine; exact Nat.zero_le _, fun l nl => ?_⟩
                have nDl : D ≠ l := by
                  rintro rfl
                  rw [nl] at hD
                  cases hD
                have hbat : ∀ x ∈ bs, AtomV x = true := fun x hx => by
                  rw [hbs] at hx
                  exact hr' x (List.mem_of_mem_take (List.mem_filter.mp hx).1)
                refine ⟨_, _, .lst (.inl (.inl (by rw [upd_ne nDl]; exact hD))) (dpAll_atoms bs hbat), dp_nil upd_same, shaped_atoms hbat, shaped_nil, _, rfl, ?_⟩
                rw [eqv_nil]
                have S6 : Same H (upd H1 l (.lst [])) := S5.trans (same_upd nl)
                have hp6 := sqT_same hp S6
                have eall : bs.isEmpty = (r.take k).all nameV := by
                  rw [hbs, Bool.eq_iff_iff, List.isEmpty_iff, List.filter_eq_nil_iff, List.all_eq_true]
                  simp
                rw [eall]
                cases e : (r.take k).all nameV with
                | false =>
                  refine iteT2 rfl (q' _ _ (en _ ?_) S6)
                  rw [e]
                  rfl
                | true =>
                  rw [e, Bool.true_and] at en
                  refine iteF2 rfl ?_
                  have el1 : decide (V.int (((V.str z :: r).length : Nat) : Int) = V.int (1 + (k : Int))) = decide (r.length = k) := by
                    rw [Bool.eq_iff_iff]
                    simp
                    omega
                  refine ⟨_, rfl, p, _, rfl, .inr hp6, _, rfl, rfl, _, rfl, ?_⟩
                  cases ew : wayW z with
                  | false =>
                    rw [ew, if_neg (by decide)] at hl
                    refine iteT2 (el1.trans (decide_eq_true (by omega))) (q' _ _ (en _ ?_) S6)
                    rw [ew, if_neg (by decide), decide_eq_true (by omega)]
                  | true =>
                    rw [ew, if_pos rfl] at hl
                    refine iteF2 (el1.trans (decide_eq_false (by omega))) ?_
                    obtain ⟨r', y, rfl⟩ : ∃ r' y, r = r' ++ [y] := by
                      rcases List.eq_nil_or_concat r with h0 | ⟨r', y, h0⟩
                      · rw [h0] at hl
                        simp at hl
                      · exact ⟨r', y, by rw [h0, List.concat_eq_append]⟩
                    have hk' : r'.length = k := by
                      rw [List.length_append] at hl
                      simp at hl
                      omega
                    have hy : AtomV y = true := hr' y (List.mem_append_right _ List.mem_cons_self)
                    have la : atI (V.str z :: (r' ++ [y])) (1 + (k : Int)) = some y := by
                      have e1 : (1 + (k : Int)) = ((k + 1 : Nat) : Int) := by omega
                      rw [e1]
                      refine atI_nat ?_
                      rw [List.getElem?_cons_succ, List.getElem?_append_right (by omega), hk', Nat.sub_self]
                      rfl
                    have gl : (r' ++ [y]).getLastD V.non = y := by simp
                    rw [ew, if_pos rfl, gl, decide_eq_true hl, Bool.true_and] at en
                    refine ⟨_, rfl, _, rfl, p, _, _, y, rfl, rfl, hp6, la, y, rfl, hy, by show 2 ≤ sizeLine; decide, fun l2 nl2 => ?_⟩
                    refine ⟨l2, [.str "1", .str "2"], rfl, .inl (.inl (.inl upd_same)), rfl, rfl, ?_⟩
                    show Q (.bl (inV (.str (shA y)) [.str "1", .str "2"])) _
                    rw [shA_way hy]
                    exact q' _ _ (en _ rfl) (S6.trans (same_upd nl2))
            · refine iteT2 (by rw [decide_eq_false hl]; rfl) (q' _ _ (en _ ?_) S3)
              cases ew : wayW z with
              | true =>
                rw [ew, if_pos rfl] at hl
                rw [if_pos rfl, decide_eq_false hl]
                simp
              | false =>
                rw [ew, if_neg (by decide)] at hl
                rw [if_neg (by decide), decide_eq_false (by omega)]
                simp
        · exact ⟨_, rfl, p, _, 0, _, rfl, rfl, hp, at0, v, .ty "str", .type t, .type "str", false, rfl, .ty _, ht, kit_ty hb, false, rfl, iteT (q' _ _ (deed_odd hz r) same_rfl)⟩
    · obtain ⟨t, ht, hb⟩ := hn.ty (K := K)
      exact ⟨_, rfl, x, .ty "tuple", .type t, .type "tuple", false, rfl, .ty _, ht, kit_ty hb, false, rfl, iteT (q' _ _ rfl same_rfl)⟩
end
end N3

set_option Elab.async false
set_option linter.all false
set_option maxRecDepth 100000
set_option maxHeartbeats 2000000
namespace N4
open PySem PySem.Spec PyProof.Rows L2 Cau Dr27 N1 N2 N3
abbrev sCheckDeed : Stmt := topS 20
abbrev sAreSteps : Stmt := topS 21
abbrev sIsDrawing : Stmt := topS 22
abbrev sToolOf : Stmt := topS 24
abbrev sCheckDrawing : Stmt := topS 26
abbrev sGoesOn : Stmt := topS 45
/-! ### a walk over a list or a tuple -/
def SqX (K : PySem.W.Frag) (H : Hp) (p : Addr) (xs : List V) : Prop := SqL K H p xs ∨ SqT K H p xs
theorem SqX.same {K : PySem.W.Frag} {H H' : Hp} {p : Addr} {xs : List V} (h : SqX K H p xs) (s : Same H H') : SqX K H' p xs := by
  rcases h with h | h
  · exact .inl (s.seq h)
  · exact .inr (sqT_same h s)
def SeqAt (K : PySem.W.Frag) (a : Addr) (xs : List V) (R : It → Hp → Prop) (H1 : Hp) : Prop :=
  (SqL K H1 a xs ∧ ∀ J : It, Walk J xs.length (fun H => SqL K H a xs) (YAt xs) → R J H1) ∨ (SqT K H1 a xs ∧ ∀ J : It, Walk J xs.length (fun H => SqT K H a xs) (YAt xs) → R J H1)
theorem seq_of {K : PySem.W.Frag} {a : Addr} {xs : List V} {R : It → Hp → Prop} {H0 H1 : Hp} (h : SqX K H0 a xs) (s : Same H0 H1) (q : ∀ (J : It) (G : Hp → Prop), Walk J xs.length G (YAt xs) → (∀ H', Same H0 H' → G H') → R J H1) : SeqAt K a xs R H1 := by
  rcases h with h | h
  · exact .inl ⟨s.seq h, fun J w => q J _ w fun H' s' => s'.seq h⟩
  · exact .inr ⟨sqT_same h s, fun J w => q J _ w fun H' s' => sqT_same h s'⟩
def iSeq (K : PySem.W.Frag) (tl : TE) : TI := fun σ H R => tl σ H fun x H1 => ∃ a xs, x = .ref a ∧ SeqAt K a xs R H1
theorem pi_seq {X : Cx} {tg l : Expr} {tl : TE} (hl : PE X l tl) : PI X tg l (iSeq X.K tl) := by
  constructor
  intro pins s σ H R I h
  refine thn (hl.run pins s σ H _ I h) ?_
  rintro v s1 ⟨x, H1, I1, r1, a, xs, ex, hq⟩
  subst ex
  cases r1
  rcases hq with ⟨hq, q⟩ | ⟨hq, q⟩
  · obtain ⟨its, rv, p, hz⟩ := I1.list hq
    exact wpAny_pyIter_list p.isList (pi_one (tk := s1.toks) I1 _ (turn_list a _) ⟨_, Heap.get?_push_size _ rfl, rfl, rfl⟩ (q _ walk_list))
  · obtain ⟨its, rv, p, hz⟩ := I1.tuple hq
    exact wpAny_pyIter_tuple (show s1.heap.IsTuple a its.toArray from p) (pi_one (tk := s1.toks) I1 _ (turn_tuple a _) ⟨_, Heap.get?_push_size _ rfl, rfl, rfl⟩ (q _ walk_tup))
theorem dc_it {J : It} {n : Nat} {G : Hp → Prop} {Y : Nat → Hp → V → Hp → Prop} (w : Walk J n G Y) {g : TG} {tt : TT} {tk tv : TE} {vs : List Nat} {σ : L2.St} {H1 : Hp} {D : Addr} {Qd : Hp → Prop} (Pv : Nat → Hp → Prop) (h0 : Pv 0 (upd H1 D (.dK []))) (hG : ∀ i H, i ≤ n → Pv i H → G H)
    (hs : ∀ i x H H', i < n → Pv i H → Y i H x H' → g x (wipe σ vs) H' fun σ2 H2 => wipe σ2 vs = wipe σ vs ∧ tt σ2 H2 fun b H3 =>
      if b = true then tk σ2 H3 fun y H4 => tv σ2 H4 fun z H5 => ∃ kvs k, y = kV k ∧ H5 D = some (.dK kvs) ∧ kvs.length < sizeLine ∧ Pv (i + 1) (upd H5 D (.dK (putK kvs k z))) else Pv (i + 1) H3) (hd : ∀ H, Pv n H → Qd H) :
    ∃ W : Nat → Nat → Hp → Prop, (∃ m, W 0 m (upd H1 D (.dK []))) ∧ ∀ i m H, W i m H →
      (J.stop i H ∧ Qd H) ∨ (J.go i H ∧ ∃ Nx : Hp → Prop, (∀ H', Nx H' → ∃ m', m' < m ∧ W (i + 1) m' H') ∧ ∀ x H', J.yld i H x H' → g x (wipe σ vs) H' fun σ2 H2 => wipe σ2 vs = wipe σ vs ∧ tt σ2 H2 fun b H3 =>
        if b = true then tk σ2 H3 fun y H4 => tv σ2 H4 fun z H5 => ∃ kvs k, y = kV k ∧ H5 D = some (.dK kvs) ∧ kvs.length < sizeLine ∧ Nx (upd H5 D (.dK (putK kvs k z))) else Nx H3) := by
  refine ⟨fun i m H => m = n - i ∧ i ≤ n ∧ Pv i H, ⟨n, rfl, Nat.zero_le _, h0⟩, ?_⟩
  rintro i _ H ⟨rfl, le, pv⟩
  have gh := hG i H le pv
  rcases Nat.lt_or_eq_of_le le with lt | rfl
  · right
    refine ⟨w.goes i H lt gh, fun H' => Pv (i + 1) H', fun H' p' => ⟨_, Nat.sub_lt_sub_left lt (Nat.lt_succ_self i), rfl, lt, p'⟩, ?_⟩
    exact fun x H' y => hs i x H H' lt pv (w.yields i H x H' lt gh y)
  · exact .inl ⟨w.stops H gh, hd H pv⟩
/-! ### steps -/
/-- how a value stands as a step -/
inductive Sd
  | bad
  | pair (n : V) (d : Option (List V))
def SdOk (K : PySem.W.Frag) (H : Hp) (y : V) : Sd → Prop
  | .bad => NotTup H y ∨ ∃ p xs, y = .ref p ∧ SqT K H p xs ∧ xs.length ≠ 2
  | .pair n d => ∃ p z, y = .ref p ∧ SqT K H p [n, z] ∧ AtomV n = true ∧ Dd K H z d
theorem SdOk.same {K : PySem.W.Frag} {H H' : Hp} {y : V} {d : Sd} (h : SdOk K H y d) (s : Same H H') : SdOk K H' y d := by
  cases d with
  | bad =>
    rcases h with h | ⟨p, xs, e, h, r⟩
    · exact .inl (h.same s)
    · exact .inr ⟨p, xs, e, sqT_same h s, r⟩
  | pair n d =>
    obtain ⟨p, z, e, h, a, r⟩ := h
    exact ⟨p, z, e, sqT_same h s, a, r.same s⟩
/-- the names of a deed -/
def namesL (xs : List V) : List Str :=
  match xs with
  | .str z :: r => match formOf z with
    | some k => (r.take k).filterMap txtOf
    | none => []
  | _ => []
def stepB (d : Sd) (kn : List Str) : Option Str :=
  match d with
  | .pair n (some xs) => match txtOf n with
    | some s => if (nameS s && deedL xs && !decide (s ∈ kn) && (namesL xs).all fun u => decide (u ∈ kn)) = true then some s else none
    | none => none
  | _ => none
def goesB : List Sd → List Str → Bool
  | [], _ => true
  | d :: r, kn => match stepB d kn with
    | some s => goesB r (kn ++ [s])
    | none => false
def goesO (o : Option (List Sd)) (kn : List Str) : Bool := match o with
  | some ds => goesB ds kn
  | none => false
/-- a value as a list of steps -/
def Sv (K : PySem.W.Frag) (H : Hp) (x : V) (o : Option (List Sd)) : Prop :=
  (∃ p ys ds, x = .ref p ∧ SqX K H p ys ∧ ys.length = ds.length ∧ ys.length ≤ 200 ∧ (∀ (i : Nat) y d, ys[i]? = some y → ds[i]? = some d → SdOk K H y d) ∧ o = some ds) ∨ (NotSeq H x ∧ o = none)
theorem Sv.same {K : PySem.W.Frag} {H H' : Hp} {x : V} {o : Option (List Sd)} (h : Sv K H x o) (s : Same H H') : Sv K H' x o := by
  rcases h with ⟨p, ys, ds, e, h, l, l2, a, r⟩ | ⟨h, r⟩
  · exact .inl ⟨p, ys, ds, e, h.same s, l, l2, fun i y d e1 e2 => (a i y d e1 e2).same s, r⟩
  · exact .inr ⟨h.same s, r⟩
def spSteps (K : PySem.W.Frag) : Sp := fun vs H Q _ => ∃ (x : V) (o : Option (List Sd)) (nm : Addr) (ns : List Str), vs = [x, .ref nm] ∧ Sv K H x o ∧ SqX K H nm (ns.map V.str) ∧ ns.length ≤ 500 ∧ ∀ H', Same H H' → Q (.bl (goesO o ns)) H'
/-- a dict whose keys are these texts -/
def Keys (kvs : List (Key × V)) (kn : List Str) : Prop := ∀ s : Str, (valV kvs (.inr s)).isSome = decide (s ∈ kn)
theorem names_is {w0 : Str} {k : Nat} (h : formOf w0 = some k) (r : List V) : namesL (.str w0 :: r) = (r.take k).filterMap txtOf := by
  unfold namesL
  simp only [h]
theorem deed_shape {xs : List V} (h : deedL xs = true) : ∃ w0 r k, xs = .str w0 :: r ∧ formOf w0 = some k ∧ (r.take k).all nameV = true := by
  match xs, h with
  | v :: r, h =>
    cases hv : txtOf v with
    | none => rw [deed_odd hv] at h; cases h
    | some z =>
      cases v <;> try (cases hv)
      cases hf : formOf z with
      | none => rw [deed_word hf] at h; cases h
      | some k =>
        rw [deed_is hf, Bool.and_eq_true] at h
        exact ⟨z, r, k, rfl, hf, h.1⟩
def knownV (kn : List Str) (v : V) : Bool := match txtOf v with
  | some u => decide (u ∈ kn)
  | none => false
theorem known_all (kn : List Str) : ∀ xs : List V, xs.all nameV = true → (xs.all fun x => knownV kn x) = (xs.filterMap txtOf).all fun u => decide (u ∈ kn)
  | [], _ => rfl
  | x :: r, h => by
    rw [List.all_cons, Bool.and_eq_true] at h
    cases x with
    | str u =>
      rw [List.all_cons, List.filterMap_cons, known_all kn r h.2]
      rfl
    | _ => exact absurd h.1 (by simp [nameV, txtOf, nameO])
theorem step_odd {n : V} (h : txtOf n = none) (d : Option (List V)) (kn : List Str) : stepB (.pair n d) kn = none := by
  cases d with
  | none => rfl
  | some xs =>
    unfold stepB
    simp only [h]
theorem step_str (s : Str) (xs : List V) (kn : List Str) : stepB (.pair (.str s) (some xs)) kn = if (nameS s && deedL xs && !decide (s ∈ kn) && (namesL xs).all fun u => decide (u ∈ kn)) = true then some s else none := rfl
theorem step_name {n : V} (h : nameO (txtOf n) = false) (d : Option (List V)) (kn : List Str) : stepB (.pair n d) kn = none := by
  cases ht : txtOf n with
  | none => exact step_odd ht d kn
  | some s =>
    cases n <;> try (cases ht)
    cases d with
    | none => rfl
    | some xs =>
      have h' : nameS s = false := h
      rw [step_str, h']
      rfl
theorem Keys.nil : Keys [] [] := fun s => rfl
theorem Keys.put {kvs : List (Key × V)} {kn : List Str} (h : Keys kvs kn) (s : Str) (v : V) : Keys (putK kvs (.inr s) v) (kn ++ [s]) := fun u => by
  rw [valV_put]
  by_cases e : u = s
  · subst e
    rw [if_pos rfl]
    simp
  · rw [if_neg fun z => e (Sum.inr.inj z), h u, Bool.eq_iff_iff]
    simp [e]
section
variable {P : Program} {w : World} {K : PySem.W.Frag} {mg : Str → Option Value} {base : Heap}
def stepsN : List Str := ["value", "names", "name", "known", "pair", "deed", "used"]
theorem scS : FnScope stepsN ["value", "names"] (defScope sAreSteps) := ⟨rfl, rfl, rfl, by decide +kernel, rfl, by decide +kernel, by decide +kernel⟩
theorem ok_steps {f fL fT fN fD fDN : Addr} {fd fdL fdT fdN fdD fdDN : FuncData} (F : Fun K "are_steps" "are_steps" sAreSteps f fd)
    (FL : Fun K "is_list" "is_list" sIsList fL fdL) (GL : FnOk P w K mg base CX0 1 fL fdL ["value"] (spIsList K)) (bL : Binds K fdL ["value"] []) (gL : mg "is_list" = some (.ref fL))
    (FT : Fun K "is_tuple_of" "is_tuple_of" sTupleOf fT fdT) (GT : FnOk P w K mg base CX0 1 fT fdT ["value", "size"] (spTupleOf K)) (bT : Binds K fdT ["value", "size"] []) (gT : mg "is_tuple_of" = some (.ref fT))
    (FN : Fun K "is_name" "is_name" sIsName fN fdN) (GN : FnOk P w K mg base CX0 1 fN fdN ["value"] (spName K)) (bN : Binds K fdN ["value"] []) (gN : mg "is_name" = some (.ref fN))
    (FD : Fun K "is_deed" "is_deed" sIsDeed fD fdD) (GD : FnOk P w K mg base CX0 2 fD fdD ["value"] (spDeed K)) (bD : Binds K fdD ["value"] []) (gD : mg "is_deed" = some (.ref fD))
    (FDN : Fun K "deed_names" "deed_names" sDeedNames fDN fdDN) (GDN : FnOk P w K mg base CX0 1 fDN fdDN ["deed"] (spDN K)) (bDN : Binds K fdDN ["deed"] []) (gDN : mg "deed_names" = some (.ref fDN))
    (ma : mg "all" = none) : FnOk P w K mg base CX0 3 f fd ["value", "names"] (spSteps K) := by
  refine F.ok scS (fun vs H Q E h => ?_) (fun cdv A outer s H vs Q E hr h => ?_)
  · obtain ⟨x, o, nm, ns, rfl, _⟩ := h
    rfl
  · obtain ⟨x, o, nm, ns, rfl, hx, hns, hnl, q⟩ := h
    have hu := hu_of (hr.mono (Nat.zero_le _) : Room 0 _)
    have hr1 : Room 1 _ := hr.mono (by decide)
    refine ⟨_, pss_cons (ps_if (pt_not (pt_val (pe_call GL hr1 (by rfl) gL FL.kp bL .nil pass0 (pa_cons (pv 0) pa_nil)))) (pss_one (ps_ret pe_bl)) pss_nil)
      (pss_cons (ps_set (i := 3) scS.nd rfl (.inr rfl) (pe_dc (own := [("name", 2)]) (g := gName 2) (tt := tYes) rfl scS.nd (pi_seq (pv 1))
          (blkOk_by (own := [("name", 2)]) (N := stepsN) (sc := defScope sAreSteps) (by decide +kernel))
          (fun _ _ _ _ _ => pg_name (i := 2) scS.nd rfl (.inl rfl)) (fun _ _ _ _ _ => pts_nil) (fun _ _ _ _ _ => pv 2) (fun _ _ _ _ _ => pe_bl)))
      (pss_cons (ps_for PassesOwn.never rfl (pi_seq (pv 0)) (pg_name (i := 4) scS.nd rfl (.inl rfl))
        (pss_cons (ps_if (PW.pt (pw_or (pt_not (pt_val (pe_call GT hr1 (by rfl) gT FT.kp bT .nil pass0 (pa_cons (pv 4) (pa_cons pe_int pa_nil)))))
            (pw_or (pt_not (pt_val (pe_call GN hr1 (by rfl) gN FN.kp bN .nil pass0 (pa_cons (pe_ix ix_tup (pv 4) pe_int (fun _ _ => rfl)) pa_nil))))
            (pw_or1 (pt_not (pt_val (pe_call GD hr (by rfl) gD FD.kp bD .nil pass0 (pa_cons (pe_ix ix_tup (pv 4) pe_int (fun _ _ => rfl)) pa_nil)))))))) (pss_one (ps_ret pe_bl)) pss_nil)
        (pss_cons (ps_asg (pv 4) (pg_tup (by rfl) (pgs_cons (pg_name (i := 2) scS.nd rfl (.inl rfl)) (pgs_cons (pg_name (i := 5) scS.nd rfl (.inl rfl)) pgs_nil))))
        (pss_cons (ps_if (PW.pt (pw_or (pt_cmp (pc_din hu (pv 2) (pv 3)))
            (pw_or1 (pt_not (pt_val (pe_callB (cr_all rfl) (by rfl) ma (by decide +kernel) (pa_cons
              (pe_lc (own := [("used", 6)]) (g := gName 6) (tt := tYes) rfl scS.nd (pi_tup (pe_call GDN hr1 (by rfl) gDN FDN.kp bDN .nil pass0 (pa_cons (pv 5) pa_nil)))
                (blkOk_by (own := [("used", 6)]) (N := stepsN) (sc := defScope sAreSteps) (by decide +kernel))
                (fun _ _ _ _ _ => pg_name (i := 6) scS.nd rfl (.inl rfl)) (fun _ _ _ _ _ => pts_nil)
                (fun _ _ _ _ _ => pe_cmp (pc_din hu (pv 6) (pv 3)))) pa_nil))))))) (pss_one (ps_ret pe_bl)) pss_nil)
        (pss_one (ps_dput hu (pv 3) (pv 2) pe_bl rfl))))))
      (pss_one (ps_ret pe_bl)))), ?_⟩
    have q' : ∀ b H', goesO o ns = b → Same H H' → Q (.bl b) H' := fun b H' e sm => by
      subst e
      exact q H' sm
    rcases hx with ⟨p, ys, ds, rfl, hq, hl, hl2, hok, rfl⟩ | ⟨hn, rfl⟩
    · refine ⟨_, rfl, .ref p, some ys, rfl, .inl ⟨p, ys, rfl, hq, rfl⟩, fun H1 sm1 => ⟨_, rfl, iteF ?_⟩⟩
      refine ⟨_, rfl, nm, ns.map V.str, rfl, seq_of hns sm1 fun J G wk hG => fun D nD => ?_⟩
      have nD0 : H D = none := PySem.Spec.same_none sm1 nD
      refine dc_it wk (fun i H' => ∃ kvs, H' D = some (.dK kvs) ∧ Keys kvs (ns.take i) ∧ kvs.length ≤ i ∧ Same H H') ⟨[], upd_same, Keys.nil, Nat.le_refl _, same_put sm1 nD0⟩ (fun i H' _ ⟨_, _, _, _, sm⟩ => hG _ sm) ?_ ?_
      · rintro i x H2 H3 hi ⟨kvs, hD, hk, hkl, sm⟩ ⟨rfl, hx⟩
        obtain ⟨z, rfl, hz⟩ : ∃ z, x = V.str z ∧ ns[i]? = some z := by
          rw [List.getElem?_map] at hx
          cases e : ns[i]? with
          | none => rw [e] at hx; cases hx
          | some z => rw [e] at hx; exact ⟨z, (Option.some.inj hx).symm, rfl⟩
        rw [List.length_map] at hi
        refine ⟨rfl, _, rfl, kvs, .inr z, rfl, hD, small1000 (by omega), _, upd_same, ?_, Nat.le_trans (length_putK _ _ _) (by omega), same_put sm nD0⟩
        rw [List.take_succ, hz]
        exact hk.put z _
      · rintro H2 ⟨kvs0, hD0, hk0, hkl0, sm0⟩
        rw [List.length_map] at hk0 hkl0
        rw [List.take_length] at hk0
        -- the steps
        refine ⟨_, rfl, p, ys, rfl, seq_of hq sm0 fun J G wk hG => for_it wk (fun i σ H' => ∃ (y2 y4 y5 y6 : Option V) (kvs : List (Key × V)) (kn : List Str), σ = [some (.ref p), some (.ref nm), y2, some (.ref D), y4, y5, y6] ∧ H' D = some (.dK kvs) ∧ Keys kvs kn ∧ kvs.length ≤ 500 + i ∧ Same H H' ∧ goesB ds ns = goesB (ds.drop i) kn)
          ⟨none, none, none, none, kvs0, ns, rfl, hD0, hk0, by omega, sm0, rfl⟩ (fun i σ H' _ ⟨_, _, _, _, _, _, _, _, _, _, sm, _⟩ => hG _ sm) ?_ ?_⟩
        · rintro i y σ H3o H3 hi ⟨y2, y4, y5, y6, kvs, kn, rfl, hD, hk, hkl, sm, hg⟩ ⟨rfl, hy⟩
          have hid : i < ds.length := by omega
          have hd : ds[i]? = some ds[i] := List.getElem?_eq_getElem hid
          have hdr : ds.drop i = ds[i] :: ds.drop (i + 1) := List.drop_eq_getElem_cons hid
          have sd := (hok i y _ hy hd).same sm
          rw [hdr] at hg
          have no : stepB ds[i] kn = none → goesO (some ds) ns = false := fun z => by
            show goesB ds ns = false
            rw [hg]
            unfold goesB
            rw [z]
          generalize ds[i] = d0 at sd hg no
          have ret : stepB d0 kn = none → ∀ H', Same H H' → Q (.bl false) H' := fun z H' sm' => q' _ _ (no z) sm'
          cases d0 with
          | bad =>
            rcases sd with h | ⟨yp, xs, rfl, h, h2⟩
            · exact ⟨_, rfl, y, 2, false, rfl, .inr ⟨h, rfl⟩, _, rfl, iteT (ret rfl _ sm)⟩
            · exact ⟨_, rfl, .ref yp, 2, false, rfl, .inl ⟨yp, xs, rfl, h, (decide_eq_false h2).symm⟩, _, rfl, iteT (ret rfl _ sm)⟩
          | pair n d =>
            obtain ⟨yp, z, rfl, h, ha, dd⟩ := sd
            refine ⟨_, rfl, .ref yp, 2, true, rfl, .inl ⟨yp, _, rfl, h, rfl⟩, _, rfl, iteF ?_⟩
            refine ⟨_, rfl, yp, _, 0, n, rfl, rfl, h, atI_nat (j := 0) rfl, n, txtOf n, rfl, tx_atom ha, fun H4 sm4 => ⟨_, rfl, ?_⟩⟩
            cases hn : nameO (txtOf n) with
            | false =>
              exact iteT (ret (step_name hn d kn) _ (sm.trans sm4))
            | true =>
              obtain ⟨s, rfl⟩ : ∃ s, n = .str s := by
                cases n with
                | str s => exact ⟨s, rfl⟩
                | _ => cases hn
              have hns' : nameS s = true := hn
              refine iteF ?_
              have h4 := sqT_same h sm4
              refine ⟨_, rfl, yp, _, 1, z, rfl, rfl, h4, atI_nat (j := 1) rfl, z, d, rfl, dd.same sm4, fun H5 sm5 => ⟨_, rfl, ?_⟩⟩
              have h5 := sqT_same h4 sm5
              have S5 : Same H3 H5 := sm4.trans sm5
              cases hdd : deedO d with
              | false =>
                refine iteT (ret ?_ _ (sm.trans S5))
                cases d with
                | none => rfl
                | some xs =>
                  have hdl : deedL xs = false := hdd
                  rw [step_str, hdl]
                  simp
              | true =>
                refine iteF ?_
                cases d with
                | none => cases hdd
                | some xs =>
                  have hdl : deedL xs = true := hdd
                  rcases dd with ⟨zp, xs', rfl, hz, hat, hlen, e⟩ | ⟨_, e⟩
                  · cases e
                    obtain ⟨w0, r, k, rfl, hf, hall⟩ := deed_shape hdl
                    have hz5 := sqT_same hz S5
                    have hD5 := S5 _ _ hD
                    have g5 : DGet H5 D (.str s) (valV kvs (.inr s)) := DGet.k (k := (.inr s : Key)) hD5
                    refine ⟨_, rfl, yp, _, rfl, h5, rfl, _, _, rfl, _, _, rfl, rfl, ?_⟩
                    refine ⟨_, rfl, _, rfl, D, _, rfl, g5, _, rfl, ?_⟩
                    rw [hk s]
                    by_cases hsk : s ∈ kn
                    · refine iteT2 (decide_eq_true hsk) (ret ?_ _ (sm.trans S5))
                      rw [step_str]
                      simp [hsk]
                    · refine iteF2 (decide_eq_false hsk) ?_
                      refine ⟨_, rfl, zp, w0, r, k, rfl, hz5, hf, fun sp nsp => ⟨sp, rfl, ⟨_, .inl (.inl upd_same)⟩, fun D2 nD2 => ?_⟩⟩
                      have S6 : Same H5 (upd H5 sp (.tup (r.take k))) := same_upd nsp
                      refine lc_it (walk_tup (K := K) (a := sp) (xs := r.take k)) (fun i H1 => ∃ bs : List Bool, H1 D2 = some (.lst (bs.map V.bl)) ∧ bs = ((r.take k).take i).map (knownV kn) ∧ Same (upd H5 sp (.tup (r.take k))) H1) ⟨[], upd_same, rfl, same_upd nD2⟩ ?_ ?_ ?_
                      · rintro i H1 _ ⟨bs, _, _, sm⟩
                        exact .inl (.inl (sm _ _ upd_same))
                      · rintro i x H6 H7 hi ⟨bs, hD2, hbs, sm6⟩ ⟨rfl, hx⟩
                        have hxn : nameV x = true := List.all_eq_true.mp hall x (List.mem_of_getElem? hx)
                        obtain ⟨u, rfl⟩ : ∃ u, x = .str u := by
                          cases x with
                          | str u => exact ⟨u, rfl⟩
                          | _ => cases hxn
                        have g6 : DGet H7 D (.str u) (valV kvs (.inr u)) := DGet.k (k := (.inr u : Key)) (sm6 _ _ (S6 _ _ hD5))
                        refine ⟨rfl, _, rfl, _, rfl, D, _, rfl, g6, ?_⟩
                        rw [hk u]
                        refine ⟨_, hD2, ?_, bs ++ [knownV kn (.str u)], by rw [upd_same, List.map_append]; rfl, ?_, same_put sm6 nD2⟩
                        · have hk5 := (formOf_small hf).2
                          rw [List.length_map, hbs, List.length_map, List.length_take, List.length_take]
                          exact small1000 (by omega)
                        · rw [List.take_succ, List.map_append, hx, hbs]
                          rfl
                      · rintro H6 ⟨bs, hD2, hbs, sm6⟩
                        rw [List.take_length] at hbs
                        have S7 : Same H H6 := sm.trans (S5.trans (S6.trans sm6))
                        refine ⟨D2, bs, rfl, .inl (.inl hD2), _, rfl, ?_⟩
                        have eall : bs.all id = (namesL (.str w0 :: r)).all fun u => decide (u ∈ kn) := by
                          rw [hbs, names_is hf, List.all_map]
                          exact known_all kn _ hall
                        rw [eall]
                        cases e : (namesL (.str w0 :: r)).all fun u => decide (u ∈ kn) with
                        | false =>
                          refine iteT (ret ?_ _ S7)
                          rw [step_str, e]
                          simp
                        | true =>
                          refine iteF ?_
                          have hD7 : H6 D = some (.dK kvs) := sm6 _ _ (S6 _ _ hD5)
                          refine ⟨_, rfl, _, rfl, D, _, rfl, DPut.k (k := (.inr s : Key)) hD7 (small1000 (by omega)), ?_⟩
                          have st : stepB (.pair (.str s) (some (.str w0 :: r))) kn = some s := by
                            rw [step_str, e]
                            simp [hns', hdl, hsk]
                          refine ⟨_, _, _, _, _, kn ++ [s], rfl, upd_same, hk.put s _, Nat.le_trans (length_putK _ _ _) (by omega), same_put S7 nD0, ?_⟩
                          rw [hg]
                          show goesB (_ :: _) kn = _
                          conv => lhs; unfold goesB
                          rw [st]
                  · cases e
        · rintro σ H3 ⟨y2, y4, y5, y6, kvs, kn, rfl, hD, hk, hkl, sm, hg⟩
          refine q' _ _ ?_ sm
          show goesB ds ns = true
          rw [hg, hl, List.drop_length]
          rfl
    · exact ⟨_, rfl, x, none, rfl, .inr ⟨hn, rfl⟩, fun H1 sm1 => ⟨_, rfl, iteT (q' _ _ rfl sm1)⟩⟩
end
end N4

set_option Elab.async false
set_option linter.all false
set_option maxRecDepth 100000
set_option maxHeartbeats 2000000
namespace N5
open PySem PySem.Spec PyProof.Rows L2 Cau Dr27 N1 N2 N3 N4
section
variable {P : Program} {w : World} {K : PySem.W.Frag} {mg : Str → Option Value} {base : Heap}
def goesN : List Str := ["value", "names", "known", "step", "one"]
theorem scG : FnScope goesN ["value", "names"] (defScope sGoesOn) := ⟨rfl, rfl, rfl, by decide +kernel, rfl, by decide +kernel, by decide +kernel⟩
theorem inV_kn (s : Str) (kn : List Str) : inV (.str s) (kn.map V.str) = decide (s ∈ kn) := by
  rw [inV_strs, Bool.eq_iff_iff]
  simp
theorem ok_goes {f fN fD fDN : Addr} {fd fdN fdD fdDN : FuncData} (F : Fun K "_law_goes_on" "_law_goes_on" sGoesOn f fd)
    (FN : Fun K "_law_is_name" "_law_is_name" sLName fN fdN) (GN : FnOk P w K mg base CX0 1 fN fdN ["value"] (spName K)) (bN : Binds K fdN ["value"] []) (gN : mg "_law_is_name" = some (.ref fN))
    (FD : Fun K "_law_is_deed" "_law_is_deed" sLDeed fD fdD) (GD : FnOk P w K mg base CX0 2 fD fdD ["value"] (spDeed K)) (bD : Binds K fdD ["value"] []) (gD : mg "_law_is_deed" = some (.ref fD))
    (FDN : Fun K "_law_deed_names" "_law_deed_names" sLDeedNames fDN fdDN) (GDN : FnOk P w K mg base CX0 2 fDN fdDN ["deed"] (spLDN K)) (bDN : Binds K fdDN ["deed"] []) (gDN : mg "_law_deed_names" = some (.ref fDN))
    (mi : mg "isinstance" = none) (mt : mg "tuple" = none) (mli : mg "list" = none) (ml : mg "len" = none) : FnOk P w K mg base CX0 3 f fd ["value", "names"] (spSteps K) := by
  refine F.ok scG (fun vs H Q E h => ?_) (fun cdv A outer s H vs Q E hr h => ?_)
  · obtain ⟨x, o, nm, ns, rfl, _⟩ := h
    rfl
  · obtain ⟨x, o, nm, ns, rfl, hx, hns, hnl, q⟩ := h
    have hr1 : Room 1 _ := hr.mono (by decide)
    refine ⟨_, pss_cons (ps_if (pt_not (pt_val (pe_callB call_isiT (by rfl) mi (by decide +kernel) (pa_cons (pv 0) (pa_cons (pe_tup (pa_cons (pe_bltn (v := .ty "list") (by rfl) mli (by decide +kernel) rfl) (pa_cons (pe_bltn (v := .ty "tuple") (by rfl) mt (by decide +kernel) rfl) pa_nil))) pa_nil))))) (pss_one (ps_ret pe_bl)) pss_nil)
      (pss_cons (ps_set (i := 2) scG.nd rfl (.inr rfl) (pe_callTy call_list_of (by rfl) mli (by decide +kernel) (pa_cons (pv 1) pa_nil)))
      (pss_cons (ps_for PassesOwn.never rfl (pi_seq (pv 0)) (pg_name (i := 3) scG.nd rfl (.inl rfl))
        (pss_cons (ps_if (PW.pt (pw_or (pt_not (pt_val (pe_callB call_isi (by rfl) mi (by decide +kernel) (pa_cons (pv 3) (pa_cons (pe_bltn (v := .ty "tuple") (by rfl) mt (by decide +kernel) rfl) pa_nil)))))
            (pw_or (pt_cmpR op_ne (pe_callB call_len_seq (by rfl) ml PySem.boot_len (pa_cons (pv 3) pa_nil)) pe_int (by rfl))
            (pw_or (pt_not (pt_val (pe_call GN hr1 (by rfl) gN FN.kp bN .nil pass0 (pa_cons (pe_ix ix_tup (pv 3) pe_int (fun _ _ => rfl)) pa_nil))))
            (pw_or1 (pt_cmpR op_in_seq (pe_ix ix_tup (pv 3) pe_int (fun _ _ => rfl)) (pv 2) (by rfl))))))) (pss_one (ps_ret pe_bl)) pss_nil)
        (pss_cons (ps_if (PW.pt (pw_or (pt_not (pt_val (pe_call GD hr (by rfl) gD FD.kp bD .nil pass0 (pa_cons (pe_ix ix_tup (pv 3) pe_int (fun _ _ => rfl)) pa_nil))))
            (pw_or1 (pt_cmpR (op_neD hr.units)
              (pe_lc (own := [("one", 4)]) (g := gName 4) rfl scG.nd (pi_list (pe_call GDN hr (by rfl) gDN FDN.kp bDN .nil pass0 (pa_cons (pe_ix ix_tup (pv 3) pe_int (fun _ _ => rfl)) pa_nil)))
                (blkOk_by (own := [("one", 4)]) (N := goesN) (sc := defScope sGoesOn) (by decide +kernel))
                (fun _ _ _ _ _ => pg_name (i := 4) scG.nd rfl (.inl rfl)) (fun _ _ _ _ _ => pts_one (pt_cmpR (show OpR _ (compareOp .NotIn) (rIn K true) from op_notIn_seq) (pv 4) (pv 2) (by rfl)))
                (fun _ _ _ _ _ => pv 4)) (pe_lst pa_nil) (by rfl))))) (pss_one (ps_ret pe_bl)) pss_nil)
        (pss_one (ps_expr (pe_bm PySem.F.plainAttrs_list PySem.F.slot_list_append PySem.F.type_list_append mt_append (pv 2) (pa_cons (pe_ix ix_tup (pv 3) pe_int (fun _ _ => rfl)) pa_nil)))))))
      (pss_one (ps_ret pe_bl)))), ?_⟩
    have q' : ∀ b H', goesO o ns = b → Same H H' → Q (.bl b) H' := fun b H' e sm => by
      subst e
      exact q H' sm
    refine ⟨_, rfl, by show 2 ≤ sizeLine; decide, fun t nt => ?_⟩
    have S1 : Same H (upd H t (.tup [.ty "list", .ty "tuple"])) := same_upd nt
    rcases hx with ⟨p, ys, ds, rfl, hq, hl, hl2, hok, rfl⟩ | ⟨hn, rfl⟩
    · obtain ⟨ty, h1, h2⟩ := isi_lt (lv_same (.inl ⟨p, ys, rfl, hq, rfl⟩ : Lv K H (.ref p) (some ys)) S1)
      refine ⟨.ref p, t, [.ty "list", .ty "tuple"], ty, [.type "list", .type "tuple"], true, rfl, upd_same, .cons (.ty _) (.cons (.ty _) .nil), h1, h2, _, rfl, iteF ?_⟩
      refine ⟨_, rfl, nm, ns.map V.str, rfl, hns.same S1, fun D nD => ?_⟩
      have nD0 : H D = none := PySem.Spec.same_none S1 nD
      have S2 : Same H (upd (upd H t (.tup [.ty "list", .ty "tuple"])) D (.lst (ns.map V.str))) := same_put S1 nD0
      refine ⟨_, rfl, p, ys, rfl, seq_of hq S2 fun J G wk hG => for_it wk (fun i σ H' => ∃ (y3 y4 : Option V) (kn : List Str), σ = [some (.ref p), some (.ref nm), some (.ref D), y3, y4] ∧ H' D = some (.lst (kn.map V.str)) ∧ kn.length ≤ 500 + i ∧ Same H H' ∧ goesB ds ns = goesB (ds.drop i) kn)
        ⟨none, none, ns, rfl, upd_same, by omega, S2, rfl⟩ (fun i σ H' _ ⟨_, _, _, _, _, _, sm, _⟩ => hG _ sm) ?_ ?_⟩
      · rintro i y σ H3o H3 hi ⟨y3, y4, kn, rfl, hD, hkl, sm, hg⟩ ⟨rfl, hy⟩
        have hid : i < ds.length := by omega
        have hd : ds[i]? = some ds[i] := List.getElem?_eq_getElem hid
        have hdr : ds.drop i = ds[i] :: ds.drop (i + 1) := List.drop_eq_getElem_cons hid
        have sd := (hok i y _ hy hd).same sm
        rw [hdr] at hg
        have no : stepB ds[i] kn = none → goesO (some ds) ns = false := fun z => by
          show goesB ds ns = false
          rw [hg]
          unfold goesB
          rw [z]
        generalize ds[i] = d0 at sd hg no
        have ret : stepB d0 kn = none → ∀ H', Same H H' → Q (.bl false) H' := fun z H' sm' => q' _ _ (no z) sm'
        cases d0 with
        | bad =>
          rcases sd with h | ⟨yp, xs, rfl, h, h2⟩
          · obtain ⟨t, ht, hb⟩ := h.ty (K := K)
            exact ⟨_, rfl, y, .ty "tuple", .type t, .type "tuple", false, rfl, .ty _, ht, kit_ty hb, false, rfl, iteT (ret rfl _ sm)⟩
          · refine ⟨_, rfl, .ref yp, .ty "tuple", .type "tuple", .type "tuple", true, rfl, .ty _, sqT_ty h, kit_ty (by decide +kernel), true, rfl, iteF ?_⟩
            refine ⟨_, rfl, yp, xs, rfl, .inr h, rfl, _, rfl, iteT2 ?_ (ret rfl _ sm)⟩
            rw [decide_eq_false fun z => h2 (by simp at z; omega)]
            rfl
        | pair n d =>
          obtain ⟨yp, z, rfl, h, ha, dd⟩ := sd
          refine ⟨_, rfl, .ref yp, .ty "tuple", .type "tuple", .type "tuple", true, rfl, .ty _, sqT_ty h, kit_ty (by decide +kernel), true, rfl, iteF ?_⟩
          refine ⟨_, rfl, yp, [n, z], rfl, .inr h, rfl, _, rfl, iteF2 rfl ?_⟩
          refine ⟨_, rfl, yp, _, 0, n, rfl, rfl, h, atI_nat (j := 0) rfl, n, txtOf n, rfl, tx_atom ha, fun H4 sm4 => ⟨_, rfl, ?_⟩⟩
          cases hn : nameO (txtOf n) with
          | false => exact iteT (ret (step_name hn d kn) _ (sm.trans sm4))
          | true =>
            obtain ⟨s, rfl⟩ : ∃ s, n = .str s := by
              cases n with
              | str s => exact ⟨s, rfl⟩
              | _ => cases hn
            have hns' : nameS s = true := hn
            refine iteF ?_
            have h4 := sqT_same h sm4
            have hD4 := sm4 _ _ hD
            have flat : (kn.map V.str).all flatV = true := strs_flat _
            refine ⟨_, rfl, yp, _, 0, _, rfl, rfl, h4, atI_nat (j := 0) rfl, _, rfl, D, kn.map V.str, rfl, .inl (.inl (.inl hD4)), rfl, flat, _, rfl, ?_⟩
            show if inV (.str s) (kn.map V.str) = true then _ else _
            rw [inV_kn]
            by_cases hsk : s ∈ kn
            · refine iteT2 (decide_eq_true hsk) (ret ?_ _ (sm.trans sm4))
              cases d with
              | none => rfl
              | some xs =>
                rw [step_str]
                simp [hsk]
            · refine iteF2 (decide_eq_false hsk) ?_
              refine ⟨_, rfl, yp, _, 1, z, rfl, rfl, h4, atI_nat (j := 1) rfl, z, d, rfl, dd.same sm4, fun H5 sm5 => ⟨_, rfl, ?_⟩⟩
              have h5 := sqT_same h4 sm5
              have S5 : Same H3 H5 := sm4.trans sm5
              cases hdd : deedO d with
              | false =>
                refine iteT (ret ?_ _ (sm.trans S5))
                cases d with
                | none => rfl
                | some xs =>
                  have hdl : deedL xs = false := hdd
                  rw [step_str, hdl]
                  simp
              | true =>
                refine iteF ?_
                cases d with
                | none => cases hdd
                | some xs =>
                  have hdl : deedL xs = true := hdd
                  rcases dd with ⟨zp, xs', rfl, hz, hat, hlen, e⟩ | ⟨_, e⟩
                  · cases e
                    obtain ⟨w0, r, k, rfl, hf, hall⟩ := deed_shape hdl
                    have hz5 := sqT_same hz S5
                    have hD5 := S5 _ _ hD
                    refine ⟨_, rfl, yp, _, 1, _, rfl, rfl, h5, atI_nat (j := 1) rfl, zp, w0, r, k, rfl, hz5, hf, fun H6 l sm6 nl hl6 => ⟨l, rfl, ⟨_, .inl (.inl hl6)⟩, fun D2 nD2 => ?_⟩⟩
                    have hk5 := (formOf_small hf).2
                    refine lc_list (K := K) (a := l) (xs := r.take k) (fun i H1 => ∃ bs : List V, H1 D2 = some (.lst bs) ∧ bs = ((r.take k).take i).filter (fun v => !knownV kn v) ∧ Same H6 H1) ⟨[], upd_same, rfl, same_upd nD2⟩ ?_ ?_ ?_
                    · rintro i H1 _ ⟨bs, _, _, sm⟩
                      exact .inl (.inl (sm _ _ hl6))
                    · rintro i x H7 hx ⟨bs, hD2, hbs, sm7⟩
                      have hxn : nameV x = true := List.all_eq_true.mp hall x (List.mem_of_getElem? hx)
                      obtain ⟨u, rfl⟩ : ∃ u, x = .str u := by
                        cases x with
                        | str u => exact ⟨u, rfl⟩
                        | _ => cases hxn
                      have hbl : bs.length < 9 := by
                        have h2 := List.length_filter_le (fun v => !knownV kn v) ((r.take k).take i)
                        rw [List.length_take, List.length_take] at h2
                        rw [hbs]
                        omega
                      have step : ((r.take k).take (i + 1)).filter (fun v => !knownV kn v) = bs ++ (if knownV kn (.str u) = true then [] else [.str u]) := by
                        rw [hbs, List.take_succ, List.filter_append, hx]
                        cases e : knownV kn (.str u) <;> simp [e]
                      have hD7 := sm7 _ _ (sm6 _ _ hD5)
                      refine ⟨rfl, _, rfl, _, rfl, D, kn.map V.str, rfl, .inl (.inl (.inl hD7)), rfl, flat, _, rfl, ?_⟩
                      show if (!inV (.str u) (kn.map V.str)) = true then _ else _
                      rw [inV_kn, show decide (u ∈ kn) = knownV kn (.str u) from rfl]
                      cases e : knownV kn (.str u) with
                      | true =>
                        refine iteF2 rfl ⟨bs, hD2, ?_, sm7⟩
                        rw [step, e]
                        simp
                      | false =>
                        refine iteT2 rfl ⟨_, rfl, _, hD2, small1000 (by omega), bs ++ [.str u], upd_same, ?_, same_put sm7 nD2⟩
                        rw [step, e]
                        rfl
                    · rintro H7 ⟨bs, hD2, hbs, sm7⟩
                      rw [List.take_length] at hbs
                      refine ⟨by show 0 ≤ sizeLine; exact Nat.zero_le _, fun l2 nl2 => ?_⟩
                      have nDl : D2 ≠ l2 := by
                        rintro rfl
                        rw [nl2] at hD2
                        cases hD2
                      have hbat : ∀ x ∈ bs, AtomV x = true := fun x hx => by
                        rw [hbs] at hx
                        exact List.all_eq_true.mp hat x (List.mem_cons_of_mem _ (List.mem_of_mem_take (List.mem_filter.mp hx).1))
                      have S7 : Same H (upd H7 l2 (.lst [])) := sm.trans (S5.trans (sm6.trans (sm7.trans (same_upd nl2))))
                      refine ⟨_, _, .lst (.inl (.inl (by rw [upd_ne nDl]; exact hD2))) (dpAll_atoms bs hbat), dp_nil upd_same, shaped_atoms hbat, shaped_nil, _, rfl, ?_⟩
                      rw [eqv_nil]
                      have eall : bs.isEmpty = (namesL (.str w0 :: r)).all fun u => decide (u ∈ kn) := by
                        rw [names_is hf, ← known_all kn _ hall, hbs, Bool.eq_iff_iff, List.isEmpty_iff, List.filter_eq_nil_iff, List.all_eq_true]
                        simp
                      rw [eall]
                      cases e : (namesL (.str w0 :: r)).all fun u => decide (u ∈ kn) with
                      | false =>
                        refine iteT (ret ?_ _ S7)
                        rw [step_str, e]
                        simp
                      | true =>
                        refine iteF ?_
                        have hD8 : (upd H7 l2 (.lst [])) D = some (.lst (kn.map V.str)) := same_upd nl2 _ _ (sm7 _ _ (sm6 _ _ hD5))
                        have h8 := sqT_same h5 (sm6.trans (sm7.trans (same_upd (o := .lst []) nl2)))
                        refine ⟨_, rfl, .inl ⟨rfl, _, .inl (.inl hD8)⟩, _, rfl, yp, _, 0, _, rfl, rfl, h8, atI_nat (j := 0) rfl, D, _, _, rfl, rfl, hD8, ?_, ?_⟩
                        · rw [List.length_map]
                          exact small1000 (by omega)
                        · have st : stepB (.pair (.str s) (some (.str w0 :: r))) kn = some s := by
                            rw [step_str, e]
                            simp [hns', hdl, hsk]
                          refine ⟨_, _, kn ++ [s], rfl, ?_, ?_, same_put S7 nD0, ?_⟩
                          · rw [upd_same, List.map_append]
                            rfl
                          · rw [List.length_append]
                            simp
                            omega
                          · rw [hg]
                            show goesB (_ :: _) kn = _
                            conv => lhs; unfold goesB
                            rw [st]
                  · cases e
      · rintro σ H3 ⟨y3, y4, kn, rfl, hD, hkl, sm, hg⟩
        refine q' _ _ ?_ sm
        show goesB ds ns = true
        rw [hg, hl, List.drop_length]
        rfl
    · obtain ⟨ty, h1, h2⟩ := isi_lt (lv_same (.inr ⟨hn, rfl⟩ : Lv K H x none) S1)
      exact ⟨x, t, [.ty "list", .ty "tuple"], ty, [.type "list", .type "tuple"], false, rfl, upd_same, .cons (.ty _) (.cons (.ty _) .nil), h1, h2, _, rfl, iteT (q' _ _ rfl S1)⟩
end
end N5

set_option Elab.async false
set_option linter.all false
set_option maxRecDepth 100000
set_option maxHeartbeats 2000000
/-! Sets of texts: made of a list or tuple, counted, sorted. -/
namespace TxtSet
open PySem PySem.Spec PyProof.Rows L2 Cau
/-- the text of an entry -/
def txE (e : Int × Value) : Str := match e.2 with
  | .str z _ => z
  | _ => ""
/-- an entry that is a text -/
def TxE (w : World) (e : Int × Value) : Prop := ∃ z tk, e.2 = Value.str z tk ∧ e.1 = hashStr w z
/-- the set of the texts L at a -/
structure SetS (w : World) (h : Heap) (a : Addr) (L : List Str) (o : Obj) (es : Array (Int × Value)) (ep : Nat) (t : SetTable) : Prop where
  ob : h.get? a = some o
  ex : o.ExactSet
  dat : o.data = .set es ep t
  tx : ∀ e ∈ es.toList, TxE w e
  nd : L.Nodup
  pm : (es.toList.map txE).Perm L
  few : L.length < 100
  fit : t.fits es.size = true
  ris : Ris t.place.toList
  led : w.params.followText "set-order" = true ∨ t.led = true
section
variable {P : Program} {w : World} {h h' : Heap} {a : Addr} {L : List Str} {o : Obj} {es : Array (Int × Value)} {ep : Nat} {t : SetTable}
theorem SetS.size (R : SetS w h a L o es ep t) : es.size = L.length := by
  rw [← Array.length_toList, ← List.length_map (f := txE), R.pm.length_eq]
theorem SetS.keep (R : SetS w h a L o es ep t) (k : ∀ o, h.get? a = some o → h'.get? a = some o) : SetS w h' a L o es ep t :=
  { ob := k o R.ob, ex := R.ex, dat := R.dat, tx := R.tx, nd := R.nd, pm := R.pm, few := R.few, fit := R.fit, ris := R.ris, led := R.led }
theorem tx_elems {l : List (Int × Value)} (g : ∀ e ∈ l, TxE w e) : ElemsOf (strKind P w) l := fun e he => by
  obtain ⟨z, tk, h1, h2⟩ := g e he
  refine ⟨⟨z, ?_, h2⟩, ?_⟩
  · rw [h1]
    exact strKind_is P w z tk
  · rw [h1]
    rfl
theorem tx_is {e : Int × Value} (g : TxE w e) (z : Str) : (strKind P w).is z e.2 = true ↔ txE e = z := by
  obtain ⟨y, tk, h1, _⟩ := g
  unfold txE
  rw [h1]
  constructor
  · intro q
    exact (strKind P w).inj _ _ _ (strKind_is P w y tk) q
  · intro q
    have q' : y = z := q
    subst q'
    exact strKind_is P w y tk
theorem SetS.bound (R : SetS w h a L o es ep t) : es.size < scanBound := by
  rw [R.size]
  exact Nat.lt_trans R.few (by decide)
end
section
variable {P : Program} {w : World} {A : Around} {E : Value → Shared → Prop} {s : Shared} {a : Addr} {L : List Str}
/-- once the entry has its place: the table may be laid anew -/
theorem put_end {g : Bool → Sem Unit} (hg : ∀ (b : Bool) (s₁ : Shared) (Q' : Unit → Shared → Prop), Q' () s₁ → wpAny (model P w) A (g b) Q' E s₁) {o : Obj} {es : Array (Int × Value)} {ep : Nat} {t : SetTable}
    (ho : s.heap.get? a = some o) (hex : o.ExactSet) (hd : o.data = .set es ep t) {new : Array (Int × Value)} {tab : SetTable} (tx : ∀ e ∈ new.toList, TxE w e) (nd : L.Nodup) (pm : (new.toList.map txE).Perm L) (few : L.length < 100)
    (fit : tab.fits new.size = true) (ris : Ris tab.place.toList) (led : w.params.followText "set-order" = true ∨ tab.led = true) {dummy : Bool} {R : Option Bool → Shared → Prop}
    (hR : ∀ h' o' es' ep' t', Heap.SameBut a s.heap h' → SetS w h' a L o' es' ep' t' → R (some true) { s with heap := h' }) :
    wpAny (model P w) A (do
        storeSet a new tab
        if (!dummy && tab.tooFull) = true then do
            g (relayAll tab new (SetTable.grown new.size)).2.2
            storeSet a (relayAll tab new (SetTable.grown new.size)).1 (relayAll tab new (SetTable.grown new.size)).2.1
            pure (some true)
          else pure (some true)) R E s := by
  have small : new.size < scanBound := by
    rw [← Array.length_toList, ← List.length_map (f := txE), pm.length_eq]
    exact Nat.lt_trans few (by decide)
  have fits1 := fits_of_scanBound small
  have at1 := store_at (es' := new) (t' := tab) ho hd
  have sb1 := Heap.SameBut.update s.heap a (Obj.putSet new tab)
  have plain : R (some true) { s with heap := s.heap.update a (Obj.putSet new tab) } := hR _ _ _ _ _ sb1 { ob := at1, ex := hex, dat := rfl, tx := tx, nd := nd, pm := pm, few := few, fit := fit, ris := ris, led := led }
  refine wpAny_bind (wpAny_storeSet_of ho hd ?_ fits1)
  split
  case isTrue =>
    obtain ⟨Z, hZ⟩ : ∃ Z, Z = relayAll tab new (SetTable.grown new.size) := ⟨_, rfl⟩
    have p2 := relayAll_perm tab new (SetTable.grown new.size)
    have f2 := relayAll_fits tab new (SetTable.grown new.size)
    have r2 := relayAll_ris tab new (SetTable.grown new.size)
    have l2 := relayAll_led tab new (SetTable.grown new.size)
    rw [← hZ] at p2 f2 r2 l2 ⊢
    have sz : Z.1.size = new.size := by
      have q := p2.length_eq
      rw [Array.length_toList, Array.length_toList] at q
      exact q
    refine wpAny_bind (hg _ _ _ ?_)
    have small2 : Z.1.size < scanBound := sz ▸ small
    refine wpAny_bind (wpAny_storeSet_of at1 rfl ?_ (fits_of_scanBound small2))
    have at2 := store_at (es' := Z.1) (t' := Z.2.1) at1 rfl
    have fin : SetS w _ a L _ Z.1 _ Z.2.1 := { ob := at2, ex := hex, dat := rfl, tx := fun e he => tx e (p2.mem_iff.mp he), nd := nd, pm := (p2.map txE).trans pm, few := few, fit := f2, ris := r2, led := led.imp id fun z => l2.trans z }
    exact wpAny_pure (hR _ _ _ _ _ (sb1.trans (Heap.SameBut.update _ a _)) fin)
  all_goals exact wpAny_pure plain
/-- the set behind an add -/
def added (L : List Str) (z : Str) : List Str := if z ∈ L then L else z :: L
theorem put_txt {z : Str} {tk : Tok} {o : Obj} {es : Array (Int × Value)} {ep : Nat} {t : SetTable} {Q : Bool → Shared → Prop} (R : SetS w s.heap a L o es ep t) (room : L.length + 1 < 100)
    (hQ : ∀ b h' o' es' ep' t', Heap.SameBut a s.heap h' → SetS w h' a (added L z) o' es' ep' t' → Q b { s with heap := h' }) : wpAny (model P w) A (setAddHashed a (.str z tk) (hashStr w z)) Q E s := by
  have key : (strKind P w).is z (.str z tk) = true := strKind_is P w z tk
  have scn : (Value.str z tk).scannable = true := rfl
  have el : ElemsOf (strKind P w) es.toList := tx_elems R.tx
  have hh : hashStr w z = (strKind P w).hash z := rfl
  have bnd := R.bound
  rw [hh]
  unfold setAddHashed setAddHashedIn
  refine wpAny_holding (wpAny_bind (wpAny_setState_of R.ob R.dat R.fit ?_))
  dsimp only
  rw [byScan_of scn bnd el]
  simp only [↓reduceIte]
  unfold setAddByScan
  refine wpAny_bind (wpAny_bind (wpAny_rule ?_))
  refine wpAny_bind (wpAny_setScan_of key R.ob R.dat R.fit el ?_)
  have there : z ∈ L ↔ ∃ e ∈ es.toList, (strKind P w).is z e.2 = true := by
    rw [← R.pm.mem_iff, List.mem_map]
    exact ⟨fun ⟨e, he, q⟩ => ⟨e, he, (tx_is (R.tx e he) z).mpr q⟩, fun ⟨e, he, q⟩ => ⟨e, he, (tx_is (R.tx e he) z).mp q⟩⟩
  cases hf : List.findIdx? (fun e => (strKind P w).is z e.2) es.toList with
  | some j =>
    obtain ⟨hj, pj, _⟩ := List.findIdx?_eq_some_iff_getElem.mp hf
    have hz : z ∈ L := there.mpr ⟨_, List.getElem_mem hj, pj⟩
    refine wpAny_pure (wpAny_pure (hQ _ s.heap o es ep t (Heap.SameBut.refl a s.heap) ?_))
    unfold added
    rw [if_pos hz]
    exact R
  | none =>
    have hz : z ∉ L := fun q => by
      obtain ⟨e, he, y⟩ := there.mp q
      have c := List.findIdx?_eq_none_iff.mp hf e he
      rw [y] at c
      cases c
    have hL : added L z = z :: L := if_neg hz
    rw [hL] at hQ
    have way : ∀ (b : Bool) {s₁ : Shared} {Q' : Unit → Shared → Prop}, Q' () s₁ → wpAny (model P w) A (match b with | true => rule "set.scan.the-table-gave-way" | false => pure ()) Q' E s₁ := by
      intro b s₁ Q' q
      cases b
      · exact wpAny_pure q
      · exact wpAny_rule q
    have p1 := layNew_perm t es ((strKind P w).hash z) (.str z tk)
    have f1 := layNew_fits t es ((strKind P w).hash z) (.str z tk)
    have r1 := layNew_ris t es ((strKind P w).hash z) (.str z tk) R.ris
    have l1 := layNew_led t es ((strKind P w).hash z) (.str z tk)
    dsimp only
    obtain ⟨Z, hZ⟩ : ∃ Z, Z = layNew t es ((strKind P w).hash z) (.str z tk) := ⟨_, rfl⟩
    rw [← hZ] at p1 f1 r1 l1 ⊢
    clear hZ
    obtain ⟨new, tab, dummy, gave⟩ := Z
    dsimp only at p1 f1 r1 l1 ⊢
    rw [Array.toList_push] at p1
    have pc := p1.trans (List.perm_append_singleton _ _)
    have tx : ∀ e ∈ new.toList, TxE w e := fun e he => by
      rcases List.mem_cons.mp (pc.mem_iff.mp he) with q | q
      · exact ⟨z, tk, by rw [q], by rw [q]; rfl⟩
      · exact R.tx e q
    have pm : (new.toList.map txE).Perm (z :: L) := (pc.map txE).trans (List.Perm.cons _ R.pm)
    have nd : (z :: L).Nodup := List.nodup_cons.mpr ⟨hz, R.nd⟩
    have few : (z :: L).length < 100 := room
    have led : w.params.followText "set-order" = true ∨ tab.led = true := R.led.imp id fun q => l1.trans q
    refine wpAny_bind (way _ ?_)
    split
    · refine wpAny_bind ?_
      rw [hashByValue_scannable 8 scn]
      refine wpAny_pure ?_
      refine put_end (L := z :: L) ?_ R.ob R.ex R.dat tx nd pm few ?_ ?_ ?_ ?_
      · intro b s₁ Q' q
        exact way b q
      · first | (split <;> first | exact f1 | exact SetTable.fits_plain_off f1) | exact f1
      · first | (split <;> exact r1) | exact r1
      · first | (split <;> exact led) | exact led
      · intro h' o' es' ep' t' sb r
        exact wpAny_pure (hQ _ h' _ _ _ _ sb r)
    · refine wpAny_bind (wpAny_pure ?_)
      simp only [↓reduceIte]
      refine put_end (L := z :: L) ?_ R.ob R.ex R.dat tx nd pm few f1 r1 led ?_
      · intro b s₁ Q' q
        exact way b q
      · intro h' o' es' ep' t' sb r
        exact wpAny_pure (hQ _ h' _ _ _ _ sb r)
end
/-! ### set(..) -/
/-- behind the first i of the texts -/
def met (zs : List Str) (i : Nat) : List Str := (zs.take i).foldl added []
theorem added_mem {L : List Str} {z y : Str} : y ∈ added L z ↔ y = z ∨ y ∈ L := by
  unfold added
  split
  · rename_i h
    exact ⟨.inr, fun q => q.elim (fun e => e ▸ h) id⟩
  · exact List.mem_cons
theorem added_len (L : List Str) (z : Str) : (added L z).length ≤ L.length + 1 := by
  unfold added
  split
  · exact Nat.le_succ _
  · exact Nat.le_refl _
theorem met_next {zs : List Str} {i : Nat} {z : Str} (h : zs[i]? = some z) : met zs (i + 1) = added (met zs i) z := by
  unfold met
  rw [List.take_succ, h, List.foldl_append]
  rfl
theorem met_len (zs : List Str) : ∀ i, (met zs i).length ≤ i
  | 0 => by simp [met]
  | i + 1 => by
    cases h : zs[i]? with
    | none =>
      have e : met zs (i + 1) = met zs i := by
        unfold met
        rw [List.take_succ, h]
        simp
      rw [e]
      exact Nat.le_succ_of_le (met_len zs i)
    | some z =>
      rw [met_next h]
      exact Nat.le_trans (added_len _ _) (Nat.succ_le_succ (met_len zs i))
theorem met_mem {zs : List Str} {y : Str} : ∀ i, y ∈ met zs i ↔ y ∈ zs.take i
  | 0 => by simp [met]
  | i + 1 => by
    cases h : zs[i]? with
    | none =>
      have e : zs.take (i + 1) = zs.take i := by
        rw [List.take_succ, h]
        simp
      have e2 : met zs (i + 1) = met zs i := by
        unfold met
        rw [e]
      rw [e, e2]
      exact met_mem i
    | some z =>
      rw [met_next h, added_mem, met_mem i, List.take_succ, h]
      simp [or_comm]
/-- a set as it is made -/
def newOb (w : World) : Obj := { cls := .type "set", dict := none, data := .set #[] 0 (.fresh 0 0 (!w.params.followText "set-order")) }
theorem setS_new {w : World} {h : Heap} {a : Addr} (e : h.get? a = some (newOb w)) : SetS w h a [] (newOb w) #[] 0 (.fresh 0 0 (!w.params.followText "set-order")) where
  ob := e
  ex := ⟨rfl, rfl, rfl⟩
  dat := rfl
  tx := fun _ q => by cases q
  nd := List.nodup_nil
  pm := List.Perm.refl _
  few := by decide
  fit := rfl
  ris := List.Pairwise.nil
  led := by
    show _ ∨ (!w.params.followText "set-order") = true
    cases w.params.followText "set-order"
    · exact .inr rfl
    · exact .inl rfl
section
variable {P : Program} {w : World} {A : Around} {E : Value → Shared → Prop} {s : Shared}
theorem upd_loop {I : Addr} {fp wr : List Addr} {G : Array GenState → Array GenState → Prop} {n : Nat} {Pv : Nat → Value → Prop} {St : Nat → Shared → Prop} {R : Result → Shared → Prop} (W : WalksS P w A.in1 I fp wr G n Pv St) (S : Addr) (hS : S ∉ fp) (zs : List Str) (hn : n = zs.length) (few : n < 99)
    (val : ∀ i v, Pv i v → ∃ z t, zs[i]? = some z ∧ v = .str z t) : ∀ (k i : Nat) (s : Shared), n - i = k → i ≤ n → St i s → (∃ o es ep t, SetS w s.heap S (met zs i) o es ep t) →
      (∀ s' o es ep t, Moved (S :: wr) G s s' → SetS w s'.heap S (met zs n) o es ep t → R (.ok (.ret .none)) s') → codeAny (model P w) A (.builtin "set.update.loop" ⟨[.ref S, .ref I], []⟩) R s := by
  have offW : S ∉ wr := fun q => hS (W.sub _ q)
  have wide : ∀ b ∈ wr, b ∈ S :: wr := fun _ q => List.mem_cons_of_mem _ q
  intro k
  induction k with
  | zero =>
    rintro i s hk hi st ⟨o, es, ep, t, r⟩ hR
    obtain rfl : i = n := by omega
    refine codeAny_builtin F.entry_set_update_loop ?_
    rw [Around.under_plainId F.plain_set_update_loop _]
    change wpAny _ A.in1 (pyNext (.ref I) >>= _) _ _ s
    refine wpAny_bind (W.done s _ _ st ?_)
    intro s' mv
    change wpAny _ A.in1 (ret Value.none) _ _ s'
    exact wpAny_pure (hR s' _ _ _ _ (mv.mono wide) (r.keep fun _ e => mv.heap S _ offW e))
  | succ k ih =>
    rintro i s hk hi st ⟨o, es, ep, t, r⟩ hR
    have lt : i < n := by omega
    refine codeAny_builtin F.entry_set_update_loop ?_
    rw [Around.under_plainId F.plain_set_update_loop _]
    change wpAny _ A.in1 (pyNext (.ref I) >>= _) _ _ s
    refine wpAny_bind (W.item i s _ _ lt st ?_)
    intro v s' pv st' mv
    obtain ⟨z, tz, hz, rfl⟩ := val i v pv
    have r' : SetS w s'.heap S (met zs i) o es ep t := r.keep fun _ e => mv.heap S _ offW e
    change wpAny _ A.in1 (holding [Value.str z tz] (setAdd S (.str z tz)) >>= _) _ _ s'
    refine wpAny_bind (wpAny_holding ?_)
    unfold setAdd
    refine wpAny_holding (wpAny_bind ((strKind P w).pyHash (strKind_is P w z tz) ?_))
    have room : (met zs i).length + 1 < 100 := by
      have := met_len zs i
      omega
    refine put_txt (s := { s' with toks := s'.toks + 1 }) r' room ?_
    intro b h' o' es' ep' t' sb r2
    rw [← met_next hz] at r2
    refine wpAny_pure ⟨plainId_quiet F.plain_set_update_loop _, ih (i + 1) _ (by omega) lt (W.frame _ s' _ _ st' (Nat.le_succ _) ?_) ⟨_, _, _, _, r2⟩ ?_⟩
    · intro b hb o e
      rw [sb.2 b fun q : b = S => hS (q ▸ hb)]
      exact e
    · intro s'' o2 es2 ep2 t2 mv2 r3
      refine hR s'' _ _ _ _ (Moved.trans W.gtrans ((mv.mono wide).then_heap (Nat.le_succ _) ?_) mv2) r3
      intro b o hb e
      rw [sb.2 b fun q : b = S => hb (q ▸ List.mem_cons_self)]
      exact e
theorem strs_at : ∀ {us : List Value} {zs : List Str}, StrsAre us zs → ∀ (i : Nat) (v : Value), us[i]? = some v → ∃ z t, zs[i]? = some z ∧ v = .str z t
  | _, _, .nil, i, v, h => by simp at h
  | _, _, .cons z t r, 0, v, h => ⟨z, t, rfl, (Option.some.inj h).symm⟩
  | _, _, .cons z t r, i + 1, v, h => by
    rw [List.getElem?_cons_succ] at h
    exact strs_at r i v h
set_option maxHeartbeats 4000000 in
theorem set_of_list {l : Addr} {items : Array Value} (zs : List Str) {Q : Value → Shared → Prop} (calm : A.handled = none) (seq : s.heap.IsList l items) (txt : StrsAre items.toList zs) (few : zs.length < 99)
    (h : ∀ (h' : Heap) (tk : Nat) o es ep t, SetS w h' s.heap.objs.size (met zs zs.length) o es ep t → (∀ b o, s.heap.get? b = some o → h'.get? b = some o) → Q (.ref s.heap.objs.size) { s with heap := h', toks := tk }) :
    wpAny (model P w) A (call (.type "set") [.ref l]) Q E s := by
  have size : items.size = zs.length := by
    rw [← Array.length_toList]
    exact txt.length
  obtain ⟨c, tl, mro⟩ := F.called_set.mro
  have made := F.called_set.made
  have subs := F.called_set.sub
  refine wpAny_call (codeAny_of_tree ?_)
  change wpAny _ _ (callAny (.type "set") _) _ _ _
  refine wpAny_pure ⟨Code.quiet_builtin _ (by decide +kernel), codeAny_builtin F.entry_type_call ?_⟩
  rw [Around.under_plain (weight_type_call_type "set" [.ref l] []) rfl]
  have n1 := F.called_set.notType
  have n2 := F.called_set.canCreate
  have n3 := F.typeCall_set_1 (.ref l)
  repeat (any_goals (first | assumption | wp_step))
  refine codeAny_mono (code_set_led1 (.ref l) (E := E) (Q₁ := fun ob s₁ => ob = .ref s.heap.objs.size ∧ s₁ = { s with heap := s.heap.push (newOb w) }) ⟨rfl, rfl⟩) ?_
  intro r s₁ hr
  match r, hr with
  | .ok (.ret ob), hr =>
    obtain ⟨rfl, rfl⟩ := hr
    have atS : (s.heap.push (newOb w)).get? s.heap.objs.size = some (newOb w) := Heap.get?_push_size _ rfl
    have isS : Shared.TypeIs { s with heap := s.heap.push (newOb w) } (.ref s.heap.objs.size) "set" := ⟨_, atS, rfl⟩
    have i1 := F.called_set.init.lookup
    have i2 := F.called_set.init.bind (.ref s.heap.objs.size)
    repeat (any_goals (first | assumption | wp_step))
    refine codeAny_mono (codeAny_call_builtin (R := wants (fun r s₂ => r = .none ∧ ∃ h' tk o es ep t, s₂ = { s with heap := h', toks := tk } ∧ SetS w h' s.heap.objs.size (met zs zs.length) o es ep t ∧ ∀ b o, s.heap.get? b = some o → h'.get? b = some o) E) F.called_set.init.plain F.entry_set_init (check_set_init_1 isS ?_)) ?_
    · obtain ⟨ol, el, cl, nl, dl⟩ := seq
      obtain ⟨oc, od, oda, osl⟩ := ol
      simp only at cl dl
      subst cl dl
      have el' : (s.heap.push (newOb w)).get? l = some { cls := .type "list", dict := od, data := .seq items nl, slots := osl } := Heap.get?_push_of_some _ el
      have s1 := F.sub_list_set
      have s2 := F.sub_list_frozenset
      have s3 : (Value.type "list" == Value.type "dict") = false := by decide
      have seq1 : (s.heap.push (newOb w)).IsList l items := ⟨_, el', rfl, nl, rfl⟩
      unfold Builtin.«set.__init__» noKeywords Builtin.Frozenset.updateFrom
      generalize hPI : pyIter = PI
      wp_walk
      subst hPI
      refine wpAny_pyIter_list seq1 ?_
      refine wpAny_bind (wpAny_runValue ?_)
      have below : l < s.heap.objs.size := Heap.lt_size el
      have calm3 : A.in1.in1.in1.handled = none := by simp [calm]
      have pushed : (s.heap.push (newOb w)).objs.size = s.heap.objs.size + 1 := Heap.size_push ..
      have offI : l ≠ (s.heap.push (newOb w)).objs.size := pushed ▸ Nat.ne_of_lt (Nat.lt_succ_of_lt below)
      have offS : s.heap.objs.size ∉ [(s.heap.push (newOb w)).objs.size, l] := by
        rw [pushed]
        intro q
        rcases List.mem_cons.mp q with q | q
        · exact Nat.ne_of_lt (Nat.lt_succ_self _) q
        · exact Nat.ne_of_gt below (List.mem_singleton.mp q)
      have val : ∀ (i : Nat) (v : Value), items[i]? = some v → ∃ z t, zs[i]? = some z ∧ v = .str z t := fun i v hv => strs_at txt i v (by rw [Array.getElem?_toList]; exact hv)
      have start : ((s.heap.push (newOb w)).push { cls := .type "list_iterator", data := .fields #[.ref l, .int 0 0] }).get? s.heap.objs.size = some (newOb w) := Heap.get?_push_of_some _ atS
      refine upd_loop ((Walks.list calm3 _ l offI items).toS) s.heap.objs.size offS zs size (by omega) val (items.size - 0) 0 _ (by omega) (Nat.zero_le _) ⟨⟨_, Heap.get?_push_size _ rfl, rfl, rfl⟩, (seq1.push _)⟩ ⟨_, _, _, _, setS_new start⟩ ?_
      intro s' o es ep t mv r
      obtain ⟨h', g', d', tk', os'⟩ := s'
      obtain rfl : g' = s.gens := mv.gens
      obtain rfl : d' = s.drawn := mv.drawn
      obtain rfl : os' = s.os := mv.os
      change wpAny _ _ _ _ _ _
      refine wpAny_pure ?_
      change wpAny _ _ (ret Value.none) _ _ _
      rw [size] at r
      refine wpAny_pure ⟨rfl, h', tk', o, es, ep, t, rfl, r, fun b ob e => ?_⟩
      have hb := Heap.lt_size e
      refine mv.heap b ob ?_ (Heap.get?_push_of_some _ (Heap.get?_push_of_some _ e))
      rw [pushed]
      intro q
      rcases List.mem_cons.mp q with q | q
      · exact Nat.ne_of_lt hb q
      · exact Nat.ne_of_lt (Nat.lt_succ_of_lt hb) (List.mem_singleton.mp q)
    · intro r₂ s₂ hr₂
      match r₂, hr₂ with
      | .ok (.ret rv), hr₂ =>
        obtain ⟨rfl, h', tk, o, es, ep, t, rfl, r, kept⟩ := hr₂
        repeat (any_goals (first | assumption | wp_step))
        exact h _ _ _ _ _ _ r kept
      | .error e, hr₂ => exact hr₂
      | .ok .next, hr₂ => exact hr₂.elim
      | .ok .brk, hr₂ => exact hr₂.elim
      | .ok .cont, hr₂ => exact hr₂.elim
  | .error e, hr => exact hr
  | .ok .next, hr => exact hr.elim
  | .ok .brk, hr => exact hr.elim
  | .ok .cont, hr => exact hr.elim
set_option maxHeartbeats 4000000 in
theorem set_of_tuple {l : Addr} {items : Array Value} (zs : List Str) {Q : Value → Shared → Prop} (calm : A.handled = none) (seq : s.heap.IsTuple l items) (txt : StrsAre items.toList zs) (few : zs.length < 99)
    (h : ∀ (h' : Heap) (tk : Nat) o es ep t, SetS w h' s.heap.objs.size (met zs zs.length) o es ep t → (∀ b o, s.heap.get? b = some o → h'.get? b = some o) → Q (.ref s.heap.objs.size) { s with heap := h', toks := tk }) :
    wpAny (model P w) A (call (.type "set") [.ref l]) Q E s := by
  have size : items.size = zs.length := by
    rw [← Array.length_toList]
    exact txt.length
  obtain ⟨c, tl, mro⟩ := F.called_set.mro
  have made := F.called_set.made
  have subs := F.called_set.sub
  refine wpAny_call (codeAny_of_tree ?_)
  change wpAny _ _ (callAny (.type "set") _) _ _ _
  refine wpAny_pure ⟨Code.quiet_builtin _ (by decide +kernel), codeAny_builtin F.entry_type_call ?_⟩
  rw [Around.under_plain (weight_type_call_type "set" [.ref l] []) rfl]
  have n1 := F.called_set.notType
  have n2 := F.called_set.canCreate
  have n3 := F.typeCall_set_1 (.ref l)
  repeat (any_goals (first | assumption | wp_step))
  refine codeAny_mono (code_set_led1 (.ref l) (E := E) (Q₁ := fun ob s₁ => ob = .ref s.heap.objs.size ∧ s₁ = { s with heap := s.heap.push (newOb w) }) ⟨rfl, rfl⟩) ?_
  intro r s₁ hr
  match r, hr with
  | .ok (.ret ob), hr =>
    obtain ⟨rfl, rfl⟩ := hr
    have atS : (s.heap.push (newOb w)).get? s.heap.objs.size = some (newOb w) := Heap.get?_push_size _ rfl
    have isS : Shared.TypeIs { s with heap := s.heap.push (newOb w) } (.ref s.heap.objs.size) "set" := ⟨_, atS, rfl⟩
    have i1 := F.called_set.init.lookup
    have i2 := F.called_set.init.bind (.ref s.heap.objs.size)
    repeat (any_goals (first | assumption | wp_step))
    refine codeAny_mono (codeAny_call_builtin (R := wants (fun r s₂ => r = .none ∧ ∃ h' tk o es ep t, s₂ = { s with heap := h', toks := tk } ∧ SetS w h' s.heap.objs.size (met zs zs.length) o es ep t ∧ ∀ b o, s.heap.get? b = some o → h'.get? b = some o) E) F.called_set.init.plain F.entry_set_init (check_set_init_1 isS ?_)) ?_
    · obtain ⟨ol, el, cl, nl, dl⟩ := seq
      obtain ⟨oc, od, oda, osl⟩ := ol
      simp only at cl dl
      subst cl dl
      have el' : (s.heap.push (newOb w)).get? l = some { cls := .type "tuple", dict := od, data := .seq items nl, slots := osl } := Heap.get?_push_of_some _ el
      have s1 := F.sub_tuple_set
      have s2 := F.sub_tuple_frozenset
      have s3 : (Value.type "tuple" == Value.type "dict") = false := by decide
      have seq1 : (s.heap.push (newOb w)).IsTuple l items := ⟨_, el', rfl, nl, rfl⟩
      unfold Builtin.«set.__init__» noKeywords Builtin.Frozenset.updateFrom
      generalize hPI : pyIter = PI
      wp_walk
      subst hPI
      refine wpAny_pyIter_tuple seq1 ?_
      refine wpAny_bind (wpAny_runValue ?_)
      have below : l < s.heap.objs.size := Heap.lt_size el
      have calm3 : A.in1.in1.in1.handled = none := by simp [calm]
      have pushed : (s.heap.push (newOb w)).objs.size = s.heap.objs.size + 1 := Heap.size_push ..
      have offI : l ≠ (s.heap.push (newOb w)).objs.size := pushed ▸ Nat.ne_of_lt (Nat.lt_succ_of_lt below)
      have offS : s.heap.objs.size ∉ [(s.heap.push (newOb w)).objs.size, l] := by
        rw [pushed]
        intro q
        rcases List.mem_cons.mp q with q | q
        · exact Nat.ne_of_lt (Nat.lt_succ_self _) q
        · exact Nat.ne_of_gt below (List.mem_singleton.mp q)
      have val : ∀ (i : Nat) (v : Value), items[i]? = some v → ∃ z t, zs[i]? = some z ∧ v = .str z t := fun i v hv => strs_at txt i v (by rw [Array.getElem?_toList]; exact hv)
      have start : ((s.heap.push (newOb w)).push { cls := .type "tuple_iterator", data := .fields #[.ref l, .int 0 0] }).get? s.heap.objs.size = some (newOb w) := Heap.get?_push_of_some _ atS
      refine upd_loop ((Walks.tuple calm3 _ l offI items).toS) s.heap.objs.size offS zs size (by omega) val (items.size - 0) 0 _ (by omega) (Nat.zero_le _) ⟨⟨_, Heap.get?_push_size _ rfl, rfl, rfl⟩, (seq1.push _)⟩ ⟨_, _, _, _, setS_new start⟩ ?_
      intro s' o es ep t mv r
      obtain ⟨h', g', d', tk', os'⟩ := s'
      obtain rfl : g' = s.gens := mv.gens
      obtain rfl : d' = s.drawn := mv.drawn
      obtain rfl : os' = s.os := mv.os
      change wpAny _ _ _ _ _ _
      refine wpAny_pure ?_
      change wpAny _ _ (ret Value.none) _ _ _
      rw [size] at r
      refine wpAny_pure ⟨rfl, h', tk', o, es, ep, t, rfl, r, fun b ob e => ?_⟩
      have hb := Heap.lt_size e
      refine mv.heap b ob ?_ (Heap.get?_push_of_some _ (Heap.get?_push_of_some _ e))
      rw [pushed]
      intro q
      rcases List.mem_cons.mp q with q | q
      · exact Nat.ne_of_lt hb q
      · exact Nat.ne_of_lt (Nat.lt_succ_of_lt hb) (List.mem_singleton.mp q)
    · intro r₂ s₂ hr₂
      match r₂, hr₂ with
      | .ok (.ret rv), hr₂ =>
        obtain ⟨rfl, h', tk, o, es, ep, t, rfl, r, kept⟩ := hr₂
        repeat (any_goals (first | assumption | wp_step))
        exact h _ _ _ _ _ _ r kept
      | .error e, hr₂ => exact hr₂
      | .ok .next, hr₂ => exact hr₂.elim
      | .ok .brk, hr₂ => exact hr₂.elim
      | .ok .cont, hr₂ => exact hr₂.elim
  | .error e, hr => exact hr
  | .ok .next, hr => exact hr.elim
  | .ok .brk, hr => exact hr.elim
  | .ok .cont, hr => exact hr.elim
end
end TxtSet

set_option Elab.async false
set_option linter.all false
set_option maxRecDepth 100000
set_option maxHeartbeats 2000000
/-! Sets of texts as rules. -/
namespace TxtSet
open PySem PySem.Spec PyProof.Rows L2 Cau
/-- the set of the texts L at a -/
def SetT (w : World) (a : Addr) (L : List Str) : HO := .ext fun h => ∃ o es ep t, SetS w h a L o es ep t
theorem setT_ok {P : Program} {w : World} {H : Hp} {h : Heap} {a : Addr} {L : List Str} {o : Obj} {es : Array (Int × Value)} {ep : Nat} {t : SetTable} (R : SetS w h a L o es ep t) : ObjOk P w H h a (SetT w a L) :=
  ⟨⟨o, es, ep, t, R⟩, ⟨o, R.ob⟩, fun _ _ ⟨o, es, ep, t, r⟩ k => ⟨o, es, ep, t, r.keep k⟩⟩
theorem strs_vals : ∀ {zs : List Str} {us : List Value}, Vals (zs.map V.str) us → StrsAre us zs
  | [], _, .nil => .nil
  | z :: r, _, .cons h t => by
    obtain ⟨tk, rfl⟩ := h
    exact .cons z tk (strs_vals t)
def rSetT (K : PySem.W.Frag) (w : World) : List V → Hp → VK → Prop := fun xs H Q => ∃ (l : Addr) (zs : List Str), xs = [.ref l] ∧ (SqL K H l (zs.map V.str) ∨ SqT K H l (zs.map V.str)) ∧ zs.length < 99 ∧
  ∀ (a : Addr) (L : List Str), H a = none → L.Nodup → (∀ z, z ∈ L ↔ z ∈ zs) → Q (.ref a) (upd H a (SetT w a L))
theorem cr_setT {X : Cx} (calm : X.calm = true) : CallR X (.type "set") (rSetT X.K X.w) := by
  intro pins s σ H xs us Q I r ⟨l, zs, hx, hq, few, q⟩
  subst hx
  rw [Vals.ref1 r]
  have fresh := I.hok.fresh (Nat.le_refl s.heap.objs.size)
  have mem : ∀ z, z ∈ met zs zs.length ↔ z ∈ zs := fun z => by rw [met_mem, List.take_length]
  have done : ∀ (h' : Heap) (tk : Nat) o es ep t, SetS X.w h' s.heap.objs.size (met zs zs.length) o es ep t → (∀ b o, s.heap.get? b = some o → h'.get? b = some o) → EP X pins σ Q (.ref s.heap.objs.size) { s with heap := h', toks := tk } :=
    fun h' tk o es ep t r k => ⟨.ref _, _, I.laid (t' := tk) k (Nat.le_refl _) (setT_ok r), rfl, q _ _ fresh r.nd mem⟩
  rcases hq with hq | hq
  · obtain ⟨its, rv, p, hz⟩ := I.list hq
    exact set_of_list zs (I.ok.hd calm) p.isList (by simpa using strs_vals rv) few done
  · obtain ⟨its, rv, p, hz⟩ := I.tuple hq
    exact set_of_tuple zs (I.ok.hd calm) (show s.heap.IsTuple l its.toArray from p) (by simpa using strs_vals rv) few done
def rLenT (w : World) : List V → Hp → VK → Prop := fun xs H Q => ∃ (a : Addr) (L : List Str), xs = [.ref a] ∧ H a = some (SetT w a L) ∧ Q (.int L.length) H
theorem cr_lenT {X : Cx} : CallR X (.builtin "len") (rLenT X.w) := by
  intro pins s σ H xs us Q I r ⟨a, L, hx, ha, q⟩
  subst hx
  rw [Vals.ref1 r]
  obtain ⟨⟨o, es, ep, t, R⟩, _⟩ := I.hok a _ ha
  have few := R.few
  have sz := R.size
  refine call_len_set R.ob R.ex R.dat R.fit ?_ ⟨.int L.length, H, I.tok _, ⟨_, by rw [sz]⟩, q⟩
  rw [sz]
  have : L.length < 2 ^ 63 := Nat.lt_trans few (by decide)
  exact_mod_cast this
def rSortT (w : World) : List V → Hp → VK → Prop := fun xs H Q => ∃ (a : Addr) (L : List Str), xs = [.ref a] ∧ H a = some (SetT w a L) ∧ L.length < 64 ∧ ∀ (zs : List Str) (p : Addr), zs.Perm L → sortedS zs = true → H p = none → Q (.ref p) (upd H p (.lst (zs.map V.str)))
theorem strs_of {us : List Value} (h : ∀ u ∈ us, ∃ z t, u = Value.str z t) : StrsAre us (us.map fun u => match u with
    | .str z _ => z
    | _ => ("" : Str)) := by
  induction us with
  | nil => exact .nil
  | cons u r ih =>
    obtain ⟨z, t, rfl⟩ := h u List.mem_cons_self
    exact .cons z t (ih fun v hv => h v (List.mem_cons_of_mem _ hv))
theorem cr_sortT {X : Cx} (calm : X.calm = true) : CallR X (.builtin "sorted") (rSortT X.w) := by
  intro pins s σ H xs us Q I r ⟨a, L, hx, ha, few, q⟩
  subst hx
  rw [Vals.ref1 r]
  obtain ⟨⟨o, es, ep, t, R⟩, _⟩ := I.hok a _ ha
  refine Calls.call_function_entry kind_sorted plain_sorted entry_sorted (args_sorted1 _) ?_
  unfold Builtin.«sorted»
  refine wpAny_bind (m := checkCount "sorted" 1 1 _) (wpAny_pure ?_)
  refine wpAny_bind (collect_set (A := X.A.in1) (I.ok.hd calm) ⟨o, R.ob, R.ex.1, R.dat⟩ R.fit R.bound R.ris R.led ?_)
  intro s1 vs k1 grown g1 o1 pm
  obtain ⟨tx, htx⟩ : ∃ tx, tx = vs.map fun u => match u with
    | .str z _ => z
    | _ => ("" : Str) := ⟨_, rfl⟩
  have all : ∀ u ∈ vs, ∃ z t, u = Value.str z t := fun u hu => by
    obtain ⟨e, he, rfl⟩ := List.mem_map.mp (pm.mem_iff.mp hu)
    obtain ⟨z, tk, h1, _⟩ := R.tx e he
    exact ⟨z, tk, h1⟩
  have are : StrsAre vs tx := htx ▸ strs_of all
  have pmL : tx.Perm L := by
    refine List.Perm.trans ?_ R.pm
    have p2 := pm.map fun u => match u with
      | Value.str z _ => z
      | _ => ("" : Str)
    rw [List.map_map] at p2
    rw [htx]
    exact p2
  have len : vs.length = L.length := by
    rw [are.length, pmL.length_eq]
  have few' : vs.length < 64 := len ▸ few
  refine wpAny_bind (wpAny_newList ?_ (small64 few'))
  have laid : (s1.heap.push (seqObj "list" vs.toArray 0)).get? s1.heap.objs.size = some (seqObj "list" vs.toArray 0) := Heap.get?_push_size _ rfl
  refine wpAny_bind (wpAny_holding (wpAny_call_entry slot_list_sort ⟨_, laid, rfl⟩ entry_list_sort (list_sort_treeK strKind_oneLt laid are.keysOf (fun v₁ v₂ rest e => keyKind_strs (by rw [← e]; exact are)) few' ?_) (args_list_sort _)))
  intro st' hp hs
  obtain ⟨zs, z1, z2, z3⟩ := sorted_out_str are hp hs
  refine ⟨_, rfl, ?_⟩
  obtain ⟨c, hc⟩ := sortedHeap_at (vs := vs) (out := (arrOf st').map (·.2)) laid
  have free : H s1.heap.objs.size = none := I.hok.fresh grown
  have old : ∀ b u, s.heap.get? b = some u → (sortedHeap (s1.heap.push (seqObj "list" vs.toArray 0)) s1.heap.objs.size vs ((arrOf st').map (·.2))).get? b = some u := fun b u e => by
    have e1 := k1 b u e
    have lt := Heap.lt_size e1
    rw [sortedHeap_old (Nat.ne_of_lt lt) (by rw [size_push']; exact Nat.lt_succ_of_lt lt)]
    exact Heap.get?_push_of_some _ e1
  have zl : (zs.map V.str).length ≤ sizeLine := by
    rw [List.length_map, z2.length_eq, pmL.length_eq]
    exact small64 few
  have J : Inv X pins σ (upd H s1.heap.objs.size (.lst (zs.map V.str))) { s with heap := sortedHeap (s1.heap.push (seqObj "list" vs.toArray 0)) s1.heap.objs.size vs ((arrOf st').map (·.2)), gens := s1.gens, drawn := s1.drawn, toks := s1.toks } :=
    I.call (ch := []) (Un.laid old grown free) (I.hok.laid old grown ⟨zl, _, c, vals_of_strs z1, hc⟩) (by rw [g1]; exact I.bare) (fun _ z => nomatch z)
  have eo : ({ s1 with heap := sortedHeap (s1.heap.push (seqObj "list" vs.toArray 0)) s1.heap.objs.size vs ((arrOf st').map (·.2)) } : Shared) =
      { s with heap := sortedHeap (s1.heap.push (seqObj "list" vs.toArray 0)) s1.heap.objs.size vs ((arrOf st').map (·.2)), gens := s1.gens, drawn := s1.drawn, toks := s1.toks } := by
    obtain ⟨_, _, _, _, _⟩ := s1
    obtain ⟨_, _, _, _, _⟩ := s
    simp only at o1
    subst o1
    rfl
  refine wpAny_pure ?_
  have fin : EP X pins σ Q (.ref s1.heap.objs.size) { s1 with heap := sortedHeap (s1.heap.push (seqObj "list" vs.toArray 0)) s1.heap.objs.size vs ((arrOf st').map (·.2)) } := by
    rw [eo]
    exact ⟨.ref _, _, J, rfl, q zs _ (z2.trans pmL) z3 free⟩
  exact ⟨_, rfl, fin⟩
end TxtSet

set_option Elab.async false
set_option linter.all false
set_option maxRecDepth 100000
set_option maxHeartbeats 2000000
namespace N6
open PySem PySem.Spec PyProof.Rows L2 Cau Dr27 N1 N2 N3 N4 N5 TxtSet
abbrev sDiff : Stmt := topS 14
abbrev sCheckNames : Stmt := topS 28
abbrev sIsSequel : Stmt := topS 29
abbrev sChestOf : Stmt := topS 30
abbrev sNeeded : Stmt := topS 31
/-- what the top has written of an own error without an __init__ -/
structure TxtE (K : PySem.W.Frag) (mg : Str → Option Value) (x : Str) (C : Addr) : Prop where
  g : mg x = some (.ref C)
  x : PySem.W.excIn K C [.type "ValueError", .type "Exception", .type "BaseException", .type "object"] "ValueError.__new__" = true
  k : PySem.W.keepIn K (.ref C) = true
  b : PySem.W.subIn K (.ref C) (.type "BaseException") = some true
  t : PySem.W.typeIn K (.ref C) = some (.type "type")
/-! ### lists of names -/
/-- a value as a list of names: the text of each item that is one -/
def Nv (K : PySem.W.Frag) (H : Hp) (x : V) (o : Option (List (Option Str))) : Prop :=
  (∃ p xs os, x = .ref p ∧ SqX K H p xs ∧ xs.length = os.length ∧ xs.length ≤ 90 ∧ (∀ (i : Nat) v z, xs[i]? = some v → os[i]? = some z → Tx K H v z) ∧ o = some os) ∨ (NotSeq H x ∧ o = none)
def namesB (os : List (Option Str)) : Bool := os.all nameO && decide (os.Nodup)
def namesO : Option (List (Option Str)) → Bool
  | some os => namesB os
  | none => false
def spDiff (K : PySem.W.Frag) : Sp := fun vs H Q _ => ∃ (x : V) (o : Option (List (Option Str))), vs = [x] ∧ Nv K H x o ∧ ∀ H', Same H H' → Q (.bl (namesO o)) H'
theorem tx_same {K : PySem.W.Frag} {H H' : Hp} {v : V} {z : Option Str} (h : Tx K H v z) (s : Same H H') : Tx K H' v z := by
  rcases h with h | ⟨e, t, ty, b⟩
  · exact .inl h
  · refine .inr ⟨e, t, ?_, b⟩
    cases ty with
    | base b =>
      cases b with
      | non => exact .base .non
      | bl x => exact .base (.bl x)
      | int i => exact .base (.int i)
      | str x => exact .base (.str x)
      | flt x => exact .base (.flt x)
      | lst e => exact .base (.lst (s _ _ e))
      | frz e => exact .base (.frz (s _ _ e))
      | tup e => exact .base (.tup (s _ _ e))
      | dK e => exact .base (.dK (s _ _ e))
      | dT e => exact .base (.dT (s _ _ e))
    | byt y => exact .byt y
    | set e => exact .set (s _ _ e)
    | kList e c => exact .kList e c
    | kTuple e c => exact .kTuple e c
    | kDict e c => exact .kDict e c
    | fTuple e => exact .fTuple (s _ _ e)
    | fDict e => exact .fDict (s _ _ e)
theorem Nv.same {K : PySem.W.Frag} {H H' : Hp} {x : V} {o : Option (List (Option Str))} (h : Nv K H x o) (s : Same H H') : Nv K H' x o := by
  rcases h with ⟨p, xs, os, e, h, l, l2, a, r⟩ | ⟨h, r⟩
  · exact .inl ⟨p, xs, os, e, h.same s, l, l2, fun i v z e1 e2 => tx_same (a i v z e1 e2) s, r⟩
  · exact .inr ⟨h.same s, r⟩
/-- as many members as items: none comes twice -/
def thin : List Str → List Str
  | [] => []
  | z :: r => if z ∈ r then thin r else z :: thin r
theorem thin_mem {y : Str} : ∀ zs : List Str, y ∈ thin zs ↔ y ∈ zs
  | [] => Iff.rfl
  | z :: r => by
    unfold thin
    split
    · rename_i h
      rw [thin_mem r, List.mem_cons]
      exact ⟨.inr, fun q => q.elim (fun e => e ▸ h) id⟩
    · rw [List.mem_cons, List.mem_cons, thin_mem r]
theorem thin_nodup : ∀ zs : List Str, (thin zs).Nodup
  | [] => List.nodup_nil
  | z :: r => by
    unfold thin
    split
    · exact thin_nodup r
    · rename_i h
      exact List.nodup_cons.mpr ⟨fun q => h ((thin_mem r).mp q), thin_nodup r⟩
theorem thin_le : ∀ zs : List Str, (thin zs).length ≤ zs.length
  | [] => Nat.le_refl _
  | z :: r => by
    unfold thin
    split
    · exact Nat.le_succ_of_le (thin_le r)
    · exact Nat.succ_le_succ (thin_le r)
theorem thin_eq : ∀ zs : List Str, (thin zs).length = zs.length ↔ zs.Nodup
  | [] => by simp [thin]
  | z :: r => by
    unfold thin
    rw [List.nodup_cons]
    split
    · rename_i h
      have := thin_le r
      constructor
      · intro e
        simp at e
        omega
      · intro ⟨n, _⟩
        exact absurd h n
    · rename_i h
      rw [List.length_cons, List.length_cons]
      constructor
      · intro e
        exact ⟨h, (thin_eq r).mp (by omega)⟩
      · intro ⟨_, n⟩
        rw [(thin_eq r).mpr n]
theorem nodup_le : ∀ (l d : List Str), l.Nodup → (∀ x ∈ l, x ∈ d) → l.length ≤ d.length
  | [], _, _, _ => Nat.zero_le _
  | x :: l, d, n, h => by
    obtain ⟨n1, n2⟩ := List.nodup_cons.mp n
    have hx := h x List.mem_cons_self
    have q := nodup_le l (d.erase x) n2 fun y hy => by
      have ne : y ≠ x := fun z => n1 (z ▸ hy)
      exact (List.mem_erase_of_ne ne).mpr (h y (List.mem_cons_of_mem _ hy))
    rw [List.length_erase_of_mem hx] at q
    have : 0 < d.length := List.length_pos_of_mem hx
    rw [List.length_cons]
    omega
theorem set_len {L zs : List Str} (n : L.Nodup) (h : ∀ z, z ∈ L ↔ z ∈ zs) : decide ((L.length : Int) = (zs.length : Int)) = decide (zs.Nodup) := by
  have e : L.length = (thin zs).length := Nat.le_antisymm (nodup_le _ _ n fun x hx => (thin_mem zs).mpr ((h x).mp hx)) (nodup_le _ _ (thin_nodup zs) fun x hx => (h x).mpr ((thin_mem zs).mp hx))
  have t := thin_eq zs
  rw [Bool.eq_iff_iff, decide_eq_true_eq, decide_eq_true_eq, ← t, e]
  omega
section
variable {P : Program} {w : World} {K : PySem.W.Frag} {mg : Str → Option Value} {base : Heap}
theorem scDf : FnScope ["value", "name"] ["value"] (defScope sDiff) := ⟨rfl, rfl, rfl, by decide +kernel, rfl, by decide +kernel, by decide +kernel⟩
theorem all_names : ∀ (xs : List V) (os : List (Option Str)), xs.length = os.length → (∀ (i : Nat) v z, xs[i]? = some v → os[i]? = some z → ∃ s, v = .str s ∧ z = some s) → ∃ zs : List Str, xs = zs.map V.str ∧ os = zs.map some
  | [], [], _, _ => ⟨[], rfl, rfl⟩
  | x :: xs, o :: os, l, h => by
    obtain ⟨s, rfl, rfl⟩ := h 0 x o rfl rfl
    obtain ⟨zs, rfl, rfl⟩ := all_names xs os (by simpa using l) fun i v z e1 e2 => h (i + 1) v z e1 e2
    exact ⟨s :: zs, rfl, rfl⟩
theorem nodup_some (zs : List Str) : decide ((zs.map some).Nodup) = decide (zs.Nodup) := by
  have gen : ∀ zs : List Str, (zs.map some).Nodup ↔ zs.Nodup := by
    intro zs
    induction zs with
    | nil => simp
    | cons z r ih =>
      rw [List.map_cons, List.nodup_cons, List.nodup_cons, ih]
      simp
  rw [Bool.eq_iff_iff, decide_eq_true_eq, decide_eq_true_eq, gen]
theorem ok_diff {f fL fN : Addr} {fd fdL fdN : FuncData} (F : Fun K "are_different_names" "are_different_names" sDiff f fd)
    (FL : Fun K "is_list" "is_list" sIsList fL fdL) (GL : FnOk P w K mg base CX0 1 fL fdL ["value"] (spIsList K)) (bL : Binds K fdL ["value"] []) (gL : mg "is_list" = some (.ref fL))
    (FN : Fun K "is_name" "is_name" sIsName fN fdN) (GN : FnOk P w K mg base CX0 1 fN fdN ["value"] (spName K)) (bN : Binds K fdN ["value"] []) (gN : mg "is_name" = some (.ref fN))
    (ma : mg "all" = none) (ml : mg "len" = none) (ms : mg "set" = none) : FnOk P w K mg base CX0 2 f fd ["value"] (spDiff K) := by
  refine F.ok scDf (fun vs H Q E h => ?_) (fun cdv A outer s H vs Q E hr h => ?_)
  · obtain ⟨x, o, rfl, _⟩ := h
    rfl
  · obtain ⟨x, o, rfl, hx, q⟩ := h
    refine ⟨_, pss_cons (ps_if (PW.pt (pw_or (pt_not (pt_val (pe_call GL hr (by rfl) gL FL.kp bL .nil pass0 (pa_cons (pv 0) pa_nil))))
        (pw_or1 (pt_not (pt_val (pe_callB (cr_all rfl) (by rfl) ma (by decide +kernel) (pa_cons
          (pe_lc (own := [("name", 1)]) (g := gName 1) (tt := tYes) rfl scDf.nd (pi_seq (pv 0))
            (blkOk_by (own := [("name", 1)]) (N := ["value", "name"]) (sc := defScope sDiff) (by decide +kernel))
            (fun _ _ _ _ _ => pg_name (i := 1) scDf.nd rfl (.inl rfl)) (fun _ _ _ _ _ => pts_nil)
            (fun _ _ _ _ _ => pe_call GN (hr.mono (by decide)) (by rfl) gN FN.kp bN .nil pass0 (pa_cons (pv 1) pa_nil))) pa_nil))))))) (pss_one (ps_ret pe_bl)) pss_nil)
      (pss_one (ps_ret (pe_cmpR op_eq (pe_callB cr_lenT (by rfl) ml PySem.boot_len (pa_cons (pe_callTy (cr_setT rfl) (by rfl) ms (by decide +kernel) (pa_cons (pv 0) pa_nil)) pa_nil)) (pe_callB call_len_seq (by rfl) ml PySem.boot_len (pa_cons (pv 0) pa_nil)) (by rfl)))), ?_⟩
    have q' : ∀ b H', namesO o = b → Same H H' → Q (.bl b) H' := fun b H' e sm => by
      subst e
      exact q H' sm
    rcases hx with ⟨p, xs, os, rfl, hq, hl, hl2, htx, rfl⟩ | ⟨hn, rfl⟩
    · refine ⟨_, rfl, .ref p, some xs, rfl, .inl ⟨p, xs, rfl, hq, rfl⟩, fun H1 sm1 => ⟨_, rfl, iteF ?_⟩⟩
      refine ⟨_, rfl, p, xs, rfl, seq_of hq sm1 fun J G wk hG => fun D nD => ?_⟩
      have nD0 : H D = none := PySem.Spec.same_none sm1 nD
      refine lc_it wk (fun i H' => ∃ bs : List Bool, H' D = some (.lst (bs.map V.bl)) ∧ bs = (os.take i).map nameO ∧ Same H H') ⟨[], upd_same, rfl, same_put sm1 nD0⟩ (fun i H' _ ⟨_, _, _, sm⟩ => hG _ sm) ?_ ?_
      · rintro i x H2 H3 hi ⟨bs, hD, hbs, sm⟩ ⟨rfl, hx⟩
        have hio : i < os.length := by omega
        have ho : os[i]? = some os[i] := List.getElem?_eq_getElem hio
        have tx := tx_same (htx i x _ hx ho) sm
        generalize os[i] = z at ho tx
        refine ⟨rfl, _, rfl, x, z, rfl, tx, fun H4 sm4 => ⟨_, sm4 _ _ hD, ?_, bs ++ [nameO z], by rw [upd_same, List.map_append]; rfl, ?_, same_put (sm.trans sm4) nD0⟩⟩
        · rw [List.length_map, hbs, List.length_map, List.length_take]
          exact small1000 (by omega)
        · rw [List.take_succ, List.map_append, ho, hbs]
          rfl
      · rintro H2 ⟨bs, hD, hbs, sm⟩
        rw [hl, List.take_length] at hbs
        refine ⟨D, bs, rfl, .inl (.inl hD), _, rfl, ?_⟩
        have eall : bs.all id = os.all nameO := by
          rw [hbs, List.all_map]
          rfl
        rw [eall]
        cases e : os.all nameO with
        | false =>
          refine iteT (q' _ _ ?_ sm)
          show namesB os = false
          unfold namesB
          rw [e]
          rfl
        | true =>
          obtain ⟨zs, rfl, rfl⟩ := all_names xs os hl fun i v z e1 e2 => by
            have hz := List.all_eq_true.mp e z (List.mem_of_getElem? e2)
            rcases htx i v z e1 e2 with ⟨s, a, b, _⟩ | ⟨b, _⟩
            · exact ⟨s, a, b⟩
            · rw [b] at hz
              cases hz
          refine iteF ?_
          have hq2 := hq.same sm
          refine ⟨_, rfl, p, zs, rfl, hq2, by rw [List.length_map] at hl2; omega, fun a L na nd mem => ?_⟩
          refine ⟨a, L, rfl, upd_same, _, rfl, p, zs.map V.str, rfl, ?_, rfl, ?_⟩
          · exact hq2.same (same_upd na)
          · refine q' _ _ ?_ (sm.trans (same_upd na))
            show namesB (zs.map some) = decide (V.int (L.length : Nat) = V.int ((zs.map V.str).length : Nat))
            unfold namesB
            rw [e, nodup_some, ← set_len nd mem, List.length_map, Bool.true_and, Bool.eq_iff_iff, decide_eq_true_eq, decide_eq_true_eq]
            exact ⟨fun z => by rw [z], fun z => V.int.inj z⟩
    · exact ⟨_, rfl, x, none, rfl, .inr ⟨hn, rfl⟩, fun H1 sm1 => ⟨_, rfl, iteT (q' _ _ rfl sm1)⟩⟩
end
end N6

set_option Elab.async false
set_option linter.all false
set_option maxRecDepth 100000
set_option maxHeartbeats 2000000
namespace N7
open PySem PySem.Spec PyProof.Rows L2 Cau Dr27 N1 N2 N3 N4 N5 N6 TxtSet
def sheetL : List Str := ["o", "u", "uu", "v", "vv"]
def toolsL : List (Str × Str) := [("meet", ""), ("upright", "square"), ("circles", "compass")]
def toolW (w : Str) : Str := (toolsL.lookup w).getD w
/-- the table of the tools of other words -/
structure ToolsK (K : PySem.W.Frag) (w : World) (d : Addr) : Prop where
  ex : ∃ (es : Array DictEntry) (n : Nat), KDict K w d es n
  no : ∀ z, toolsL.lookup z = none → PySem.W.nsIn K d z = some none
  yes : ∀ z y, toolsL.lookup z = some y → ∃ t, PySem.W.nsIn K d z = some (some (.str y t))
def spDrawing (K : PySem.W.Frag) : Sp := fun vs H Q _ => ∃ (x : V) (o : Option (List Sd)), vs = [x] ∧ Sv K H x o ∧ ∀ H', Same H H' → Q (.bl (goesO o sheetL)) H'
def spCheckDrawing (K : PySem.W.Frag) (C : Addr) : Sp := fun vs H Q E => ∃ (x : V) (o : Option (List Sd)), vs = [x] ∧ Sv K H x o ∧ ((goesO o sheetL = true ∧ ∀ H', Same H H' → Q .non H') ∨ (goesO o sheetL = false ∧ ∀ H', Same H H' → E (.ref C) none H'))
def spCheckDeed (K : PySem.W.Frag) (C : Addr) : Sp := fun vs H Q E => ∃ (x : V) (o : Option (List V)), vs = [x] ∧ Dd K H x o ∧ ((deedO o = true ∧ ∀ H', Same H H' → Q .non H') ∨ (deedO o = false ∧ ∀ H', Same H H' → E (.ref C) none H'))
def spCheckNames (K : PySem.W.Frag) (C : Addr) : Sp := fun vs H Q E => ∃ (x : V) (o : Option (List (Option Str))), vs = [x] ∧ Nv K H x o ∧ ((namesO o = true ∧ ∀ H', Same H H' → Q .non H') ∨ (namesO o = false ∧ ∀ H', Same H H' → E (.ref C) none H'))
def spSequel (K : PySem.W.Frag) (C : Addr) : Sp := fun vs H Q E => ∃ (x y : V) (o : Option (List Sd)), vs = [x, y] ∧
  ((∃ o', Nv K H y o' ∧ namesO o' = false ∧ ∀ H', Same H H' → E (.ref C) none H') ∨
    (Sv K H x o ∧ ∃ (nm : Addr) (ns : List Str), y = .ref nm ∧ SqX K H nm (ns.map V.str) ∧ ns.length ≤ 90 ∧ (∀ z ∈ ns, nameS z = true ∧ z.length ≤ 4000 ∧ PyData.strOk z = true) ∧ ns.Nodup ∧ ∀ H', Same H H' → Q (.bl (goesO o ns)) H'))
def spTool (K : PySem.W.Frag) (C : Addr) : Sp := fun vs H Q E => ∃ (p : Addr) (w : Str) (r : List V), vs = [.ref p] ∧ SqT K H p (.str w :: r) ∧ (V.str w :: r).all AtomV = true ∧ (V.str w :: r).length ≤ 100 ∧ deedL (.str w :: r) = true ∧ ∀ H', Same H H' → Q (.str (toolW w)) H'
theorem nv_names {K : PySem.W.Frag} {H : Hp} {nm : Addr} {ns : List Str} (h : SqX K H nm (ns.map V.str)) (l : ns.length ≤ 90) (ok : ∀ z ∈ ns, nameS z = true ∧ z.length ≤ 4000 ∧ PyData.strOk z = true) : Nv K H (.ref nm) (some (ns.map some)) := by
  refine .inl ⟨nm, ns.map V.str, ns.map some, rfl, h, by simp, by simpa using l, fun i v z e1 e2 => ?_, rfl⟩
  rw [List.getElem?_map] at e1 e2
  cases e : ns[i]? with
  | none => rw [e] at e1; cases e1
  | some s =>
    rw [e] at e1 e2
    cases e1
    cases e2
    have := ok s (List.mem_of_getElem? e)
    exact .inl ⟨s, rfl, rfl, this.2⟩
theorem names_ok {ns : List Str} (n : ns.Nodup) (ok : ∀ z ∈ ns, nameS z = true) : namesO (some (ns.map some)) = true := by
  show namesB (ns.map some) = true
  unfold namesB
  rw [nodup_some, decide_eq_true n, Bool.and_true, List.all_eq_true]
  intro o ho
  obtain ⟨z, hz, rfl⟩ := List.mem_map.mp ho
  exact ok z hz
section
variable {P : Program} {w : World} {K : PySem.W.Frag} {mg : Str → Option Value} {base : Heap}
theorem scDr : FnScope ["value"] ["value"] (defScope sIsDrawing) := ⟨rfl, rfl, rfl, by decide +kernel, rfl, by decide +kernel, by decide +kernel⟩
theorem ok_drawing {f fS d : Addr} {fd fdS : FuncData} (F : Fun K "is_drawing" "is_drawing" sIsDrawing f fd) (FS : Fun K "are_steps" "are_steps" sAreSteps fS fdS) (GS : FnOk P w K mg base CX0 3 fS fdS ["value", "names"] (spSteps K)) (bS : Binds K fdS ["value", "names"] []) (gS : mg "are_steps" = some (.ref fS))
    (Wd : WordsK K d sheetL) (gW : mg "SHEET_NAMES" = some (.ref d)) : FnOk P w K mg base CX0 4 f fd ["value"] (spDrawing K) := by
  refine F.ok scDr (fun vs H Q E h => ?_) (fun cdv A outer s H vs Q E hr h => ?_)
  · obtain ⟨x, o, rfl, _⟩ := h
    rfl
  · obtain ⟨x, o, rfl, hx, q⟩ := h
    refine ⟨_, pss_one (ps_ret (pe_call GS hr (by rfl) gS FS.kp bS .nil pass0 (pa_cons (pv 0) (pa_cons (pe_glob (v := .ref d) (by rfl) gW rfl) pa_nil)))), ?_⟩
    exact ⟨_, rfl, x, o, d, sheetL, rfl, hx, .inr (Wd H), by decide, q⟩
theorem scCDr : FnScope ["value"] ["value"] (defScope sCheckDrawing) := ⟨rfl, rfl, rfl, by decide +kernel, rfl, by decide +kernel, by decide +kernel⟩
theorem ok_checkDrawing {f fS C : Addr} {fd fdS : FuncData} (F : Fun K "check_drawing" "check_drawing" sCheckDrawing f fd) (FS : Fun K "is_drawing" "is_drawing" sIsDrawing fS fdS) (GS : FnOk P w K mg base CX0 4 fS fdS ["value"] (spDrawing K)) (bS : Binds K fdS ["value"] []) (gS : mg "is_drawing" = some (.ref fS))
    (T : TxtE K mg "BadDrawing" C) : FnOk P w K mg base (L2.CX P w) 5 f fd ["value"] (spCheckDrawing K C) := by
  refine F.okX scCDr (fun vs H Q E h => ?_) (fun cdv A outer s H vs Q E hr h => ?_)
  · obtain ⟨x, o, rfl, _⟩ := h
    rfl
  · obtain ⟨x, o, rfl, hx, q⟩ := h
    refine ⟨_, pss_one (ps_if (pt_not (pt_val (pe_call GS hr (by rfl) gS FS.kp bS .nil pass0 (pa_cons (pv 0) pa_nil)))) (pss_one (ps_raise rfl (takes_of rfl rfl rfl rfl) (pmk_own PySem.F.excBase_ValueError T.x T.g T.k (raises_own T.b T.t) rfl))) pss_nil), ?_⟩
    refine ⟨_, rfl, x, o, rfl, hx, fun H1 sm => ⟨_, rfl, ?_⟩⟩
    rcases q with ⟨e, q⟩ | ⟨e, q⟩
    · rw [e]
      exact iteF (q H1 sm)
    · rw [e]
      exact iteT (q H1 sm)
theorem scCDe : FnScope ["value"] ["value"] (defScope sCheckDeed) := ⟨rfl, rfl, rfl, by decide +kernel, rfl, by decide +kernel, by decide +kernel⟩
theorem ok_checkDeed {f fS C : Addr} {fd fdS : FuncData} (F : Fun K "check_deed" "check_deed" sCheckDeed f fd) (FS : Fun K "is_deed" "is_deed" sIsDeed fS fdS) (GS : FnOk P w K mg base CX0 2 fS fdS ["value"] (spDeed K)) (bS : Binds K fdS ["value"] []) (gS : mg "is_deed" = some (.ref fS))
    (T : TxtE K mg "BadDeed" C) : FnOk P w K mg base (L2.CX P w) 3 f fd ["value"] (spCheckDeed K C) := by
  refine F.okX scCDe (fun vs H Q E h => ?_) (fun cdv A outer s H vs Q E hr h => ?_)
  · obtain ⟨x, o, rfl, _⟩ := h
    rfl
  · obtain ⟨x, o, rfl, hx, q⟩ := h
    refine ⟨_, pss_one (ps_if (pt_not (pt_val (pe_call GS hr (by rfl) gS FS.kp bS .nil pass0 (pa_cons (pv 0) pa_nil)))) (pss_one (ps_raise rfl (takes_of rfl rfl rfl rfl) (pmk_own PySem.F.excBase_ValueError T.x T.g T.k (raises_own T.b T.t) rfl))) pss_nil), ?_⟩
    refine ⟨_, rfl, x, o, rfl, hx, fun H1 sm => ⟨_, rfl, ?_⟩⟩
    rcases q with ⟨e, q⟩ | ⟨e, q⟩
    · rw [e]
      exact iteF (q H1 sm)
    · rw [e]
      exact iteT (q H1 sm)
theorem scCN : FnScope ["value"] ["value"] (defScope sCheckNames) := ⟨rfl, rfl, rfl, by decide +kernel, rfl, by decide +kernel, by decide +kernel⟩
theorem ok_checkNames {f fS C : Addr} {fd fdS : FuncData} (F : Fun K "check_names" "check_names" sCheckNames f fd) (FS : Fun K "are_different_names" "are_different_names" sDiff fS fdS) (GS : FnOk P w K mg base CX0 2 fS fdS ["value"] (spDiff K)) (bS : Binds K fdS ["value"] []) (gS : mg "are_different_names" = some (.ref fS))
    (T : TxtE K mg "BadNames" C) : FnOk P w K mg base (L2.CX P w) 3 f fd ["value"] (spCheckNames K C) := by
  refine F.okX scCN (fun vs H Q E h => ?_) (fun cdv A outer s H vs Q E hr h => ?_)
  · obtain ⟨x, o, rfl, _⟩ := h
    rfl
  · obtain ⟨x, o, rfl, hx, q⟩ := h
    refine ⟨_, pss_one (ps_if (pt_not (pt_val (pe_call GS hr (by rfl) gS FS.kp bS .nil pass0 (pa_cons (pv 0) pa_nil)))) (pss_one (ps_raise rfl (takes_of rfl rfl rfl rfl) (pmk_own PySem.F.excBase_ValueError T.x T.g T.k (raises_own T.b T.t) rfl))) pss_nil), ?_⟩
    refine ⟨_, rfl, x, o, rfl, hx, fun H1 sm => ⟨_, rfl, ?_⟩⟩
    rcases q with ⟨e, q⟩ | ⟨e, q⟩
    · rw [e]
      exact iteF (q H1 sm)
    · rw [e]
      exact iteT (q H1 sm)
theorem scSq : FnScope ["value", "names"] ["value", "names"] (defScope sIsSequel) := ⟨rfl, rfl, rfl, by decide +kernel, rfl, by decide +kernel, by decide +kernel⟩
theorem ok_sequel {f fC fS C : Addr} {fd fdC fdS : FuncData} (F : Fun K "is_sequel" "is_sequel" sIsSequel f fd) (FC : Fun K "check_names" "check_names" sCheckNames fC fdC) (GC : FnOk P w K mg base (L2.CX P w) 3 fC fdC ["value"] (spCheckNames K C)) (bC : Binds K fdC ["value"] []) (gC : mg "check_names" = some (.ref fC))
    (FS : Fun K "are_steps" "are_steps" sAreSteps fS fdS) (GS : FnOk P w K mg base CX0 3 fS fdS ["value", "names"] (spSteps K)) (bS : Binds K fdS ["value", "names"] []) (gS : mg "are_steps" = some (.ref fS)) : FnOk P w K mg base (L2.CX P w) 4 f fd ["value", "names"] (spSequel K C) := by
  refine F.okX scSq (fun vs H Q E h => ?_) (fun cdv A outer s H vs Q E hr h => ?_)
  · obtain ⟨x, y, o, rfl, _⟩ := h
    rfl
  · obtain ⟨x, y, o, rfl, h⟩ := h
    refine ⟨_, pss_cons (ps_expr (pe_call GC hr (by rfl) gC FC.kp bC .nil (passes_call (takes_of rfl rfl rfl rfl) (fun _ _ _ _ h => h)) (pa_cons (pv 1) pa_nil)))
      (pss_one (ps_ret (pe_call GS hr (by rfl) gS FS.kp bS .nil pass0 (pa_cons (pv 0) (pa_cons (pv 1) pa_nil))))), ?_⟩
    rcases h with ⟨o', hn, e, q⟩ | ⟨hx, nm, ns, rfl, hq, hl, ok, nd, q⟩
    · exact ⟨_, rfl, y, o', rfl, hn, .inr ⟨e, fun H1 sm => q H1 sm⟩⟩
    · refine ⟨_, rfl, .ref nm, _, rfl, nv_names hq hl ok, .inl ⟨names_ok nd fun z hz => (ok z hz).1, fun H1 sm => ?_⟩⟩
      exact ⟨_, rfl, _, rfl, x, o, nm, ns, rfl, hx.same sm, hq.same sm, by omega, fun H2 sm2 => q H2 (sm.trans sm2)⟩
theorem scTl : FnScope ["deed", "word"] ["deed"] (defScope sToolOf) := ⟨rfl, rfl, rfl, by decide +kernel, rfl, by decide +kernel, by decide +kernel⟩
theorem ok_tool {f fC C d : Addr} {fd fdC : FuncData} (F : Fun K "tool_of" "tool_of" sToolOf f fd) (FC : Fun K "check_deed" "check_deed" sCheckDeed fC fdC) (GC : FnOk P w K mg base (L2.CX P w) 3 fC fdC ["value"] (spCheckDeed K C)) (bC : Binds K fdC ["value"] []) (gC : mg "check_deed" = some (.ref fC))
    (T : ToolsK K w d) (gT : mg "TOOLS_OF_OTHER_WORDS" = some (.ref d)) : FnOk P w K mg base (L2.CX P w) 4 f fd ["deed"] (spTool K C) := by
  refine F.okX scTl (fun vs H Q E h => ?_) (fun cdv A outer s H vs Q E hr h => ?_)
  · obtain ⟨p, z, r, rfl, _⟩ := h
    rfl
  · obtain ⟨p, z, r, rfl, hp, hat, hlen, hd, q⟩ := h
    obtain ⟨es, nn, KD⟩ := T.ex
    refine ⟨_, pss_cons (ps_expr (pe_call GC hr (by rfl) gC FC.kp bC .nil (passes_call (takes_of rfl rfl rfl rfl) (fun _ _ _ _ h => h)) (pa_cons (pv 0) pa_nil)))
      (pss_cons (ps_set (i := 1) scTl.nd rfl (.inl rfl) (pe_ix ix_tup (pv 0) pe_int (fun _ _ => rfl)))
      (pss_one (ps_ret (pe_ifExp (pt_cmpR (op_in_kd KD) (pv 1) (pe_glob (v := .ref d) (by rfl) gT rfl) (by rfl)) (pe_ix ix_kdict (pe_glob (v := .ref d) (by rfl) gT rfl) (pv 1) (fun _ _ => rfl)) (pv 1))))), ?_⟩
    refine ⟨_, rfl, .ref p, some (.str z :: r), rfl, .inl ⟨p, _, rfl, hp, hat, hlen, rfl⟩, .inl ⟨hd, fun H1 sm => ?_⟩⟩
    refine ⟨_, rfl, p, _, 0, _, rfl, rfl, sqT_same hp sm, atI_nat (j := 0) rfl, ?_⟩
    cases e : toolsL.lookup z with
    | none =>
      refine ⟨_, rfl, z, _, rfl, rfl, T.no z e, _, rfl, iteF2 rfl ⟨_, rfl, ?_⟩⟩
      have q1 := q H1 sm
      unfold toolW at q1
      rw [e] at q1
      exact q1
    | some y =>
      obtain ⟨t, ht⟩ := T.yes z y e
      refine ⟨_, rfl, z, _, rfl, rfl, ht, _, rfl, iteT2 rfl ⟨_, rfl, d, z, .str y, rfl, rfl, ⟨es, nn, _, KD.at_, KD.lit, ht, _, rfl⟩, ?_⟩⟩
      have q1 := q H1 sm
      unfold toolW at q1
      rw [e] at q1
      exact q1
end
end N7

set_option Elab.async false
set_option linter.all false
set_option maxRecDepth 100000
set_option maxHeartbeats 2000000
/-! An own error over ValueError whose __init__ says super().__init__(text), then self.f = x. -/
namespace SupInit
open PySem PySem.Spec PyProof.Rows L2 Cau
def supScope (x : Str) : Scope := { kind := .function, names := [("self", .local), (x, .local), ("__class__", .free), ("super", .globalImplicit)], isGenerator := false, isCoroutine := false, more := [] }
/-- the error at a gets its field -/
def spSup (C : Addr) (fld : Str) : Sp := fun vs H Q _ => ∃ (a : Addr) (v : V), vs = [.ref a, v] ∧ H a = some (exo a C none) ∧ ∀ dx, H dx = none → dx ≠ a → Q .non (upd (upd H dx (exd dx [(fld, v)])) a (exo a C (some dx)))
/-- what the top has written of the class at C -/
structure SupC (P : Program) (K : PySem.W.Frag) (mg : Str → Option Value) (C : Addr) (fld : Str) : Prop where
  oex : OexC K C
  cd : ∃ cd, PySem.W.clsIn K C = some cd
  sub : PySem.W.mroIn K C (.ref C) = some true
  sup : mg "super" = none
  opa : PySem.W.nsIn K PySem.cStatics "thirdparty.any" = some none
  way : PySem.W.ks_superIn K C C "__init__" = some (some (.builtin "ValueError.__init__"))
  isV : PySem.W.subIn K (.ref C) (.type "ValueError") = some true
  top : (P.main.scope.names.lookup ("super" : Str)).isSome = false
  fre : PySem.W.findIn K (.ref C) fld = some none
section
variable {P : Program} {w : World} {K : PySem.W.Frag} {mg : Str → Option Value} {base : Heap}
/-- its body's context -/
def supX (P : Program) (w : World) (K : PySem.W.Frag) (mg : Str → Option Value) (base : Heap) (x qual : Str) (f cc cda : Addr) (A : Around) (outer : List Env) (s : Shared) (H : Hp) : Cx where
  prog := P
  w := w
  K := K
  mg := mg
  base := base
  A := A.deeper (PySem.W.ksEnv qual (supScope x) s.heap.objs.size f (.ref cda) cc)
  N := ["self", x]
  s_0 := s
  H_0 := H
  env := PySem.W.ksEnv qual (supScope x) s.heap.objs.size f (.ref cda) cc
  outer := outer
  stack := PySem.W.ksEnv qual (supScope x) s.heap.objs.size f (.ref cda) cc :: outer
  ex := []
  fn := fun _ => false
  calm := true
  pn := []
  xe := fun _ _ => False
theorem sup_start {x qual : Str} {f cc cda C : Addr} {A : Around} {outer : List Env} {s : Shared} {H : Hp} {u1 u2 : Value} {v1 v2 : V} {h0 : Heap} {tk : Nat} {cl : Value} {cld : Option Addr} {csl : Array (Option Value)} (hx : x ≠ "self" ∧ x ≠ "__class__" ∧ x ≠ "super") (hcell : K.lookup cc = some ⟨cl, cld, .cell (some (.ref C)), csl⟩) (hd : A.handled = none)
    (e0 : Env0 P w K mg base A outer s H) (r1 : RelV v1 u1) (r2 : RelV v2 u2) (ns : h0.Ns s.heap.objs.size fun y => ([("self", u1), (x, u2)] : List (Str × Value)).reverse.lookup y) (k : ∀ b o, s.heap.get? b = some o → h0.get? b = some o) :
    Inv (supX P w K mg base x qual f cc cda A outer s H) [] [some v1, some v2] H { s with heap := h0, toks := tk } := by
  have cellB : base.get? cc = some ⟨cl, cld, .cell (some (.ref C)), csl⟩ := e0.mod.kin _ _ hcell
  have cells : ∀ y c, (supX P w K mg base x qual f cc cda A outer s H).env.cells.lookup y = some c → y = "__class__" ∧ c = cc := fun y c h => by
    have h' : ([("__class__", cc)] : List (Str × Addr)).lookup y = some c := h
    rw [List.lookup_cons] at h'
    by_cases e : y = "__class__"
    · subst e
      simp at h'
      exact ⟨rfl, h'.symm⟩
    · have e' : (y == ("__class__" : Str)) = false := beq_eq_false_iff_ne.mpr e
      rw [e'] at h'
      simp at h'
  have lS : (supScope x).names.lookup ("self" : Str) = some NameKind.local := rfl
  have none' : ∀ b : Addr, b ∉ ([] : List Addr) := fun b z => by cases z
  exact
    { ok :=
        { mod := e0.mod, kind := rfl, glob := rfl, blt := rfl, above := Nat.le_refl _
          inj := fun y z c h1 h2 => (cells y c h1).1.trans (cells z c h2).1.symm
          has := fun y hy => by
            have hy' : (supScope x).names.lookup y = some .cell ∨ (supScope x).names.lookup y = some .free := hy
            unfold supScope at hy'
            simp only [List.lookup_cons, List.lookup_nil] at hy'
            by_cases e : y = "__class__"
            · subst e
              exact ⟨cc, rfl⟩
            · have e' : (y == ("__class__" : Str)) = false := beq_eq_false_iff_ne.mpr e
              rw [e'] at hy'
              cases e1 : (y == ("self" : Str)) <;> cases e2 : (y == x) <;> cases e3 : (y == ("super" : Str)) <;> rw [e1, e2, e3] at hy' <;> simp at hy'
          cab := fun _ _ z => by cases z
          hd := fun _ => hd
          frames := Around.frames_deeper e0.frames
          stk := .inr ⟨rfl, rfl⟩
          exf := fun b z => absurd z (none' b)
          bs := e0.bs, bsz := e0.bsz
          noex := fun b _ _ => none' b
          exfs := fun b z => absurd z (none' b)
          funs := e0.funs, frf := e0.frf }
      os := rfl, bare := e0.bare, base := Un.kept k
      loc := by
        refine ⟨_, ns, ?_⟩
        rintro i y v h1 h2 h3
        match i, h1, h2 with
        | 0, h1, h2 =>
          cases h1
          cases h2
          refine ⟨u1, r1, .inl ⟨rfl, ?_⟩⟩
          show ([(x, u2), ("self", u1)] : List (Str × Value)).lookup ("self" : Str) = some u1
          rw [List.lookup_cons, beq_eq_false_iff_ne.mpr (Ne.symm hx.1)]
          rfl
        | 1, h1, h2 =>
          cases h1
          cases h2
          refine ⟨u2, r2, .inl ⟨?_, ?_⟩⟩
          · show (supScope x).names.lookup x = some .local
            unfold supScope
            simp only [List.lookup_cons, beq_eq_false_iff_ne.mpr hx.1, beq_self_eq_true]
          · show ([(x, u2), ("self", u1)] : List (Str × Value)).lookup x = some u2
            rw [List.lookup_cons, beq_self_eq_true]
        | i + 2, h1, _ => cases h1
      cell := fun y c h => by
        obtain ⟨_, rfl⟩ := cells y c h
        exact ⟨_, _, k _ _ (e0.bs _ _ cellB).1, rfl⟩
      free := e0.hok.fresh (Nat.le_refl _)
      freeC := fun y c h => by
        obtain ⟨_, rfl⟩ := cells y c h
        exact (e0.bs _ _ cellB).2
      pin := fun p hp => absurd (show p ∈ ([] : List (Addr × Obj)) from hp) List.not_mem_nil
      hok := e0.hok.kept k
      len := rfl }
/-- super().__init__(text) -/
theorem sup_first {x qual t : Str} {f cc cda C a : Addr} {A : Around} {outer : List Env} {s s1 : Shared} {H : Hp} {y : Option V} {cl oc ccl : Value} {cld od cdd : Option Addr} {csl osl ccs : Array (Option Value)} {fd : FuncData} {ar : Arg} {vs : Array Value} {file : Str} {tf : Tok} {fld : Str} {j : Nat} {p0 p1 p2 p3 p4 p5 : Pos} {body : List Stmt}
    (T : SupC P K mg C fld) (hx : x ≠ "self" ∧ x ≠ "__class__" ∧ x ≠ "super") (hcell : K.lookup cc = some ⟨cl, cld, .cell (some (.ref C)), csl⟩) (lk : K.lookup f = some ⟨oc, od, .func fd, osl⟩) (har : (fd.params.posonlyargs ++ fd.params.args).head? = some ar) (hself : ar.arg = "self")
    (hcode : K.lookup cda = some ⟨ccl, cdd, .fields vs, ccs⟩) (hvs : vs[2]? = some (.str file tf)) (hfile : ((P.main.file : Str) == file) = true) {pl : Sem Bool}
    (he : ∀ env : Env, eval (.Call (.Attribute (.Call (.Name "super" p0) [] [] p1) "__init__" p2) [.Constant (.str t) j p3] [] p4) env = (do
      let ov ← attributeBase (.Call (.Name "super" p0) [] [] p1) "__init__" env (eval (.Call (.Name "super" p0) [] [] p1) env)
      standAt p2.atName
      let (f, first) ← holding [ov] (getMethod ov "__init__" pl)
      callWith p4 f first (backTo p4 (starEach [.Constant (.str t) j p3] env)) []))
    (I : Inv (supX P w K mg base x qual f cc cda A outer s H) [] [some (.ref a), y] H s1) (ha : H a = some (exo a C none)) {Q : Flow → Shared → Prop} {E : Value → Shared → Prop} (hQ : ∀ s2, Inv (supX P w K mg base x qual f cc cda A outer s H) [] [some (.ref a), y] H s2 → Q .next s2) :
    PySem.wpAt (model P w) (supX P w K mg base x qual f cc cda A outer s H).A (.func body (supX P w K mg base x qual f cc cda A outer s H).env) (exec (.Expr (.Call (.Attribute (.Call (.Name "super" p0) [] [] p1) "__init__" p2) [.Constant (.str t) j p3] [] p4) p5) (supX P w K mg base x qual f cc cda A outer s H).env) Q E s1 := by
  obtain ⟨cd, hcd⟩ := T.cd
  obtain ⟨nm, q, N, bs, bm, sn, sub, ab, col, dd, k0, k1, k2, k3, k5, hC, hbm⟩ := T.oex.cls
  have KI := I.kIn
  obtain ⟨t1, ho⟩ := exo_at I.hok ha
  obtain ⟨m, hns, hloc⟩ := I.loc
  obtain ⟨u1, ru, lo⟩ := hloc 0 "self" (.ref a) rfl rfl (.inl rfl)
  obtain rfl : u1 = Value.ref a := ru
  have ms : m "self" = some (.ref a) := by
    rcases lo with ⟨_, e⟩ | ⟨e | e, _⟩
    · exact e
    · have e' : some NameKind.local = some NameKind.cell := e
      cases e'
    · have e' : some NameKind.local = some NameKind.free := e
      cases e'
  obtain ⟨hh, g, d, tk, os⟩ := s1
  have hK := fun (b : Addr) (o : Obj) (e : K.lookup b = some o) => KI b o e
  have Dat := hK _ _ hC
  obtain ⟨mb, hb1, hb2⟩ := I.mod.blt
  have kX : (supX P w K mg base x qual f cc cda A outer s H).env.scope.kind = .function := rfl
  have kS : (supX P w K mg base x qual f cc cda A outer s H).env.kindOf "super" = some .globalImplicit := by
    show (supScope x).names.lookup ("super" : Str) = _
    unfold supScope
    simp only [List.lookup_cons, beq_eq_false_iff_ne.mpr (Ne.symm hx.2.2)]
    rfl
  have kC : (supX P w K mg base x qual f cc cda A outer s H).env.kindOf "__class__" = some .free := by
    show (supScope x).names.lookup ("__class__" : Str) = _
    unfold supScope
    simp only [List.lookup_cons, beq_eq_false_iff_ne.mpr (Ne.symm hx.2.1)]
    rfl
  have ne : a ≠ C := fun z => by
    rw [z, Dat] at ho
    cases ho
  refine ks_wpAt_Expr_any ?_ (by rfl) (by rfl)
  refine ks_wpAt_MethodCall ?_ (he _)
  refine ks_wpAt_super_base kS kC (by decide +kernel) rfl (hK _ _ lk) rfl har rfl (hK _ _ hcode) rfl hvs hfile T.top ?_
  refine PySem.W.ks_loadName_global kX kS (Calls.loadGlobal_builtin (show hh.Ns mainGlobals mg from I.mod.glob.keeps I.bk) T.sup (show hh.Ns builtinsNs mb from hb1.keeps I.bk) ((hb2 _ (by decide +kernel)).trans (show bootBuiltins "super" = some (.type "super") by rfl)) ⟨rfl, ?_⟩)
  refine wpAny_loadName_free kX kC (show _ = some cc from rfl) ⟨_, hK _ _ hcell, rfl⟩ ?_
  rw [hself]
  refine wpAny_loadName_local kX rfl hns ms ?_
  refine ks_wpAny_isType_cls Dat rfl ⟨rfl, ?_⟩
  refine ks_wpAny_call_super Dat rfl ho rfl (fun c z => by cases z) (PySem.W.looks_mroIn KI T.sub) fun h2 e2 k2 => ?_
  have I2 : Inv (supX P w K mg base x qual f cc cda A outer s H) [] [some (.ref a), y] H ⟨h2, g, d, tk, os⟩ := I.kept (t' := tk) k2
  have KI2 := I2.kIn
  have isV : PySem.W.Looks (model P w) h2 (isInstance (.ref a) (.type "ValueError")) true := by
    have at_ : PySem.W.InstAt h2 a _ C none := ⟨k2 _ _ ho, rfl, rfl, trivial⟩
    exact at_.type.andThen (PySem.W.looks_subIn KI2 T.isV)
  have way := T.way
  unfold PySem.W.ks_superIn at way
  rw [hcd] at way
  refine PySem.W.kxs_getMethod PySem.W.kxs_ValueError e2 (PySem.W.looks_opaque KI2 T.opa) (l₀ := cd.mro) ?_ rfl KI2 way isV ne (by decide +kernel) ?_
  · exact fun A Q E s k q => wpAny_bind ((PySem.W.looks_clsIn KI2 hcd) A _ E s k (wpAny_pure q))
  have I3 : Inv (supX P w K mg base x qual f cc cda A outer s H) [] [some (.ref a), y] H ⟨h2.push (PySem.W.kxs_mw "ValueError.__init__" a), g, d, tk + 1, os⟩ := I2.kept (t' := tk + 1) fun _ _ e => Heap.get?_push_of_some _ e
  have atU : (h2.push (PySem.W.kxs_mw "ValueError.__init__" a)).get? h2.objs.size = some (PySem.W.kxs_mw "ValueError.__init__" a) := Heap.get?_push_size _ rfl
  have offU : H h2.objs.size = none := I2.hok.fresh (Nat.le_refl _)
  refine PySem.W.kxs_callWith (i := "ValueError.__init__") (x := a) rfl (Calls.evalArgs_plain ?_)
  refine Calls.spliced_cons (Calls.Constant_str (k := j) (pos := p3) (Calls.spliced_nil ?_))
  refine ⟨atU, ?_⟩
  refine wpAny_call (codeAny_of_tree ?_)
  change wpAny _ _ (callAny (.ref h2.objs.size) _) _ _ _
  simp only [callAny]
  refine wpAny_bind (wpAny_load atU ?_)
  simp only [PySem.W.kxs_mw, show (Value.type "method-wrapper" == Value.type "method" || Value.type "method-wrapper" == Value.type "builtin_function_or_method" || Value.type "method-wrapper" == Value.type "method-wrapper") = true by decide, if_true]
  refine PySem.W.KFB.if_so (by decide) ?_
  have at3 : (h2.push (PySem.W.kxs_mw "ValueError.__init__" a)).get? a = some _ := Heap.get?_push_of_some _ (k2 _ _ ho)
  have atC : (h2.push (PySem.W.kxs_mw "ValueError.__init__" a)).get? C = some _ := I3.kIn _ _ hC
  refine wpAny_bind (PySem.W.check_bound_init F.excBase_ValueError.toExcCallFacts atC at3 rfl ?_)
  refine wpAny_bind (wpAny_pure (wpAny_pure ?_))
  refine ⟨plainId_quiet F.excBase_ValueError.init.plain _, codeAny_builtin F.excBase_ValueError.initEntry ?_⟩
  refine PySem.W.exc_init_tree at3 (show 1 ≤ sizeLine by decide) ?_
  intro h4 k4 e4 _
  have I3' : Inv (supX P w K mg base x qual f cc cda A outer s H) [] [some (.ref a), y] H ⟨h2.push (PySem.W.kxs_mw "ValueError.__init__" a), g, d, tk + 1 + 1, os⟩ := I3.tok _
  have J := I3'.write (t' := tk + 1 + 1) (x := a) (e := a) (o := exo a C none) (by rw [ha]; exact True.intro) (.inl rfl) k4 ⟨_, e4⟩ (exo_ok e4)
  have eu : upd H a (exo a C none) = H := by
    funext b
    by_cases hb : b = a
    · rw [hb, upd_same, ha]
    · rw [upd_ne hb]
  rw [eu] at J
  exact hQ _ J
theorem ok_sup {st : Stmt} {qual x t fld : Str} {f cc cda C : Addr} {cl oc ccl kV doc pm ct : Value} {cld od cdd an : Option Addr} {csl osl ccs : Array (Option Value)} {ar : Arg} {vs : Array Value} {file : Str} {tf : Tok} {j : Nat} {p0 p1 p2 p3 p4 p5 p6 p7 p8 p9 : Pos}
    (lk : K.lookup f = some ⟨oc, od, .func (PySem.W.ksFn "__init__" qual (defArgs st) (defBody st) (defScope st) .none kV doc pm an (.ref cda) ct cc), osl⟩) (hcd : PySem.W.codeIn K (.ref cda) qual = true)
    (hb : defBody st = [.Expr (.Call (.Attribute (.Call (.Name "super" p0) [] [] p1) "__init__" p2) [.Constant (.str t) j p3] [] p4) p5, .Assign [.Attribute (.Name "self" p6) fld p7] (.Name x p8) p9]) (hs : defScope st = supScope x)
    (T : SupC P K mg C fld) (hx : x ≠ "self" ∧ x ≠ "__class__" ∧ x ≠ "super") (hxd : (x == ("__debug__" : Str)) = false) (hxc : (x == ("__classdict__" : Str)) = false) (hcell : K.lookup cc = some ⟨cl, cld, .cell (some (.ref C)), csl⟩) (har : ((defArgs st).posonlyargs ++ (defArgs st).args).head? = some ar) (hself : ar.arg = "self")
    (hcode : K.lookup cda = some ⟨ccl, cdd, .fields vs, ccs⟩) (hvs : vs[2]? = some (.str file tf)) (hfile : ((P.main.file : Str) == file) = true) {pl : Sem Bool}
    (he : ∀ env : Env, eval (.Call (.Attribute (.Call (.Name "super" p0) [] [] p1) "__init__" p2) [.Constant (.str t) j p3] [] p4) env = (do
      let ov ← attributeBase (.Call (.Name "super" p0) [] [] p1) "__init__" env (eval (.Call (.Name "super" p0) [] [] p1) env)
      standAt p2.atName
      let (f, first) ← holding [ov] (getMethod ov "__init__" pl)
      callWith p4 f first (backTo p4 (starEach [.Constant (.str t) j p3] env)) []))
    (hsw : ∀ env : Env, swapsWith (.Name x p8) (some (.Attribute (.Name "self" p6) fld p7)) p9.line env = pure false) :
    FnOk P w K mg base C8.CX0 1 f (PySem.W.ksFn "__init__" qual (defArgs st) (defBody st) (defScope st) .none kV doc pm an (.ref cda) ct cc) ["self", x] (spSup C fld) := by
  refine ⟨fun vs H Q E h => ?_, fun A outer s H args us vs' Q E hr e0 hbd r h => ?_⟩
  · obtain ⟨a, v, rfl, _⟩ := h
    rfl
  · obtain ⟨a, v, rfl, ha, q⟩ := h
    obtain ⟨u1, u2, rfl, r1, r2⟩ := vals2 r
    have KS : K.In s.heap := e0.mod.kin.keeps fun b o e => (e0.bs b o e).1
    have lim : s.heap.NoLimit := e0.mod.nolimit.keeps fun b o e => (e0.bs b o e).1
    have nocell : ∀ y ∈ (supScope x).names, y.2 ≠ .cell := by
      intro y hy
      unfold supScope at hy
      simp only [List.mem_cons, List.not_mem_nil, or_false] at hy
      rcases hy with rfl | rfl | rfl | rfl <;> (intro z; cases z)
    have lx : (supScope x).names.lookup x = some NameKind.local := by
      unfold supScope
      simp only [List.lookup_cons, beq_eq_false_iff_ne.mpr hx.1, beq_self_eq_true]
    have locs : ∀ y ∈ ([("self", u1), (x, u2)] : List (Str × Value)), (supScope x).names.lookup y.1 = some NameKind.local := by
      intro y hy
      rcases List.mem_cons.mp hy with rfl | hy
      · rfl
      · cases List.mem_singleton.mp hy
        exact lx
    refine PySem.ks_codeAny_call_defAt (fd := PySem.W.ksFn "__init__" qual (defArgs st) (defBody st) (defScope st) .none kV doc pm an (.ref cda) ct cc) (binds := [("self", u1), (x, u2)]) hr.depth (KS _ _ lk) rfl lim (PySem.W.codeRec_of KS hcd) rfl hbd (by show ∀ y ∈ (defScope st).names, _; rw [hs]; exact nocell) (by intro y hy; show (defScope st).names.lookup y.1 = _; rw [hs]; exact locs y hy) ?_ (by show (defScope st).isCoroutine = false; rw [hs]; rfl) (by show (defScope st).isGenerator = false; rw [hs]; rfl) (by show (defScope st).kind = .function; rw [hs]; rfl)
    intro h0 ns k
    have env_is : callEnv (PySem.W.ksFn "__init__" qual (defArgs st) (defBody st) (defScope st) .none kV doc pm an (.ref cda) ct cc) s.heap.objs.size f = (supX P w K mg base x qual f cc cda A outer s H).env := by
      show PySem.W.ksEnv qual (defScope st) s.heap.objs.size f (.ref cda) cc = _
      rw [hs]
      rfl
    rw [env_is]
    have I := sup_start (tk := s.toks + 2) (cda := cda) (f := f) (qual := qual) hx hcell hr.hd e0 r1 r2 ns k
    obtain rfl : u1 = Value.ref a := r1
    have body_is : (PySem.W.ksFn "__init__" qual (defArgs st) (defBody st) (defScope st) .none kV doc pm an (.ref cda) ct cc).body = .stmts (defBody st) := rfl
    rw [hb]
    refine PySem.ks_wpAt_execs_cons ?_
    refine sup_first (A := A) (outer := outer) (s := s) T hx hcell lk har hself hcode hvs hfile he I ha ?_
    intro s2 I2
    refine wpAt_of_wpAny ?_
    have run := (pss_one (ps_ost (X := supX P w K mg base x qual f cc cda A outer s H) (pos := p9) (p' := p7) (f := fld) (pe_var (pos := p6) (i := 0) rfl (.inl rfl)) (pe_var (pos := p8) (i := 1) rfl (.inl lx) hxd hxc) (hsw _))).run [] s2 [some (.ref a), some v] H { nx := fun _ H' => Q .non H', rt := fun _ _ => False, bk := fun _ _ => False, ct := fun _ _ => False } I2
      ⟨v, rfl, .ref a, rfl, a, C, rfl, T.oex, T.fre, .inl ⟨ha, fun dx n ne => q dx n ne⟩⟩
    refine wpAny_mono run (fun fl s3 sp => ?_) (fun _ _ z => z.elim)
    cases fl with
    | next =>
      obtain ⟨σ', H', J, z⟩ := sp
      exact ⟨.non, H', J.os, J.bare, J.base, J.hok, rfl, z⟩
    | brk =>
      obtain ⟨_, _, _, z⟩ := sp
      exact z.elim
    | cont =>
      obtain ⟨_, _, _, z⟩ := sp
      exact z.elim
    | ret u =>
      obtain ⟨_, _, _, _, _, z⟩ := sp
      exact z.elim
end
end SupInit

set_option Elab.async false
set_option linter.all false
set_option maxRecDepth 100000
set_option maxHeartbeats 2000000
/-! An own error with a dict, told of at its address: isinstance, and its field. -/
namespace ErrD
open PySem PySem.Spec PyProof.Rows L2 Cau PySem.W
section
variable {prog : Program} {w : World} {K : Frag} {x D : Addr} {ox : Obj} {od : Option Obj}
theorem cls_found {C : Addr} {name : Str} {a g : Value} (hc : (clsIn K C).isSome = true) (ha : findIn K (.ref C) name = some (some a)) (hg : specialIn K a "__get__" = some (some g)) (ht : takesIn K a = some true) : findObj K C od name = some (.bind g a) := by
  obtain ⟨cd, e⟩ := Option.isSome_iff_exists.mp hc
  unfold findObj
  rw [e, Option.bind_some, ha, Option.bind_some]
  simp [hg, ht]
theorem cls_read (C : ExcC K D) {A : Around} {E : Value → Shared → Prop} {s : Shared} {Q : Option Value → Shared → Prop} (X : K.In s.heap) (I : InstAt s.heap x ox D od) (h : Q (some (.ref D)) { s with toks := s.toks + 1 }) :
    wpAny (model prog w) A (getAttr? (.ref x) "__class__") Q E s := by
  have some' : (clsIn K D).isSome = true := by
    obtain ⟨cd, e, _⟩ := any_some C.hd
    rw [e]
    rfl
  have found : findObj K D od "__class__" = some (.bind (.builtin "getset_descriptor.__get__") (.builtin "object.__class__")) := cls_found some' C.ha C.hn C.ht
  obtain ⟨hp, g, d, t, os⟩ := s
  have t0 := I.type (M := model prog w)
  have t1 := looks_findIn (M := model prog w) X C.hg
  have t2 := looks_findIn (M := model prog w) X C.hk
  have t3 := looks_find (M := model prog w) X I found
  have isB : Looks (model prog w) hp (isInstance (.ref x) (.type "BaseException")) true := t0.andThen (looks_subIn X C.hs)
  have n1 : (onTheHeap (Value.ref D) && Value.builtin "BaseException.__getattribute__" == Value.builtin "object.__getattribute__") = false := by
    rw [show (Value.builtin "BaseException.__getattribute__" == Value.builtin "object.__getattribute__") = false by decide +kernel]
    rfl
  have n2 : (false && onTheHeap (Value.builtin "BaseException.__getattribute__")) = false := rfl
  unfold getAttr? getAttrBy? getAttrBy
  refine wpAny_bind (wpAny_mkText (wpAny_bind (wpAny_attempt (wpAny_holding (wpAny_bind (t0.at (wpAny_bind (t1.at ?_))))))))
  change wpAny _ _ (if (onTheHeap (Value.ref D) && Value.builtin "BaseException.__getattribute__" == Value.builtin "object.__getattribute__") = true then _ else _) _ _ _
  rw [n1, if_neg Bool.false_ne_true]
  unfold getAttrByItsOwn hookBefore
  refine wpAny_bind ?_
  rw [if_pos (show onTheHeap (Value.ref D) = true from rfl)]
  refine t2.at (wpAny_bind (wpAny_attempt (wpAny_holding ?_)))
  unfold callGetattribute
  rw [n2, if_neg Bool.false_ne_true]
  unfold boundAndCalled
  rw [PySem.F.excAttr_ValueError.ga.bind (.ref x)]
  refine wpAny_bind (wpAny_pure ?_)
  change wpAny _ _ (call (.builtin "BaseException.__getattribute__") [.ref x, .str "__class__" t]) _ _ _
  refine wpAny_call (codeAny_call_builtin PySem.F.excAttr_ValueError.ga.plain PySem.F.entry_bexc_ga ?_)
  refine PySem.W.check_slot (M := model prog w) (s := ⟨hp, g, d, t + 1, os⟩) (i := "BaseException.__getattribute__") (owner := "BaseException") (n := "__getattribute__") (self := .ref x) (rest := [.str "__class__" t]) (kw := [])
    (by decide +kernel) (by decide +kernel) isB (PySem.F.args_bexc_ga (.ref x) (.str "__class__" t)) ?_
  unfold Builtin.«object.__getattribute__»
  refine wpAny_bind (wpAny_of_eq (a := ((Value.ref x : Value), [Value.str "__class__" t])) (by first | rfl | (simp only [slotArgs]; rfl)) ?_)
  refine wpAny_bind (wpAny_pure (wpAny_bind (t0.at (wpAny_bind (t3.at ?_)))))
  change wpAny _ _ (holding [Value.builtin "object.__class__"] (call (.builtin "getset_descriptor.__get__") [.builtin "object.__class__", .ref x, .ref D]) >>= ret) _ _ _
  refine wpAny_bind (wpAny_holding (wpAny_call (class_get (s := ⟨hp, g, d, t + 1, os⟩) (ox := ox) (od := od) X I C.hm ?_)))
  refine wpAny_pure ?_
  change wpAny _ _ (handedOut (.ref D)) _ _ _
  rw [handedOut_of (v := .ref D) rfl]
  first
    | exact wpAny_pure (wpAny_pure h)
    | exact wpAny_pure h
    | exact wpAny_pure (wpAny_bind (wpAny_pure (wpAny_pure h)))
theorem kit_err (C : ExcC K D) : KitX K (.ref x) (.ref D) (fun h => InstAt h x ox D od) where
  ty := fun _ _ _ I => I.type
  it := fun _ _ X _ => by
    obtain ⟨cd, e, _⟩ := any_some C.hd
    unfold clsIn at e
    split at e
    · rename_i ho
      intro A Q E s k q
      unfold isType loadHead
      exact wpAny_bind (wpAny_loadPart (k _ _ (X _ _ ho)) (wpAny_pure q))
    · cases e
  ne := fun h tp dd its n sl X htp => by
    obtain ⟨cd, e, _⟩ := any_some C.hd
    refine Bool.eq_false_iff.mpr fun q => ?_
    obtain rfl : D = tp := Value.ref.inj (beq_iff_eq.mp q)
    unfold clsIn at e
    split at e
    · rename_i ho
      cases (X _ _ ho).symm.trans htp
    · cases e
  ca := fun X I k => cls_read C X I k
end
def rIsErrD (K : PySem.W.Frag) (D : Addr) : List V → Hp → VK → Prop := fun xs H Q =>
  ∃ (e d : Addr) (fs : List (Str × V)) (c : V) (cv : Value) (b : Bool), xs = [.ref e, c] ∧ H e = some (ErrO (.ref D) (some d) e) ∧ H d = some (.xd fs) ∧ (∀ u, RelV c u → u = cv) ∧ PySem.W.kitOne K (.ref D) cv = some b ∧ Q (.bl b) H
theorem err_inst {X : Cx} {pins : List (Addr × Obj)} {σ : L2.St} {H : Hp} {s : Shared} {e d D : Addr} {fs : List (Str × V)} (I : Inv X pins σ H s) (he : H e = some (ErrO (.ref D) (some d) e)) (hd : H d = some (.xd fs)) :
    ∃ (ob od : Obj) (mA : Str → Option Value), PySem.W.InstAt s.heap e ob D (some od) ∧ s.heap.get? d = some od ∧ (∀ f, RelO (fs.lookup f) (mA f)) ∧ s.heap.Ns1 d mA := by
  obtain ⟨⟨⟨oc, odd, oda, osl⟩, vs, g, z, hf⟩, _⟩ := I.hok e _ he
  obtain ⟨z1, z2⟩ := z
  simp only at z1 z2 hf
  subst z1 z2 hf
  have hx : ObjOk X.prog X.w H s.heap d (.xd fs) := I.hok d _ hd
  obtain ⟨mA, hns, hr⟩ := hx
  obtain ⟨od, ho, hl⟩ := lookIn_ns hns
  exact ⟨_, od, mA, ⟨g, rfl, rfl, ho⟩, ho, hr, hns⟩
theorem call_isErrD {X : Cx} {D : Addr} (C : ExcC X.K D) : CallR X (.builtin "isinstance") (rIsErrD X.K D) := by
  intro pins s σ H xs us Q I r ⟨e, d, fs, c, cv, b, hx, he, hd, hcv, hb, q⟩
  subst hx
  obtain ⟨u1, u2, hu, r1, r2⟩ := vals2 r
  subst hu
  cases (show u1 = Value.ref e from r1)
  cases hcv _ r2
  obtain ⟨ob, od, mA, at_, _⟩ := err_inst I he hd
  exact PySem.W.kia_one (kit_err C) I.kIn at_ hb (fun z => nomatch z) fun tk => ⟨.bl b, H, I.tok tk, rfl, q⟩
/-- e.f -/
def tErrF (D : Addr) (f : Str) (te : TE) : TE := fun σ H Q => te σ H fun x H1 => ∃ (e d : Addr) (fs : List (Str × V)) (v : V), x = .ref e ∧ H1 e = some (ErrO (.ref D) (some d) e) ∧ H1 d = some (.xd fs) ∧ fs.lookup f = some v ∧ Q v H1
theorem pe_errF {X : Cx} {D : Addr} {e : Expr} {te : TE} {pos : Pos} {f : Str} (C : ExcC X.K D) (hno : PySem.W.findIn X.K (.ref D) f = some none) (he : PE X e te) (hb : attributeBase e f X.env (eval e X.env) = eval e X.env := by rfl) : PE X (.Attribute e f pos) (tErrF D f te) := by
  constructor
  intro pins s σ H Q I h
  refine attr_of hb (thn (he.run pins s σ H _ I h) ?_)
  rintro u s1 ⟨x, H1, I1, rx, a, d, fs, v, ex, hE, hd, l, q⟩
  subst ex
  obtain rfl : u = Value.ref a := rx
  obtain ⟨⟨⟨oc, odd, oda, osl⟩, vs, g, z, hf⟩, _⟩ := I1.hok a _ hE
  obtain ⟨z1, z2⟩ := z
  simp only at z1 z2 hf
  subst z1 z2 hf
  have hx : ObjOk X.prog X.w H1 s1.heap d (.xd fs) := I1.hok d _ hd
  obtain ⟨mA, hns, hr⟩ := hx
  obtain ⟨od, ho, hl⟩ := lookIn_ns hns
  obtain ⟨u, hu, ru⟩ := RelO.some_of (v := v) (o := mA f) (by rw [← l]; exact hr f)
  have at_ : PySem.W.InstAt s1.heap a _ D (some od) := ⟨g, rfl, rfl, ho⟩
  refine HandSPX.exc_get I1.kIn at_ C.hg C.hk C.hs (PySem.W.findObj_own C.hd hno rfl ?_) (handed_of ru) ⟨v, H1, I1.tok _, ru, q⟩
  rw [hl, hu]
end ErrD

set_option Elab.async false
set_option linter.all false
set_option maxRecDepth 100000
set_option maxHeartbeats 2000000
namespace N8
open PySem PySem.Spec PyProof.Rows L2 Cau Dr27 N1 N2 N3 N4 N5 N6 N7 TxtSet
abbrev St1 := Str × List V
def sdOf (p : St1) : Sd := .pair (.str p.1) (some p.2)
def wordL (xs : List V) : Str := match xs with
  | .str w :: _ => w
  | _ => ""
theorem sd_at {K : PySem.W.Frag} {H : Hp} {ys : List V} {st : List St1} (h : ∀ (i : Nat) y d, ys[i]? = some y → (st.map sdOf)[i]? = some d → SdOk K H y d) {i : Nat} {y : V} {p : St1} (e1 : ys[i]? = some y) (e2 : st[i]? = some p) :
    ∃ (yp zp : Addr), y = .ref yp ∧ SqT K H yp [.str p.1, .ref zp] ∧ SqT K H zp p.2 ∧ p.2.all AtomV = true ∧ p.2.length ≤ 100 := by
  have d := h i y (sdOf p) e1 (by rw [List.getElem?_map, e2]; rfl)
  obtain ⟨yp, z, rfl, hy, _, dd⟩ := d
  rcases dd with ⟨zp, xs, rfl, hz, ha, hl, e⟩ | ⟨_, e⟩
  · cases e
    exact ⟨yp, zp, rfl, hy, hz, ha, hl⟩
  · cases e
/-- each step of a drawing has a deed -/
theorem goes_deeds : ∀ (st : List St1) (kn : List Str), goesB (st.map sdOf) kn = true → ∀ p ∈ st, deedL p.2 = true ∧ nameS p.1 = true
  | [], _, _, p, hp => absurd hp List.not_mem_nil
  | q :: r, kn, h, p, hp => by
    rw [List.map_cons] at h
    unfold goesB at h
    cases e : stepB (sdOf q) kn with
    | none => rw [e] at h; cases h
    | some s =>
      rw [e] at h
      have h' : goesB (r.map sdOf) (kn ++ [s]) = true := h
      rcases List.mem_cons.mp hp with rfl | hp
      · have e' : stepB (.pair (.str p.1) (some p.2)) kn = some s := e
        rw [step_str] at e'
        split at e'
        · rename_i c
          simp only [Bool.and_eq_true] at c
          exact ⟨c.1.1.2, c.1.1.1⟩
        · cases e'
      · exact goes_deeds r _ h' p hp
theorem word_of {xs : List V} (h : deedL xs = true) : ∃ w r k, xs = .str w :: r ∧ formOf w = some k ∧ (r.take k).all nameV = true ∧ wordL xs = w := by
  obtain ⟨w, r, k, rfl, h1, h2⟩ := deed_shape h
  exact ⟨w, r, k, rfl, h1, h2, rfl⟩
def spChest (K : PySem.W.Frag) : Sp := fun vs H Q _ => ∃ (x : V) (st : List St1), vs = [x] ∧ Sv K H x (some (st.map sdOf)) ∧ goesB (st.map sdOf) sheetL = true ∧ st.length ≤ 60 ∧
  ∀ (H' : Hp) (q : Addr) (zs : List Str), Same H H' → H q = none → H' q = some (.tup (zs.map V.str)) → sortedS zs = true → zs.Nodup → (∀ t, t ∈ zs ↔ t ≠ "" ∧ t ∈ st.map fun p => toolW (wordL p.2)) → zs.length ≤ 60 → Q (.ref q) H'
section
variable {P : Program} {w : World} {K : PySem.W.Frag} {mg : Str → Option Value} {base : Heap}
def chestN : List Str := ["steps", "tools", "_", "deed", "tool"]
theorem scCh : FnScope chestN ["steps"] (defScope sChestOf) := ⟨rfl, rfl, rfl, by decide +kernel, rfl, by decide +kernel, by decide +kernel⟩
theorem ok_chest {f fC fT C C2 : Addr} {fd fdC fdT : FuncData} (F : Fun K "chest_of" "chest_of" sChestOf f fd) (FC : Fun K "check_drawing" "check_drawing" sCheckDrawing fC fdC) (GC : FnOk P w K mg base (L2.CX P w) 5 fC fdC ["value"] (spCheckDrawing K C)) (bC : Binds K fdC ["value"] []) (gC : mg "check_drawing" = some (.ref fC))
    (FT : Fun K "tool_of" "tool_of" sToolOf fT fdT) (GT : FnOk P w K mg base (L2.CX P w) 4 fT fdT ["deed"] (spTool K C2)) (bT : Binds K fdT ["deed"] []) (gT : mg "tool_of" = some (.ref fT))
    (mt : mg "tuple" = none) (ms : mg "sorted" = none) (mse : mg "set" = none) : FnOk P w K mg base (L2.CX P w) 6 f fd ["steps"] (spChest K) := by
  refine F.okX scCh (fun vs H Q E h => ?_) (fun cdv A outer s H vs Q E hr h => ?_)
  · obtain ⟨x, st, rfl, _⟩ := h
    rfl
  · obtain ⟨x, st, rfl, hx, hg, hl60, q⟩ := h
    have hr4 : Room 4 _ := hr.mono (by decide)
    refine ⟨_, pss_cons (ps_expr (pe_call GC hr (by rfl) gC FC.kp bC .nil (passes_call (takes_of rfl rfl rfl rfl) (fun _ _ _ _ h => h)) (pa_cons (pv 0) pa_nil)))
      (pss_cons (ps_setLc (i := 1) (own := [("_", 2), ("deed", 3)]) (g := gTup K 2 (gCons (gName 2) (gCons (gName 3) gNil))) (tt := tYes) rfl scCh.nd rfl rfl (sw_true rfl rfl rfl (by decide +kernel)) (pi_seq (pv 0))
          (blkOk_by (own := [("_", 2), ("deed", 3)]) (N := chestN) (sc := defScope sChestOf) (by decide +kernel))
          (fun _ _ _ _ _ => pg_tup (by rfl) (pgs_cons (pg_name (i := 2) scCh.nd rfl (.inl rfl)) (pgs_cons (pg_name (i := 3) scCh.nd rfl (.inl rfl)) pgs_nil))) (fun _ _ _ _ _ => pts_nil)
          (fun _ _ _ _ _ => pe_call GT hr4 (by rfl) gT FT.kp bT .nil (passes_call (W := fun _ _ _ _ => False) LamX.takes0 (fun _ _ _ _ h => h)) (pa_cons (pv 3) pa_nil)))
      (pss_one (ps_ret (pe_callTy call_tuple_of (by rfl) mt (by decide +kernel) (pa_cons (pe_callB (cr_sortT rfl) (by rfl) ms (by decide +kernel) (pa_cons (pe_callTy (cr_setT rfl) (by rfl) mse (by decide +kernel) (pa_cons
          (pe_lc (own := [("tool", 4)]) (g := gName 4) rfl scCh.nd (pi_list (pv 1))
            (blkOk_by (own := [("tool", 4)]) (N := chestN) (sc := defScope sChestOf) (by decide +kernel))
            (fun _ _ _ _ _ => pg_name (i := 4) scCh.nd rfl (.inl rfl)) (fun _ _ _ _ _ => pts_one (pt_cmpR op_ne (pv 4) pe_str (nomark _))) (fun _ _ _ _ _ => pv 4)) pa_nil)) pa_nil)) pa_nil))))), ?_⟩
    refine ⟨_, rfl, x, _, rfl, hx, .inl ⟨hg, fun H1 sm1 => ?_⟩⟩
    rcases hx with ⟨p, ys, ds, rfl, hq, hl, hl2, hok, e⟩ | ⟨_, e⟩
    · cases e
      rw [List.length_map] at hl
      have deeds := goes_deeds st _ hg
      refine ⟨_, rfl, p, ys, rfl, seq_of hq sm1 fun J G wk hG => fun D nD => ?_⟩
      have nD0 : H D = none := PySem.Spec.same_none sm1 nD
      refine lc_it wk (fun i H' => ∃ bs : List Str, H' D = some (.lst (bs.map V.str)) ∧ bs = (st.take i).map (fun p => toolW (wordL p.2)) ∧ Same H H') ⟨[], upd_same, rfl, same_put sm1 nD0⟩ (fun i H' _ ⟨_, _, _, sm⟩ => hG _ sm) ?_ ?_
      · rintro i y H2 H3 hi ⟨bs, hD, hbs, sm⟩ ⟨rfl, hy⟩
        have his : i < st.length := by omega
        have hs : st[i]? = some st[i] := List.getElem?_eq_getElem his
        have dl := deeds _ (List.getElem_mem his)
        obtain ⟨yp, zp, rfl, h1, h2, h3, h4⟩ := sd_at hok hy hs
        obtain ⟨w0, r, k, e, hf, _, hw⟩ := word_of dl.1
        rw [e] at h2 h3 h4
        refine ⟨yp, _, rfl, sqT_same h1 sm, rfl, _, _, rfl, _, _, rfl, rfl, ?_⟩
        refine ⟨rfl, _, rfl, zp, w0, r, rfl, sqT_same h2 sm, h3, h4, e ▸ dl.1, fun H4 sm4 => ⟨_, sm4 _ _ hD, ?_, bs ++ [toolW w0], by rw [upd_same, List.map_append]; rfl, ?_, same_put (sm.trans sm4) nD0⟩⟩
        · rw [List.length_map, hbs, List.length_map, List.length_take]
          exact small1000 (by omega)
        · rw [List.take_succ, List.map_append, hs, hbs]
          show _ = _ ++ [toolW (wordL st[i].2)]
          rw [hw]
      · rintro H2 ⟨bs, hD, hbs, sm⟩
        rw [hl, List.take_length] at hbs
        have hbl : bs.length = st.length := by rw [hbs, List.length_map]
        refine ⟨_, rfl, D, rfl, ⟨_, .inl (.inl hD)⟩, fun D2 nD2 => ?_⟩
        refine lc_list (K := K) (a := D) (xs := bs.map V.str) (fun i H' => ∃ cs : List Str, H' D2 = some (.lst (cs.map V.str)) ∧ cs = (bs.take i).filter (fun t => !decide (t = ("" : Str))) ∧ Same H2 H') ⟨[], upd_same, rfl, same_upd nD2⟩ (fun i H' _ ⟨_, _, _, sm2⟩ => .inl (.inl (sm2 _ _ hD))) ?_ ?_
        · rintro i x H3 hx ⟨cs, hD2, hcs, sm2⟩
          obtain ⟨z, rfl, hz⟩ : ∃ z, x = V.str z ∧ bs[i]? = some z := by
            rw [List.getElem?_map] at hx
            cases e : bs[i]? with
            | none => rw [e] at hx; cases hx
            | some z => rw [e] at hx; exact ⟨z, (Option.some.inj hx).symm, rfl⟩
          have hil : i < bs.length := (List.getElem?_eq_some_iff.mp hz).1
          have hcl : cs.length ≤ 60 := by
            rw [hcs]
            refine Nat.le_trans (List.length_filter_le _ _) ?_
            rw [List.length_take]
            omega
          have step : (bs.take (i + 1)).filter (fun t => !decide (t = ("" : Str))) = cs ++ (if z = ("" : Str) then [] else [z]) := by
            rw [hcs, List.take_succ, List.filter_append, hz]
            by_cases e : z = ("" : Str) <;> simp [e]
          refine ⟨rfl, _, rfl, rfl, _, rfl, ?_⟩
          show if (!decide (V.str z = V.str "")) = true then _ else _
          by_cases e : z = ("" : Str)
          · refine iteF2 (by rw [e]; simp) ⟨cs, hD2, ?_, sm2⟩
            rw [step, if_pos e, List.append_nil]
          · refine iteT2 (by simp [e]) ⟨_, rfl, _, hD2, ?_, cs ++ [z], by rw [upd_same, List.map_append]; rfl, ?_, same_put sm2 nD2⟩
            · rw [List.length_map]
              exact small1000 (by omega)
            · rw [step, if_neg e]
        · rintro H3 ⟨cs, hD2, hcs, sm2⟩
          rw [List.length_map, List.take_length] at hcs
          have hcl : cs.length ≤ 60 := by
            rw [hcs]
            exact Nat.le_trans (List.length_filter_le _ _) (by omega)
          refine ⟨D2, cs, rfl, .inl (.inl (.inl hD2)), by omega, fun a L na nd mem => ?_⟩
          have hLl : L.length ≤ 60 := Nat.le_trans (nodup_le _ _ nd fun x hx => (mem x).mp hx) hcl
          refine ⟨a, L, rfl, upd_same, by omega, fun zs l pm srt nl => ?_⟩
          refine ⟨l, zs.map V.str, rfl, .inl ⟨.inl (.inl upd_same), fun q2 nq2 => ?_⟩⟩
          have S : Same H (upd (upd (upd H3 a (SetT w a L)) l (.lst (zs.map V.str))) q2 (.tup (zs.map V.str))) := sm.trans (sm2.trans ((same_upd na).trans ((same_upd nl).trans (same_upd nq2))))
          have S0 : Same H (upd (upd H3 a (SetT w a L)) l (.lst (zs.map V.str))) := sm.trans (sm2.trans ((same_upd na).trans (same_upd nl)))
          refine q _ q2 zs S (PySem.Spec.same_none S0 nq2) upd_same srt (pm.nodup_iff.mpr nd) (fun t => ?_) (by rw [pm.length_eq]; exact hLl)
          rw [pm.mem_iff, mem, hcs, hbs, List.mem_filter]
          simp [and_comm]
    · cases e
end
end N8

set_option Elab.async false
set_option linter.all false
set_option maxRecDepth 100000
set_option maxHeartbeats 2000000
/-! A dict comprehension that a local of a function takes on one line. -/
namespace SetDc
open PySem PySem.Spec PyProof.Rows L2 Cau
section
variable {X : Cx}
/-- a goal of the comprehension's block, at every heap of it -/
abbrev InBlk (X : Cx) (sc : Scope) (p : Cx → Prop) : Prop := ∀ s H C cl fp, p (X.blk s H sc (compEnvC sc cl C X.env) fp)
theorem ps_setDc {n : Nat} {nm : Str} {pn ps pc : Pos} {ek ev t it : Expr} {cs : List Expr} {sc : Scope} {mine : List (Str × Nat)} {wi : TI} {g : TG} {tt : TT} {tk tv : TE}
    (calm : X.calm = true) (nd : X.N.Nodup) (at_ : X.N[n]? = some nm) (loc : X.env.scope.names.lookup nm = some .local) (sw : swapsWith (.DictComp ek ev [⟨t, it, cs, 0⟩] sc pc) (some (.Name nm pn)) ps.line X.env = pure true)
    (over : PI X t it wi) (blk : BlkOk X.N X.env.scope sc mine) (og : InBlk X sc fun Y => PG Y t g) (ot : InBlk X sc fun Y => PTs Y cs tt) (ok : InBlk X sc fun Y => PE Y ek tk) (ov : InBlk X sc fun Y => PE Y ev tv)
    (fold : ∀ x, foldedSetIterable it X.env x = pure x := by intro _; rfl) : PS X (.Assign [.Name nm pn] (.DictComp ek ev [⟨t, it, cs, 0⟩] sc pc) ps) (tAsg (tDc wi g tt tk tv (mine.map (·.2))) (gName n)) := by
  constructor
  intro pins s σ H D I go
  rw [exec_Assign_Name_used _ _ _ _ sw]
  refine wpAny_bind (wpAny_standAt (wpAny_bind ?_))
  have go' : tDc wi g tt tk tv (mine.map (·.2)) σ H fun x H1 => gName n x σ H1 D.nx := go
  show wpAny _ X.A (do let _ ← comprehension (.DictComp ek ev [⟨t, it, cs, 0⟩] sc pc) sc X.env (firstIterPos [⟨t, it, cs, 0⟩] pc) newDict false (eval it X.env) (some (assign (.Name nm pn) X.env))) _ _ s
  refine wpAny_bind (thn (dc_core (Qf := fun _ r => SP X pins D .next r) calm nd I over blk og ot ok ov fold go' fun d c r m K J q ns fp => ?_) fun _ r hr => wpAny_pure (wpAny_pure hr))
  obtain ⟨a0, a1, a2, a3, a4, a5⟩ := fp
  show wpAny _ _ (assign (.Name nm pn) X.env (.ref d)) _ _ _
  refine wpAny_assign_Name (store_ok2 (v := V.ref d) J nd at_ (.inl loc) rfl (fun r2 J2 hz => ?_) (.inr loc))
  obtain ⟨b, sb, hb⟩ := hz
  have off : c ≠ b := hb.elim (fun e => e ▸ a1) fun e z => a4 nm b e z.symm
  refine ⟨m, ns.sameBut sb off, fun h3 sb3 => ⟨_, K, J2.turned (t' := r2.toks) (fun x o hx e => (sb3.2 x hx).trans e) a0 a1 a3 a4 a5, q⟩⟩
theorem sw_dict {ek ev : Expr} {cs : List Comprehension} {sc : Scope} {pc pn : Pos} {nm : Str} {ln : Nat} {env : Env} (isF : env.scope.kind = .function) (loc : env.scope.names.lookup nm = some .local) (line : (pn.line == pc.line) = true)
    (out : (sc.names.any fun (n, k) => n == nm && (k == .local || k == .cell)) = false) : swapsWith (.DictComp ek ev cs sc pc) (some (.Name nm pn)) ln env = pure true := by
  have k1 : env.blockKind = .function := by
    unfold Env.blockKind
    rw [isF]
    rfl
  have k2 : env.kindOf nm = some .local := loc
  unfold swapsWith
  simp only [k1, k2, out, line, Expr.pos]
  rfl
end
end SetDc

set_option Elab.async false
set_option linter.all false
set_option maxRecDepth 100000
set_option maxHeartbeats 2000000
namespace N9
open PySem PySem.Spec PyProof.Rows L2 Cau Dr27 N1 N2 N3 N4 N5 N6 N7 N8 TxtSet
/-- the names wanted, from the end of the steps to their start -/
def backW (st : List St1) (ns : List Str) : List Str := st.foldr (fun p w => if p.1 ∈ w then w ++ namesL p.2 else w) ns
theorem backW_cons (p : St1) (r : List St1) (ns : List Str) : backW (p :: r) ns = if p.1 ∈ backW r ns then backW r ns ++ namesL p.2 else backW r ns := rfl
def lostB (st : List St1) (z : Str) : Bool := !decide (z ∈ st.map (·.1)) && !decide (z ∈ sheetL)
def pickW (ys : List V) (st : List St1) (w : List Str) : List V := ((ys.zip st).filter fun q => decide (q.2.1 ∈ w)).map (·.1)
def spNeeded (K : PySem.W.Frag) (CB CN CM : Addr) : Sp := fun vs H Q E => ∃ (x y : V) (o : Option (List Sd)) (o2 : Option (List (Option Str))), vs = [x, y] ∧ Sv K H x o ∧ Nv K H y o2 ∧
  ((goesO o sheetL = false ∧ ∀ H', Same H H' → E (.ref CB) none H') ∨ (goesO o sheetL = true ∧ namesO o2 = false ∧ ∀ H', Same H H' → E (.ref CN) none H') ∨
    (goesO o sheetL = true ∧ namesO o2 = true ∧ ∃ (p nm : Addr) (ys : List V) (st : List St1) (ns : List Str), x = .ref p ∧ SqX K H p ys ∧ o = some (st.map sdOf) ∧ ys.length = st.length ∧ st.length ≤ 60 ∧
      (∀ (i : Nat) y d, ys[i]? = some y → (st.map sdOf)[i]? = some d → SdOk K H y d) ∧ y = .ref nm ∧ SqX K H nm (ns.map V.str) ∧ ns.length ≤ 90 ∧
      ((∃ z, ns.find? (lostB st) = some z ∧ ∀ H' d, Same H H' → H d = none → H' d = some (.xd [("name", .str z)]) → E (.ref CM) (some d) H') ∨
       (ns.find? (lostB st) = none ∧ ∀ H' l, Same H H' → H l = none → H' l = some (.lst (pickW ys st (backW st ns))) → Q (.ref l) H'))))
theorem find_take {α : Type} {f : α → Bool} : ∀ {l : List α} {i : Nat} {x : α}, l[i]? = some x → (l.take i).find? f = none → (f x = true → l.find? f = some x) ∧ (f x = false → (l.take (i + 1)).find? f = none)
  | a :: r, 0, x, h, _ => by
    cases (show a = x from Option.some.inj h)
    exact ⟨fun e => by rw [List.find?_cons, e], fun e => by simp [e]⟩
  | a :: r, i + 1, x, h, hn => by
    rw [List.take_succ_cons, List.find?_cons] at hn
    cases ha : f a with
    | true => rw [ha] at hn; cases hn
    | false =>
      rw [ha] at hn
      have z := find_take (f := f) (l := r) (show r[i]? = some x from h) hn
      exact ⟨fun e => by rw [List.find?_cons, ha]; exact z.1 e, fun e => by rw [List.take_succ_cons, List.find?_cons, ha]; exact z.2 e⟩
section
variable {P : Program} {w : World} {K : PySem.W.Frag} {mg : Str → Option Value} {base : Heap}
def needN : List Str := ["steps", "names", "name", "deed", "deeds", "wanted", "used", "step"]
theorem scNd : FnScope needN ["steps", "names"] (defScope sNeeded) := ⟨rfl, rfl, rfl, by decide +kernel, rfl, by decide +kernel, by decide +kernel⟩
theorem ok_needed {f fC fN fD fI CB CN CM d : Addr} {fd fdC fdN fdD fdI : FuncData} (F : Fun K "needed" "needed" sNeeded f fd)
    (FC : Fun K "check_drawing" "check_drawing" sCheckDrawing fC fdC) (GC : FnOk P w K mg base (L2.CX P w) 5 fC fdC ["value"] (spCheckDrawing K CB)) (bC : Binds K fdC ["value"] []) (gC : mg "check_drawing" = some (.ref fC))
    (FN : Fun K "check_names" "check_names" sCheckNames fN fdN) (GN : FnOk P w K mg base (L2.CX P w) 3 fN fdN ["value"] (spCheckNames K CN)) (bN : Binds K fdN ["value"] []) (gN : mg "check_names" = some (.ref fN))
    (FD : Fun K "deed_names" "deed_names" sDeedNames fD fdD) (GD : FnOk P w K mg base CX0 1 fD fdD ["deed"] (spDN K)) (bD : Binds K fdD ["deed"] []) (gD : mg "deed_names" = some (.ref fD))
    (O : OexC K CM) (iM : PySem.W.findIn K (.ref CM) "__init__" = some (some (.ref fI))) (tI : PySem.W.typeIn K (.ref fI) = some (.type "function")) (GI : FnOk P w K mg base CX0 1 fI fdI ["self", "name"] (SupInit.spSup CM "name")) (bI : Binds K fdI ["self", "name"] []) (gM : mg "NoName" = some (.ref CM))
    (Wd : WordsK K d sheetL) (gW : mg "SHEET_NAMES" = some (.ref d)) (mli : mg "list" = none) (mr : mg "reversed" = none) : FnOk P w K mg base (L2.CX P w) 6 f fd ["steps", "names"] (spNeeded K CB CN CM) := by
  refine F.okX scNd (fun vs H Q E h => ?_) (fun cdv A outer s H vs Q E hr h => ?_)
  · obtain ⟨x, y, o, o2, rfl, _⟩ := h
    rfl
  · obtain ⟨x, y, o, o2, rfl, hx, hy, h⟩ := h
    have hu := hu_of (hr.mono (Nat.zero_le _) : Room 0 _)
    have hr3 : Room 3 _ := hr.mono (by decide)
    have hr2 : Room 2 _ := hr.mono (by decide)
    have hr1 : Room 1 _ := hr.mono (by decide)
    refine ⟨_, pss_cons (ps_expr (pe_call GC hr (by rfl) gC FC.kp bC .nil (passes_call (takes_of rfl rfl rfl rfl) (fun _ _ _ _ h => h)) (pa_cons (pv 0) pa_nil)))
      (pss_cons (ps_expr (pe_call GN hr3 (by rfl) gN FN.kp bN .nil (passes_call (takes_of rfl rfl rfl rfl) (fun _ _ _ _ h => h)) (pa_cons (pv 1) pa_nil)))
      (pss_cons (SetDc.ps_setDc (n := 4) (mine := [("name", 2), ("deed", 3)]) (g := gTup K 2 (gCons (gName 2) (gCons (gName 3) gNil))) (tt := tYes) rfl scNd.nd rfl rfl (SetDc.sw_dict rfl rfl rfl (by decide +kernel)) (pi_seq (pv 0))
          (blkOk_by (own := [("name", 2), ("deed", 3)]) (N := needN) (sc := defScope sNeeded) (by decide +kernel))
          (fun _ _ _ _ _ => pg_tup (by rfl) (pgs_cons (pg_name (i := 2) scNd.nd rfl (.inl rfl)) (pgs_cons (pg_name (i := 3) scNd.nd rfl (.inl rfl)) pgs_nil))) (fun _ _ _ _ _ => pts_nil) (fun _ _ _ _ _ => pv 2) (fun _ _ _ _ _ => pv 3))
      (pss_cons (ps_for (passes_of rfl) rfl (pi_seq (pv 1)) (pg_name (i := 2) scNd.nd rfl (.inl rfl))
        (pss_one (ps_if (PW.pt (pw_and (pt_cmp (pc_dnotin hu (pv 2) (pv 4))) (pw_and1 (pt_cmpR (show OpR _ (compareOp .NotIn) (rIn K true) from op_notIn_seq) (pv 2) (pe_glob (v := .ref d) (by rfl) gW rfl) (by rfl)))))
          (pss_one (ps_raise rfl (takes_of rfl rfl rfl rfl) (pmk_oex O iM tI GI hr2 bI .nil pass0 (by rfl) gM (pa_cons (pv 2) pa_nil)))) pss_nil)))
      (pss_cons (ps_set (i := 5) scNd.nd rfl (.inr rfl) (pe_dc (own := [("name", 2)]) (g := gName 2) (tt := tYes) rfl scNd.nd (pi_seq (pv 1))
          (blkOk_by (own := [("name", 2)]) (N := needN) (sc := defScope sNeeded) (by decide +kernel))
          (fun _ _ _ _ _ => pg_name (i := 2) scNd.nd rfl (.inl rfl)) (fun _ _ _ _ _ => pts_nil) (fun _ _ _ _ _ => pv 2) (fun _ _ _ _ _ => pe_bl)))
      (pss_cons (ps_for (passes_of rfl) rfl (pi_reversed (by rfl) mr (pa_cons (pe_callTy call_list_of (by rfl) mli (by decide +kernel) (pa_cons (pv 0) pa_nil)) pa_nil))
          (pg_tup (by rfl) (pgs_cons (pg_name (i := 2) scNd.nd rfl (.inl rfl)) (pgs_cons (pg_name (i := 3) scNd.nd rfl (.inl rfl)) pgs_nil)))
        (pss_one (ps_if (pt_cmp (pc_din hu (pv 2) (pv 5)))
          (pss_one (ps_for (passes_of rfl) rfl (pi_tup (pe_call GD hr1 (by rfl) gD FD.kp bD .nil pass0 (pa_cons (pv 3) pa_nil))) (pg_name (i := 6) scNd.nd rfl (.inl rfl))
            (pss_one (ps_dput hu (pv 5) (pv 6) pe_bl rfl)))) pss_nil)))
      (pss_one (ps_ret (pe_lc (own := [("step", 7)]) (g := gName 7) rfl scNd.nd (pi_seq (pv 0))
            (blkOk_by (own := [("step", 7)]) (N := needN) (sc := defScope sNeeded) (by decide +kernel))
            (fun _ _ _ _ _ => pg_name (i := 7) scNd.nd rfl (.inl rfl)) (fun _ _ _ _ _ => pts_one (pt_cmp (pc_din hu (pe_ix (show IxR _ (rIxT K) from ix_tup) (pv 7) pe_int (fun _ _ => rfl)) (pv 5)))) (fun _ _ _ _ _ => pv 7))))))))), ?_⟩
    refine ⟨_, rfl, x, o, rfl, hx, ?_⟩
    rcases h with ⟨e, q⟩ | ⟨e, e2, q⟩ | ⟨e, e2, p, nm, ys, st, ns, rfl, hq, rfl, hl, hl60, hok, rfl, hns, hnl, h⟩
    · exact .inr ⟨e, q⟩
    · refine .inl ⟨e, fun H1 sm1 => ?_⟩
      refine ⟨_, rfl, y, o2, rfl, hy.same sm1, .inr ⟨e2, fun H2 sm2 => q H2 (sm1.trans sm2)⟩⟩
    · refine .inl ⟨e, fun H1 sm1 => ?_⟩
      refine ⟨_, rfl, .ref nm, o2, rfl, hy.same sm1, .inl ⟨e2, fun H2 sm2 => ?_⟩⟩
      have SM := sm1.trans sm2
      have deeds := goes_deeds st _ e
      have stz : ∀ (i : Nat) (x : V), (ns.map V.str)[i]? = some x → ∃ z, x = V.str z ∧ ns[i]? = some z := fun i x hx => by
        rw [List.getElem?_map] at hx
        cases e : ns[i]? with
        | none => rw [e] at hx; cases hx
        | some z => rw [e] at hx; exact ⟨z, (Option.some.inj hx).symm, rfl⟩
      refine ⟨_, rfl, p, ys, rfl, seq_of hq SM fun J G wk hG => fun D nD => ?_⟩
      have nD0 : H D = none := PySem.Spec.same_none SM nD
      refine dc_it wk (fun i H' => ∃ kvs, H' D = some (.dK kvs) ∧ Keys kvs ((st.take i).map (·.1)) ∧ kvs.length ≤ i ∧ Same H H') ⟨[], upd_same, Keys.nil, Nat.le_refl _, same_put SM nD0⟩ (fun i H' _ ⟨_, _, _, _, sm⟩ => hG _ sm) ?_ ?_
      · rintro i y H3 H4 hi ⟨kvs, hD, hk, hkl, sm⟩ ⟨rfl, hy⟩
        have his : i < st.length := by omega
        have hs : st[i]? = some st[i] := List.getElem?_eq_getElem his
        obtain ⟨yp, zp, rfl, h1, h2, h3, h4⟩ := sd_at hok hy hs
        refine ⟨yp, _, rfl, sqT_same h1 sm, rfl, _, _, rfl, _, _, rfl, rfl, ?_⟩
        refine ⟨rfl, _, rfl, _, rfl, kvs, .inr st[i].1, rfl, hD, small1000 (by omega), _, upd_same, ?_, Nat.le_trans (length_putK _ _ _) (by omega), same_put sm nD0⟩
        rw [List.take_succ, List.map_append, hs]
        exact hk.put _ _
      · rintro H3 ⟨kvs, hD, hk, hkl, sm3⟩
        rw [hl, List.take_length] at hk
        refine ⟨_, rfl, nm, ns.map V.str, rfl, seq_of hns sm3 fun J G wk hG => for_it wk (fun i σ H' => ∃ (y2 : Option V), σ = [some (.ref p), some (.ref nm), y2, none, some (.ref D), none, none, none] ∧ Same H H' ∧ H' D = some (.dK kvs) ∧ (ns.take i).find? (lostB st) = none)
          ⟨none, rfl, sm3, hD, rfl⟩ (fun i σ H' _ ⟨_, _, sm, _⟩ => hG _ sm) ?_ ?_⟩
        · rintro i y σ H4o H4 hi ⟨y2, rfl, sm, hD4, hf⟩ ⟨rfl, hy⟩
          obtain ⟨z, rfl, hz⟩ := stz i y hy
          have ft := find_take hz hf
          have g4 : DGet H4 D (.str z) (valV kvs (.inr z)) := DGet.k (k := (.inr z : Key)) hD4
          refine ⟨_, rfl, _, rfl, D, _, rfl, g4, _, rfl, ?_⟩
          rw [hk z]
          by_cases hin : z ∈ st.map (·.1)
          · have lb : lostB st z = false := by unfold lostB; rw [decide_eq_true hin]; rfl
            refine iteF2 (by rw [decide_eq_true hin]; rfl) ?_
            exact iteF ⟨_, rfl, sm, hD4, ft.2 lb⟩
          · refine iteT2 (by rw [decide_eq_false hin]; rfl) ?_
            refine ⟨_, rfl, d, sheetL.map V.str, rfl, .inr (Wd H4), rfl, by decide +kernel, _, rfl, ?_⟩
            show if (!inV (.str z) (sheetL.map V.str)) = true then _ else _
            rw [inV_kn]
            by_cases hs : z ∈ sheetL
            · have lb : lostB st z = false := by unfold lostB; rw [decide_eq_true hs]; simp
              exact iteF2 (by rw [decide_eq_true hs]; rfl) ⟨_, rfl, sm, hD4, ft.2 lb⟩
            · have lb : lostB st z = true := by unfold lostB; rw [decide_eq_false hin, decide_eq_false hs]; rfl
              refine iteT2 (by rw [decide_eq_false hs]; rfl) ?_
              rcases h with ⟨z', hz', q⟩ | ⟨hno, _⟩
              · rw [ft.1 lb] at hz'
                cases hz'
                refine ⟨_, rfl, by show 1 ≤ 1000; decide, fun a na => ?_⟩
                refine ⟨a, .str z, rfl, upd_same, fun dx nx ne => ⟨rfl, dx, _, upd_same, (upd_ne ne).trans upd_same, ?_, ?_⟩⟩
                · rwa [upd_ne ne] at nx
                · rw [upd_ne ne] at nx
                  refine q _ dx (fun b o hb => ?_) (PySem.Spec.same_none sm nx) upd_same
                  have hb4 := sm _ _ hb
                  have b1 : b ≠ a := fun z => by rw [z, na] at hb4; cases hb4
                  have b2 : b ≠ dx := fun z => by rw [z, nx] at hb4; cases hb4
                  rw [upd_ne b2, del_ne b1, upd_ne b1, upd_ne b2, upd_ne b1]
                  exact hb4
              · rw [ft.1 lb] at hno
                cases hno
        · rintro σ H4 ⟨y2, rfl, sm4, hD4, hf⟩
          rw [List.length_map, List.take_length] at hf
          obtain ⟨hno, q⟩ : ns.find? (lostB st) = none ∧ ∀ H' l, Same H H' → H l = none → H' l = some (.lst (pickW ys st (backW st ns))) → Q (.ref l) H' := by
            rcases h with ⟨z', hz', _⟩ | h
            · rw [hf] at hz'
              cases hz'
            · exact h
          refine ⟨_, rfl, nm, ns.map V.str, rfl, seq_of hns sm4 fun J G wk hG => fun W nW => ?_⟩
          have nW0 : H W = none := PySem.Spec.same_none sm4 nW
          refine dc_it wk (fun i H' => ∃ kvs, H' W = some (.dK kvs) ∧ Keys kvs (ns.take i) ∧ kvs.length ≤ i ∧ Same H H') ⟨[], upd_same, Keys.nil, Nat.le_refl _, same_put sm4 nW0⟩ (fun i H' _ ⟨_, _, _, _, sm⟩ => hG _ sm) ?_ ?_
          · rintro i x H5 H6 hi ⟨kvs, hD, hk, hkl, sm⟩ ⟨rfl, hx⟩
            obtain ⟨z, rfl, hz⟩ := stz i x hx
            rw [List.length_map] at hi
            refine ⟨rfl, _, rfl, kvs, .inr z, rfl, hD, small1000 (by omega), _, upd_same, ?_, Nat.le_trans (length_putK _ _ _) (by omega), same_put sm nW0⟩
            rw [List.take_succ, hz]
            exact hk.put z _
          · rintro H5 ⟨kvs1, hW1, hk1, hkl1, sm5⟩
            rw [List.length_map] at hk1 hkl1
            rw [List.take_length] at hk1
            refine ⟨_, rfl, p, ys, rfl, hq.same sm5, fun l nl => ⟨l, ys, rfl, .inl (.inl upd_same), ?_⟩⟩
            have nl0 : H l = none := PySem.Spec.same_none sm5 nl
            have lW : W ≠ l := fun z => by rw [z, nl] at hW1; cases hW1
            refine for_it walk_rev (fun i σ H' => ∃ (y2 y3 y6 : Option V) (kvs : List (Key × V)), σ = [some (.ref p), some (.ref nm), y2, y3, some (.ref D), some (.ref W), y6, none] ∧ Same H H' ∧ H' W = some (.dK kvs) ∧ H' l = some (.lst ys) ∧ Keys kvs (backW (st.drop (ys.length - i)) ns) ∧ kvs.length ≤ 90 + 5 * i)
              ⟨_, _, _, kvs1, rfl, same_put sm5 nl0, (upd_ne lW).trans hW1, upd_same, ?_, by omega⟩ (fun i σ H' _ ⟨_, _, _, _, _, _, _, hl', _⟩ => .inl (.inl hl')) ?_ ?_
            · rw [Nat.sub_zero, hl, List.drop_length]
              exact hk1
            · rintro i y σ H6o H6 hi ⟨y2, y3, y6, kvs, rfl, sm, hW, hL, hk, hkl⟩ ⟨rfl, hy⟩
              have hj : ys.length - 1 - i < st.length := by omega
              have hs : st[ys.length - 1 - i]? = some st[ys.length - 1 - i] := List.getElem?_eq_getElem hj
              have edrop : st.drop (ys.length - (i + 1)) = st[ys.length - 1 - i] :: st.drop (ys.length - i) := by
                have e1 : ys.length - (i + 1) = ys.length - 1 - i := by omega
                have e2 : ys.length - i = ys.length - 1 - i + 1 := by omega
                rw [e1, e2]
                exact List.drop_eq_getElem_cons hj
              have dl := deeds _ (List.getElem_mem hj)
              generalize st[ys.length - 1 - i] = sj at hs edrop dl
              obtain ⟨yp, zp, rfl, h1, h2, h3, h4⟩ := sd_at hok hy hs
              obtain ⟨w0, r, k, e0, hf0, hall, _⟩ := word_of dl.1
              rw [e0] at h2 h3 h4
              have gW6 : DGet H6 W (.str sj.1) (valV kvs (.inr sj.1)) := DGet.k (k := (.inr sj.1 : Key)) hW
              refine ⟨yp, _, rfl, sqT_same h1 sm, rfl, _, _, rfl, _, _, rfl, rfl, ?_⟩
              refine ⟨_, rfl, _, rfl, W, _, rfl, gW6, _, rfl, ?_⟩
              rw [hk sj.1]
              by_cases hin : sj.1 ∈ backW (st.drop (ys.length - i)) ns
              · refine iteT2 (decide_eq_true hin) ?_
                have eW : backW (st.drop (ys.length - (i + 1))) ns = backW (st.drop (ys.length - i)) ns ++ (r.take k).filterMap txtOf := by
                  rw [edrop, backW_cons, if_pos hin, e0, names_is hf0]
                refine ⟨_, rfl, zp, w0, r, k, rfl, sqT_same h2 sm, hf0, fun sp nsp => ⟨sp, rfl, ⟨_, .inl (.inl upd_same)⟩, ?_⟩⟩
                have nsp0 : H sp = none := PySem.Spec.same_none sm nsp
                have spW : W ≠ sp := fun z => by rw [z, nsp] at hW; cases hW
                have spl : l ≠ sp := fun z => by rw [z, nsp] at hL; cases hL
                refine for_it (walk_tup (K := K) (a := sp) (xs := r.take k)) (fun j σ H' => ∃ (y6 : Option V) (kvs : List (Key × V)), σ = [some (.ref p), some (.ref nm), some (.str sj.1), some (.ref zp), some (.ref D), some (.ref W), y6, none] ∧ Same H H' ∧ H' W = some (.dK kvs) ∧ H' l = some (.lst ys) ∧ H' sp = some (.tup (r.take k)) ∧ Keys kvs (backW (st.drop (ys.length - i)) ns ++ ((r.take k).take j).filterMap txtOf) ∧ kvs.length ≤ 90 + 5 * i + j)
                  ⟨_, kvs, rfl, same_put sm nsp0, (upd_ne spW).trans hW, (upd_ne spl).trans hL, upd_same, ?_, by omega⟩ (fun j σ H' _ ⟨_, _, _, _, _, _, hsp, _⟩ => .inl (.inl hsp)) ?_ ?_
                · rw [List.take_zero, List.filterMap_nil, List.append_nil]
                  exact hk
                · rintro j x σ H7o H7 hj2 ⟨y6, kvs2, rfl, sm7, hW7, hL7, hsp7, hk7, hkl7⟩ ⟨rfl, hx⟩
                  have hxn : nameV x = true := List.all_eq_true.mp hall x (List.mem_of_getElem? hx)
                  obtain ⟨u, rfl⟩ : ∃ u, x = .str u := by
                    cases x with
                    | str u => exact ⟨u, rfl⟩
                    | _ => cases hxn
                  have hk5 := (formOf_small hf0).2
                  have hj5 : j < k := by
                    rw [List.length_take] at hj2
                    omega
                  refine ⟨_, rfl, _, rfl, W, _, rfl, DPut.k (k := (.inr u : Key)) hW7 (small1000 (by omega)), ?_⟩
                  refine ⟨_, _, rfl, same_put sm7 nW0, upd_same, (upd_ne lW.symm).trans hL7, (upd_ne spW.symm).trans hsp7, ?_, Nat.le_trans (length_putK _ _ _) (by omega)⟩
                  rw [List.take_succ, hx, List.filterMap_append, ← List.append_assoc]
                  exact hk7.put u _
                · rintro σ H7 ⟨y6, kvs2, rfl, sm7, hW7, hL7, hsp7, hk7, hkl7⟩
                  have hk5 := (formOf_small hf0).2
                  refine ⟨_, _, _, kvs2, rfl, sm7, hW7, hL7, ?_, ?_⟩
                  · rw [eW]
                    rw [List.take_length] at hk7
                    exact hk7
                  · rw [List.length_take] at hkl7
                    omega
              · refine iteF2 (decide_eq_false hin) ⟨_, _, _, kvs, rfl, sm, hW, hL, ?_, by omega⟩
                rw [edrop, backW_cons, if_neg hin]
                exact hk
            · rintro σ H6 ⟨y2, y3, y6, kvs, rfl, sm, hW, hL, hk, hkl⟩
              rw [Nat.sub_self, List.drop_zero] at hk
              refine ⟨_, rfl, p, ys, rfl, seq_of hq sm fun J G wk hG => fun R nR => ?_⟩
              have nR0 : H R = none := PySem.Spec.same_none sm nR
              have RW : W ≠ R := fun z => by rw [z, nR] at hW; cases hW
              refine lc_it wk (fun i H' => ∃ bs : List V, H' R = some (.lst bs) ∧ bs = (((ys.zip st).take i).filter fun q => decide (q.2.1 ∈ backW st ns)).map (·.1) ∧ Same H H' ∧ H' W = some (.dK kvs)) ⟨[], upd_same, rfl, same_put sm nR0, (upd_ne RW).trans hW⟩ (fun i H' _ ⟨_, _, _, sm, _⟩ => hG _ sm) ?_ ?_
              · rintro i y H7 H8 hi ⟨bs, hR, hbs, sm7, hW7⟩ ⟨rfl, hy⟩
                have his : i < st.length := by omega
                have hs : st[i]? = some st[i] := List.getElem?_eq_getElem his
                generalize st[i] = si at hs
                obtain ⟨yp, zp, rfl, h1, h2, h3, h4⟩ := sd_at hok hy hs
                have gW7 : DGet H8 W (.str si.1) (valV kvs (.inr si.1)) := DGet.k (k := (.inr si.1 : Key)) hW7
                have hz : (ys.zip st)[i]? = some (V.ref yp, si) := List.getElem?_zip_eq_some.mpr ⟨hy, hs⟩
                have bl : bs.length ≤ 60 := by
                  rw [hbs, List.length_map]
                  refine Nat.le_trans (List.length_filter_le _ _) ?_
                  rw [List.length_take, List.length_zip]
                  omega
                have step : (((ys.zip st).take (i + 1)).filter fun q => decide (q.2.1 ∈ backW st ns)).map (·.1) = bs ++ (if si.1 ∈ backW st ns then [V.ref yp] else []) := by
                  rw [hbs, List.take_succ, hz, List.filter_append, List.map_append]
                  by_cases e : si.1 ∈ backW st ns <;> simp [e]
                refine ⟨rfl, _, rfl, yp, _, 0, _, rfl, rfl, sqT_same h1 sm7, atI_nat (j := 0) rfl, _, rfl, W, _, rfl, gW7, _, rfl, ?_⟩
                rw [hk si.1]
                by_cases e : si.1 ∈ backW st ns
                · refine iteT2 (decide_eq_true e) ⟨_, rfl, _, hR, small1000 (by omega), _, upd_same, ?_, same_put sm7 nR0, (upd_ne RW).trans hW7⟩
                  rw [step, if_pos e]
                · refine iteF2 (decide_eq_false e) ⟨_, hR, ?_, sm7, hW7⟩
                  rw [step, if_neg e, List.append_nil]
              · rintro H7 ⟨bs, hR, hbs, sm7, hW7⟩
                refine q _ R sm7 nR0 ?_
                rw [hR, hbs, show ys.length = (ys.zip st).length by rw [List.length_zip]; omega, List.take_length]
                rfl
end
end N9

set_option Elab.async false
set_option linter.all false
set_option maxRecDepth 100000
set_option maxHeartbeats 2000000
namespace N10
open PySem PySem.Spec PyProof.Rows L2 Cau Dr27 N1 N2 N3 N4 N5 N6 N7 N8 N9 TxtSet
abbrev sShuf : Stmt := topS 37
/-! ### the state of the draws, kept -/
theorem seqL_kept {K : PySem.W.Frag} {H H' : Hp} {a w p : Addr} {xs : List V} (h : SqL K H p xs) (k : Kept a w H H') (h1 : p ≠ a) (h2 : p ≠ w) : SqL K H' p xs := by
  rcases h with (h | ⟨o, h⟩) | h
  · exact .inl (.inl (k _ _ h h1 h2))
  · exact .inl (.inr ⟨o, k _ _ h h1 h2⟩)
  · exact .inr h
theorem seqT_kept {K : PySem.W.Frag} {H H' : Hp} {a w p : Addr} {xs : List V} (h : SqT K H p xs) (k : Kept a w H H') (h1 : p ≠ a) (h2 : p ≠ w) : SqT K H' p xs := by
  rcases h with (h | ⟨o, h⟩) | h
  · exact .inl (.inl (k _ _ h h1 h2))
  · exact .inl (.inr ⟨o, k _ _ h h1 h2⟩)
  · exact .inr h
theorem St.mono {H : Hp} {a w c : Addr} {T T' : Nat} (h : St H a w c T) (l : T ≤ T') : St H a w c T' := by
  obtain ⟨h0, ws, cs, r, t, h1, h2, h3, h4, h5, h6, h7⟩ := h
  exact ⟨h0, ws, cs, r, t, h1, h2, h3, h4, h5, h6, by omega⟩
/-- but for new objects -/
theorem St.same {H H' : Hp} {a w c : Addr} {T : Nat} (h : St H a w c T) (k : Same H H') : St H' a w c T := by
  obtain ⟨h0, ws, cs, r, t, h1, h2, h3, h4⟩ := h
  exact ⟨h0, ws, cs, r, t, k _ _ h1, k _ _ h2, k _ _ h3, h4⟩
theorem Kept.of {a w : Addr} {H H' : Hp} (k : Same H H') : Kept a w H H' := fun b o e _ _ => k b o e
/-- what is new is no part of the state -/
theorem St.off {H : Hp} {a w c l : Addr} {T : Nat} (h : St H a w c T) (n : H l = none) : l ≠ a ∧ l ≠ w ∧ l ≠ c := by
  obtain ⟨_, ws, cs, r, t, h1, h2, h3, _⟩ := h
  exact ⟨(ne_of_none h1 n).symm, (ne_of_none h2 n).symm, (ne_of_none h3 n).symm⟩
/-- something else is written -/
theorem St.put {H : Hp} {a w c l : Addr} {T : Nat} {o : HO} (h : St H a w c T) (n : l ≠ a ∧ l ≠ w ∧ l ≠ c) : St (upd H l o) a w c T := by
  obtain ⟨h0, ws, cs, r, t, h1, h2, h3, h4⟩ := h
  exact ⟨h0, ws, cs, r, t, (upd_ne n.1.symm).trans h1, (upd_ne n.2.1.symm).trans h2, (upd_ne n.2.2.symm).trans h3, h4⟩
theorem kept_none {a w b : Addr} {H H' : Hp} (k : Kept a w H H') (h : H' b = none) (n : b ≠ a ∧ b ≠ w) : H b = none := by
  cases e : H b with
  | none => rfl
  | some o => rw [k b o e n.1 n.2] at h; cases h
/-- an object that was not there at the start is written -/
theorem Kept.put {a w l : Addr} {H H' : Hp} {o : HO} (k : Kept a w H H') (n : H l = none) : Kept a w H (upd H' l o) := fun b x e h1 h2 => by
  rw [upd_ne (ne_of_none e n)]
  exact k b x e h1 h2
theorem pow1000 {n : Nat} (h : n ≤ 1000) : (n : Int).natAbs < 2 ^ 1000 := Nat.lt_of_lt_of_le (show (n : Int).natAbs < 2 ^ 10 by omega) (Nat.pow_le_pow_right (by decide) (by decide))
theorem len_erase {α : Type} : ∀ (l : List α) (j : Nat), j < l.length → (l.eraseIdx j).length + 1 = l.length
  | a :: r, 0, _ => rfl
  | a :: r, j + 1, h => by
    rw [List.eraseIdx_cons_succ, List.length_cons, List.length_cons, len_erase r j (Nat.lt_of_succ_lt_succ h)]
theorem map_erase {α β : Type} (f : α → β) : ∀ (l : List α) (j : Nat), (l.map f).eraseIdx j = (l.eraseIdx j).map f
  | [], _ => rfl
  | a :: r, 0 => rfl
  | a :: r, j + 1 => by
    rw [List.map_cons, List.eraseIdx_cons_succ, List.eraseIdx_cons_succ, List.map_cons, map_erase f r j]
theorem perm_erase {α : Type} : ∀ (l : List α) (j : Nat) (h : j < l.length), (l[j] :: l.eraseIdx j).Perm l
  | a :: r, 0, _ => List.Perm.refl _
  | a :: r, j + 1, h => by
    rw [List.getElem_cons_succ, List.eraseIdx_cons_succ]
    exact (List.Perm.swap a _ _).trans ((perm_erase r j (Nat.lt_of_succ_lt_succ h)).cons a)
def spPick (K : PySem.W.Frag) : Sp := fun vs H Q _ => ∃ (a w c p : Addr) (T : Nat) (xs : List V), vs = [.ref a, .ref p] ∧ St H a w c T ∧ T ≤ 1000000 ∧ SqL K H p xs ∧ p ≠ a ∧ p ≠ w ∧ 0 < xs.length ∧ xs.length ≤ 1000 ∧
  ∀ (H' : Hp) (x : V), x ∈ xs → Kept a w H H' → St H' a w c (T + 1) → Q x H'
/-- a list of texts in another order -/
def spShuf (K : PySem.W.Frag) : Sp := fun vs H Q _ => ∃ (a w c p : Addr) (T : Nat) (xs : List Str), vs = [.ref a, .ref p] ∧ St H a w c T ∧ T + xs.length ≤ 1000000 ∧ SqL K H p (xs.map V.str) ∧ xs.length ≤ 900 ∧ (∀ x ∈ xs, PyData.strOk x = true) ∧
  ∀ (H' : Hp) (l : Addr) (ys : List Str), ys.Perm xs → H l = none → H' l = some (.lst (ys.map V.str)) → Kept a w H H' → St H' a w c (T + xs.length) → l ≠ a ∧ l ≠ w ∧ l ≠ c → Q (.ref l) H'
section
variable {P : Program} {w : World} {K : PySem.W.Frag} {mg : Str → Option Value} {base : Heap}
theorem scP : FnScope ["state", "some"] ["state", "some"] (defScope sPick) := ⟨rfl, rfl, rfl, by decide +kernel, rfl, by decide +kernel, by decide +kernel⟩
theorem ok_pick {f fD : Addr} {fd fdD : FuncData} (F : Fun K "_law_pick" "_law_pick" sPick f fd) (FD : Fun K "_law_draw" "_law_draw" sDraw fD fdD) (GD : FnOk P w K mg base CX0 2 fD fdD ["state", "room"] spDraw) (bD : Binds K fdD ["state", "room"] []) (gD : mg "_law_draw" = some (.ref fD)) (mlen : mg "len" = none) :
    FnOk P w K mg base CX0 3 f fd ["state", "some"] (spPick K) := by
  refine F.ok scP (fun vs H Q E h => ?_) (fun cdv A outer s H vs Q E hr h => ?_)
  · obtain ⟨a, w, c, p, T, xs, rfl, _⟩ := h
    rfl
  · obtain ⟨a, w, c, p, T, xs, rfl, hSt, hT, hS, npa, npw, hl0, hl1, q⟩ := h
    refine ⟨_, pss_one (ps_ret (pe_ix ix_list (pv 1) (pe_call GD hr (by rfl) gD FD.kp bD .nil pass0 (pa_cons (pv 0) (pa_cons (pe_callB call_len_seq (by rfl) mlen PySem.boot_len (pa_cons (pv 1) pa_nil)) pa_nil))) (fun _ _ => rfl))), ?_⟩
    refine ⟨_, rfl, _, rfl, _, rfl, p, xs, rfl, .inl hS, a, w, c, T, _, rfl, hSt, hT, by omega, pow1000 hl1, fun H' d h0 h1 k s' => ?_⟩
    obtain ⟨j, rfl⟩ : ∃ j : Nat, d = (j : Int) := ⟨d.toNat, by omega⟩
    have hd : j < xs.length := by omega
    exact ⟨p, xs, j, xs[j], rfl, rfl, seqL_kept hS k npa npw, atI_nat (List.getElem?_eq_getElem hd), q H' _ (List.getElem_mem _) k s'⟩
def shufN : List Str := ["state", "some", "left", "found"]
theorem scSh : FnScope shufN ["state", "some"] (defScope sShuf) := ⟨rfl, rfl, rfl, by decide +kernel, rfl, by decide +kernel, by decide +kernel⟩
theorem ok_shuf {f fD : Addr} {fd fdD : FuncData} (F : Fun K "_law_shuffled" "_law_shuffled" sShuf f fd) (FD : Fun K "_law_draw" "_law_draw" sDraw fD fdD) (GD : FnOk P w K mg base CX0 2 fD fdD ["state", "room"] spDraw) (bD : Binds K fdD ["state", "room"] []) (gD : mg "_law_draw" = some (.ref fD)) (mlen : mg "len" = none) (mli : mg "list" = none) :
    FnOk P w K mg base CX0 3 f fd ["state", "some"] (spShuf K) := by
  refine F.ok scSh (fun vs H Q E h => ?_) (fun cdv A outer s H vs Q E hr h => ?_)
  · obtain ⟨a, w, c, p, T, xs, rfl, _⟩ := h
    rfl
  · obtain ⟨a, w, c, p, T, xs, rfl, hSt, hT, hS, hl, hok, q⟩ := h
    refine ⟨_, pss_cons (ps_par (i := 2) (j := 3) rfl scSh.nd rfl rfl (by decide) rfl rfl (pa_cons (pe_callTy call_list_of (by rfl) mli (by decide +kernel) (pa_cons (pv 1) pa_nil)) (pa_cons (pe_lst pa_nil) pa_nil)) (by rfl))
      (pss_cons (ps_while PassesOwn.never (pt_cmpR (op_neD hr.units) (pv 2) (pe_lst pa_nil) (nomark _))
        (pss_one (ps_expr (pe_bm PySem.F.plainAttrs_list PySem.F.slot_list_append PySem.F.type_list_append mt_append (pv 3) (pa_cons
          (pe_bm PySem.F.plainAttrs_list PySem.F.slot_list_pop PySem.F.type_list_pop mt_popAt (pv 2) (pa_cons (pe_call GD hr (by rfl) gD FD.kp bD .nil pass0 (pa_cons (pv 0) (pa_cons (pe_callB call_len_seq (by rfl) mlen PySem.boot_len (pa_cons (pv 2) pa_nil)) pa_nil))) pa_nil)) pa_nil)))))
      (pss_one (ps_ret (pv 3)))), ?_⟩
    refine ⟨_, rfl, p, xs.map V.str, rfl, .inl hS, fun L nL => ?_⟩
    have oL := St.off hSt nL
    have S1 := St.put (o := .lst (xs.map V.str)) hSt oL
    refine ⟨Nat.zero_le _, fun Fo nF => ?_⟩
    have oF := St.off S1 nF
    have LF : L ≠ Fo := fun z => by rw [← z, upd_same] at nF; cases nF
    rw [upd_ne LF.symm] at nF
    have hL2 : (upd (upd H L (.lst (xs.map V.str))) Fo (.lst [])) L = some (.lst (xs.map V.str)) := (upd_ne LF).trans upd_same
    refine ⟨_, _, rfl, fun m σ H' => ∃ (ls fs : List Str) (T' : Nat), m = ls.length ∧ σ = [some (.ref a), some (.ref p), some (.ref L), some (.ref Fo)] ∧ H' L = some (.lst (ls.map V.str)) ∧ H' Fo = some (.lst (fs.map V.str)) ∧ Kept a w H H' ∧ St H' a w c T' ∧ T' + ls.length = T + xs.length ∧ (fs ++ ls).Perm xs,
      ⟨_, xs, [], T, rfl, rfl, hL2, upd_same, Kept.put (Kept.put (fun b o e _ _ => e) nL) nF, St.put S1 oF, rfl, List.Perm.refl _⟩, ?_⟩
    rintro m σ H' ⟨ls, fs, T', rfl, rfl, hL, hF, hK, hS', hT', hp⟩
    have hll : fs.length + ls.length = xs.length := by
      have := hp.length_eq
      rwa [List.length_append] at this
    refine ⟨_, rfl, Nat.zero_le _, fun t nt => ?_⟩
    have tL : L ≠ t := ne_of_none hL nt
    have tF : Fo ≠ t := ne_of_none hF nt
    have ot := St.off hS' nt
    have nt0 : H t = none := kept_none hK nt ⟨ot.1, ot.2.1⟩
    have hL3 : (upd H' t (.lst [])) L = some (.lst (ls.map V.str)) := (upd_ne tL).trans hL
    have hF3 : (upd H' t (.lst [])) Fo = some (.lst (fs.map V.str)) := (upd_ne tF).trans hF
    have hK3 : Kept a w H (upd H' t (.lst [])) := Kept.put hK nt0
    have hS3 : St (upd H' t (.lst [])) a w c T' := St.put hS' ot
    refine ⟨_, _, dp_strs (.inl (.inl hL3)), dp_nil upd_same, shaped_strs (fun x hx => hok x (hp.mem_iff.mp (List.mem_append_right _ hx))), shaped_nil, _, rfl, ?_⟩
    rw [eqv_nil]
    cases hls : ls with
    | nil =>
      refine iteF ?_
      refine ⟨_, rfl, ?_⟩
      subst hls
      rw [List.append_nil] at hp
      have hS4 : St (upd H' t (.lst [])) a w c (T + xs.length) := by
        have e : T' = T + xs.length := hT'
        exact e ▸ hS3
      exact q _ Fo fs hp nF hF3 hK3 hS4 oF
    | cons z0 r0 =>
      rw [← hls]
      have pos : 0 < ls.length := by rw [hls]; simp
      refine iteT2 (by rw [hls]; rfl) ?_
      refine ⟨_, fun _ _ z => z, ?_⟩
      refine ⟨_, rfl, .inl ⟨rfl, _, .inl (.inl hF3)⟩, _, rfl, .inl ⟨rfl, _, .inl (.inl hL3)⟩, _, rfl, _, rfl, L, ls.map V.str, rfl, .inl (.inl (.inl hL3)), a, w, c, T', _, rfl, hS3, by omega, ?_, ?_, fun H4 d h0 h1 k s4 => ?_⟩
      · rw [List.length_map]
        omega
      · rw [List.length_map]
        exact pow1000 (by omega)
      · obtain ⟨j, rfl⟩ : ∃ j : Nat, d = (j : Int) := ⟨d.toNat, by omega⟩
        rw [List.length_map] at h1
        have hj : j < ls.length := by omega
        have hL4 : H4 L = some (.lst (ls.map V.str)) := k _ _ hL3 oL.1 oL.2.1
        have hF4 : H4 Fo = some (.lst (fs.map V.str)) := k _ _ hF3 oF.1 oF.2.1
        have hK4 : Kept a w H H4 := hK3.trans k
        refine ⟨L, _, _, j, .str ls[j], rfl, rfl, hL4, by omega, by omega, ?_, by rw [List.getElem?_map, List.getElem?_eq_getElem hj]; rfl, ?_⟩
        · rw [List.length_map]
          unfold seqIndex?
          rw [if_neg (show ¬ ((j : Int) < 0) by omega)]
          simp [hj]
        · refine ⟨Fo, _, _, rfl, rfl, (upd_ne LF.symm).trans hF4, ?_, ?_⟩
          · rw [List.length_map]
            exact small1000 (by omega)
          · refine ⟨_, by have := len_erase ls j hj; omega, ls.eraseIdx j, fs ++ [ls[j]], T' + 1, rfl, rfl, ?_, ?_, Kept.put (Kept.put hK4 nL) nF, St.put (St.put s4 oL) oF, ?_, ?_⟩
            · rw [upd_ne LF, upd_same, map_erase]
            · rw [upd_same, List.map_append]
              rfl
            · have := len_erase ls j hj
              omega
            · rw [List.append_assoc]
              exact (List.Perm.append_left fs (perm_erase ls j hj)).trans hp
end
end N10

set_option Elab.async false
set_option linter.all false
set_option maxRecDepth 100000
set_option maxHeartbeats 2000000
namespace N11
open PySem PySem.Spec PyProof.Rows L2 Cau Dr27 N1 N2 N3 N4 N5 N6 N7 N8 N9 N10 TxtSet
abbrev sNm : Stmt := topS 38
/-! ### the names that may be drawn -/
def labelL : List Str := ["a", "b", "z", "meet", "gauge", "draw", "undo", "x", "y", "ok", "r1", "a1", "zzzzzzzz", "q9"]
def kOf (c : Nat) : Str := (⟨#[c]⟩ ++ "k") ++ ⟨#[c]⟩
def sOf (c : Nat) : Str := ⟨#[c]⟩ ++ "7"
def nearL (z : Str) : List Str := (z :: letT.cps.toList.map kOf) ++ letT.cps.toList.map sOf
def goodN (z : Str) : Bool := nameS z && PyData.strOk z && decide (z.length ≤ 8) && decide (z ≠ "notthere") && decide (z ≠ "n0")
theorem labels_good : labelL.all goodN = true := by decide +kernel
theorem ks_good : (letT.cps.toList.map kOf).all goodN = true := by decide +kernel
theorem ss_good : (letT.cps.toList.map sOf).all goodN = true := by decide +kernel
theorem ks_len : (letT.cps.toList.map kOf).length = 26 := by decide +kernel
theorem ss_len : (letT.cps.toList.map sOf).length = 26 := by decide +kernel
theorem ks_nodup : (letT.cps.toList.map kOf).Nodup := by decide +kernel
theorem near_good {z : Str} (h : z ∈ labelL) {y : Str} (hy : y ∈ nearL z) : goodN y = true := by
  unfold nearL at hy
  rw [List.mem_append, List.mem_cons] at hy
  rcases hy with (rfl | hy) | hy
  · exact List.all_eq_true.mp labels_good _ h
  · exact List.all_eq_true.mp ks_good _ hy
  · exact List.all_eq_true.mp ss_good _ hy
def freeN (kn : List Str) (z : Str) : Bool := !decide (z ∈ kn) && !decide (z ∈ sheetL)
theorem near_free (z : Str) (kn : List Str) (h : kn.length ≤ 20) : ∃ y r, (nearL z).filter (freeN kn) = y :: r := by
  cases e : (nearL z).filter (freeN kn) with
  | cons y r => exact ⟨y, r, rfl⟩
  | nil =>
    have all : ∀ y ∈ letT.cps.toList.map kOf, y ∈ kn ++ sheetL := fun y hy => by
      have hn : y ∈ nearL z := by
        unfold nearL
        rw [List.mem_append, List.mem_cons]
        exact .inl (.inr hy)
      have := List.filter_eq_nil_iff.mp e y hn
      unfold freeN at this
      rw [List.mem_append]
      by_cases h1 : y ∈ kn
      · exact .inl h1
      · by_cases h2 : y ∈ sheetL
        · exact .inr h2
        · exact absurd (by simp [h1, h2]) this
    have := nodup_le _ _ ks_nodup all
    rw [List.length_append] at this
    have e1 : (letT.cps.toList.map kOf).length = 26 := by decide +kernel
    have e2 : sheetL.length = 5 := rfl
    omega
def spNm (K : PySem.W.Frag) : Sp := fun vs H Q _ => ∃ (a w c b : Addr) (T : Nat) (kn : List Str), vs = [.ref a, .ref b] ∧ St H a w c T ∧ T ≤ 1000000 ∧ SqL K H b (kn.map V.str) ∧ b ≠ a ∧ b ≠ w ∧ kn.length ≤ 20 ∧
  ∀ (H' : Hp) (z : Str), goodN z = true → z ∉ kn → z ∉ sheetL → Kept a w H H' → St H' a w c (T + 1) → Q (.str z) H'
section
variable {P : Program} {w : World} {K : PySem.W.Frag} {mg : Str → Option Value} {base : Heap}
def nmN : List Str := ["state", "barred", "some", "label", "near", "mark", "one"]
theorem scNm : FnScope nmN ["state", "barred"] (defScope sNm) := ⟨rfl, rfl, rfl, by decide +kernel, rfl, by decide +kernel, by decide +kernel⟩
theorem ok_nm {f fP : Addr} {fd fdP : FuncData} (F : Fun K "_law_name" "_law_name" sNm f fd) (FP : Fun K "_law_pick" "_law_pick" sPick fP fdP) (GP : FnOk P w K mg base CX0 3 fP fdP ["state", "some"] (spPick K)) (bP : Binds K fdP ["state", "some"] []) (gP : mg "_law_pick" = some (.ref fP)) :
    FnOk P w K mg base CX0 4 f fd ["state", "barred"] (spNm K) := by
  refine F.ok scNm (fun vs H Q E h => ?_) (fun cdv A outer s H vs Q E hr h => ?_)
  · obtain ⟨a, w, c, b, T, kn, rfl, _⟩ := h
    rfl
  · obtain ⟨a, w, c, b, T, kn, rfl, hSt, hT, hB, nba, nbw, hkl, q⟩ := h
    refine ⟨_, pss_cons (ps_set (i := 2) scNm.nd rfl (.inl rfl) (pe_lst (pa_cons pe_str (pa_cons pe_str (pa_cons pe_str (pa_cons pe_str (pa_cons pe_str (pa_cons pe_str (pa_cons pe_str (pa_cons pe_str (pa_cons pe_str (pa_cons pe_str (pa_cons pe_str (pa_cons pe_str (pa_cons pe_str (pa_cons pe_str pa_nil))))))))))))))))
      (pss_cons (ps_set (i := 3) scNm.nd rfl (.inl rfl) (pe_call GP hr (by rfl) gP FP.kp bP .nil pass0 (pa_cons (pv 0) (pa_cons (pv 2) pa_nil))))
      (pss_cons (ps_set (i := 4) scNm.nd rfl (.inl rfl) (pe_op op_cat (pe_lst (pa_cons (pv 3) pa_nil))
          (pe_lc (own := [("mark", 5)]) (g := gName 5) (tt := tYes) rfl scNm.nd (pi_str pe_str)
            (blkOk_by (own := [("mark", 5)]) (N := nmN) (sc := defScope sNm) (by decide +kernel))
            (fun _ _ _ _ _ => pg_name (i := 5) scNm.nd rfl (.inl rfl)) (fun _ _ _ _ _ => pts_nil) (fun _ _ _ _ _ => pe_op op_add_str (pe_op op_add_str (pv 5) pe_str) (pv 5)))))
      (pss_cons (ps_set (i := 4) scNm.nd rfl (.inl rfl) (pe_op op_cat (pv 4)
          (pe_lc (own := [("mark", 5)]) (g := gName 5) (tt := tYes) rfl scNm.nd (pi_str pe_str)
            (blkOk_by (own := [("mark", 5)]) (N := nmN) (sc := defScope sNm) (by decide +kernel))
            (fun _ _ _ _ _ => pg_name (i := 5) scNm.nd rfl (.inl rfl)) (fun _ _ _ _ _ => pts_nil) (fun _ _ _ _ _ => pe_op op_add_str (pv 5) pe_str))))
      (pss_one (ps_ret (pe_ix ix_list
          (pe_lc (own := [("one", 6)]) (g := gName 6) rfl scNm.nd (pi_list (pv 4))
            (blkOk_by (own := [("one", 6)]) (N := nmN) (sc := defScope sNm) (by decide +kernel))
            (fun _ _ _ _ _ => pg_name (i := 6) scNm.nd rfl (.inl rfl))
            (fun _ _ _ _ _ => pts_one (PW.pt (pw_and (pt_cmpR (show OpR _ (compareOp .NotIn) (rIn K true) from op_notIn_seq) (pv 6) (pv 1) (by rfl))
              (pw_and1 (pt_cmpR (show OpR _ (compareOp .NotIn) (rIn K true) from op_notIn_seq) (pv 6) (pe_lst (pa_cons pe_str (pa_cons pe_str (pa_cons pe_str (pa_cons pe_str (pa_cons pe_str pa_nil)))))) (by rfl))))))
            (fun _ _ _ _ _ => pv 6)) pe_int (fun _ _ => rfl))))))), ?_⟩
    refine ⟨by show 14 ≤ sizeLine; decide, fun l nl => ?_⟩
    have ol := St.off hSt nl
    have k1 : Kept a w H (upd H l (.lst (labelL.map V.str))) := Kept.of (same_upd nl)
    have s1 : St (upd H l (.lst (labelL.map V.str))) a w c T := St.put hSt ol
    refine ⟨_, rfl, _, rfl, a, w, c, l, T, labelL.map V.str, rfl, s1, hT, .inl (.inl upd_same), ol.1, ol.2.1, by decide, by decide, fun H2 x hx k2 s2 => ?_⟩
    obtain ⟨z, hz, rfl⟩ := List.mem_map.mp hx
    have K2 : Kept a w H H2 := k1.trans k2
    have hB2 : SqL K H2 b (kn.map V.str) := seqL_kept hB K2 nba nbw
    -- the first of the near
    refine ⟨_, rfl, by show 1 ≤ sizeLine; decide, fun l1 n1 => ?_⟩
    refine ⟨letT, rfl, fun D nD => ?_⟩
    have lD : l1 ≠ D := fun e => by rw [← e, upd_same] at nD; cases nD
    have sD : Same H2 (upd H2 l1 (.lst [.str z])) := same_upd n1
    refine lc_it walk_str (fun i H' => ∃ bs : List Str, H' = upd (upd H2 l1 (.lst [.str z])) D (.lst (bs.map V.str)) ∧ bs = (letT.cps.toList.take i).map kOf) ⟨[], rfl, rfl⟩ (fun _ _ _ _ => trivial) ?_ ?_
    · rintro i x H3 H4 hi ⟨bs, rfl, hbs⟩ ⟨rfl, c1, hc1, rfl⟩
      have hil : bs.length < 27 := by
        have : letT.cps.size = 26 := by decide +kernel
        rw [hbs, List.length_map, List.length_take]
        omega
      refine ⟨rfl, _, rfl, _, _, rfl, rfl, by show 2 ≤ sizeLine; decide, _, rfl, _, _, rfl, rfl, by show 3 ≤ sizeLine; decide, _, upd_same, ?_, bs ++ [kOf c1], by rw [upd_upd, List.map_append]; rfl, ?_⟩
      · rw [List.length_map]
        exact small1000 (by omega)
      · rw [hbs, List.take_succ, List.map_append, Array.getElem?_toList, hc1]
        rfl
    · rintro H3 ⟨bs, rfl, hbs⟩
      have ebs : bs = letT.cps.toList.map kOf := by
        rw [hbs, show letT.cps.size = letT.cps.toList.length from rfl, List.take_length]
      subst ebs
      refine ⟨l1, D, _, _, rfl, rfl, (upd_ne lD).trans upd_same, upd_same, by rw [List.length_map, ks_len]; show 27 ≤ sizeLine; decide, fun p1 np1 => ?_⟩
      have S3 : Same H2 (upd (upd (upd H2 l1 (.lst [.str z])) D (.lst ((letT.cps.toList.map kOf).map V.str))) p1 (.lst ([.str z] ++ (letT.cps.toList.map kOf).map V.str))) := (same_upd n1).trans ((same_upd nD).trans (same_upd np1))
      generalize hH3 : upd (upd (upd H2 l1 (.lst [.str z])) D (.lst ((letT.cps.toList.map kOf).map V.str))) p1 (.lst ([.str z] ++ (letT.cps.toList.map kOf).map V.str)) = H3 at S3
      have hp1 : H3 p1 = some (.lst ((z :: letT.cps.toList.map kOf).map V.str)) := by rw [← hH3]; exact upd_same
      -- the second
      refine ⟨_, rfl, letT, rfl, fun D2 nD2 => ?_⟩
      have pD2 : p1 ≠ D2 := ne_of_none hp1 nD2
      refine lc_it walk_str (fun i H' => ∃ bs : List Str, H' = upd H3 D2 (.lst (bs.map V.str)) ∧ bs = (letT.cps.toList.take i).map sOf) ⟨[], rfl, rfl⟩ (fun _ _ _ _ => trivial) ?_ ?_
      · rintro i x H4 H5 hi ⟨bs, rfl, hbs⟩ ⟨rfl, c1, hc1, rfl⟩
        have hil : bs.length < 27 := by
          have : letT.cps.size = 26 := by decide +kernel
          rw [hbs, List.length_map, List.length_take]
          omega
        refine ⟨rfl, _, rfl, _, _, rfl, rfl, by show 2 ≤ sizeLine; decide, _, upd_same, ?_, bs ++ [sOf c1], by rw [upd_upd, List.map_append]; rfl, ?_⟩
        · rw [List.length_map]
          exact small1000 (by omega)
        · rw [hbs, List.take_succ, List.map_append, Array.getElem?_toList, hc1]
          rfl
      · rintro H4 ⟨bs, rfl, hbs⟩
        have ebs : bs = letT.cps.toList.map sOf := by
          rw [hbs, show letT.cps.size = letT.cps.toList.length from rfl, List.take_length]
        subst ebs
        refine ⟨p1, D2, _, _, rfl, rfl, (upd_ne pD2).trans hp1, upd_same, by rw [List.length_map, List.length_map, List.length_cons, ks_len, ss_len]; show 53 ≤ sizeLine; decide, fun p2 np2 => ?_⟩
        have S5 := S3.trans ((same_upd (o := .lst ((letT.cps.toList.map sOf).map V.str)) nD2).trans (same_upd (o := .lst ((z :: letT.cps.toList.map kOf).map V.str ++ (letT.cps.toList.map sOf).map V.str)) np2))
        generalize hH5 : upd (upd H3 D2 (.lst ((letT.cps.toList.map sOf).map V.str))) p2 (.lst ((z :: letT.cps.toList.map kOf).map V.str ++ (letT.cps.toList.map sOf).map V.str)) = H5 at S5
        have hp2 : H5 p2 = some (.lst ((nearL z).map V.str)) := by
          rw [← hH5, upd_same]
          unfold nearL
          rw [List.map_append]
        have hB5 : SqL K H5 b (kn.map V.str) := S5.seq hB2
        have len : (nearL z).length = 53 := by
          unfold nearL
          rw [List.length_append, List.length_cons]
          decide +kernel
        refine ⟨_, rfl, p2, rfl, ⟨_, .inl (.inl hp2)⟩, fun R nR => ?_⟩
        refine lc_list (K := K) (a := p2) (xs := (nearL z).map V.str) (fun i H' => ∃ cs : List Str, H' R = some (.lst (cs.map V.str)) ∧ cs = ((nearL z).take i).filter (freeN kn) ∧ Same H5 H') ⟨[], upd_same, rfl, same_upd nR⟩ (fun i H' _ ⟨_, _, _, sm⟩ => .inl (.inl (sm _ _ hp2))) ?_ ?_
        · rintro i x H6 hx ⟨cs, hR, hcs, sm⟩
          obtain ⟨y, rfl, hy⟩ : ∃ y, x = V.str y ∧ (nearL z)[i]? = some y := by
            rw [List.getElem?_map] at hx
            cases e : (nearL z)[i]? with
            | none => rw [e] at hx; cases hx
            | some y => rw [e] at hx; exact ⟨y, (Option.some.inj hx).symm, rfl⟩
          have hcl : cs.length ≤ 53 := by
            rw [hcs]
            refine Nat.le_trans (List.length_filter_le _ _) ?_
            rw [List.length_take]
            omega
          have step : ((nearL z).take (i + 1)).filter (freeN kn) = cs ++ (if freeN kn y = true then [y] else []) := by
            rw [hcs, List.take_succ, List.filter_append, hy]
            cases e : freeN kn y <;> simp [e]
          have no : ∀ H', H' R = some (.lst (cs.map V.str)) → Same H5 H' → freeN kn y = false → ∃ cs : List Str, H' R = some (.lst (cs.map V.str)) ∧ cs = ((nearL z).take (i + 1)).filter (freeN kn) ∧ Same H5 H' := fun H' h1 h2 e => ⟨cs, h1, by rw [step, e]; simp, h2⟩
          refine ⟨rfl, _, rfl, _, rfl, b, kn.map V.str, rfl, .inl (sm.seq hB5), rfl, strs_flat _, _, rfl, ?_⟩
          show if (!inV (.str y) (kn.map V.str)) = true then _ else _
          rw [inV_kn]
          by_cases hk : y ∈ kn
          · refine iteF2 (by rw [decide_eq_true hk]; rfl) (iteF (no _ hR sm ?_))
            unfold freeN
            simp [hk]
          · refine iteT2 (by rw [decide_eq_false hk]; rfl) ?_
            refine ⟨_, rfl, by show 5 ≤ sizeLine; decide, fun t nt => ?_⟩
            have tR : R ≠ t := ne_of_none hR nt
            have hR2 : (upd H6 t (.lst (sheetL.map V.str))) R = some (.lst (cs.map V.str)) := (upd_ne tR).trans hR
            have sm2 : Same H5 (upd H6 t (.lst (sheetL.map V.str))) := sm.trans (same_upd nt)
            refine ⟨t, sheetL.map V.str, rfl, .inl (.inl (.inl upd_same)), rfl, strs_flat _, _, rfl, ?_⟩
            show if (!inV (.str y) (sheetL.map V.str)) = true then _ else _
            rw [inV_kn]
            by_cases hs : y ∈ sheetL
            · refine iteF2 (by rw [decide_eq_true hs]; rfl) (no _ hR2 sm2 ?_)
              unfold freeN
              simp [hs]
            · refine iteT2 (by rw [decide_eq_false hs]; rfl) ⟨_, rfl, _, hR2, ?_, cs ++ [y], by rw [upd_same, List.map_append]; rfl, ?_, same_put sm2 nR⟩
              · rw [List.length_map]
                exact small1000 (by omega)
              · rw [step, if_pos (show freeN kn y = true by unfold freeN; simp [hk, hs])]
        · rintro H6 ⟨cs, hR, hcs, sm⟩
          rw [List.length_map, List.take_length] at hcs
          obtain ⟨y, r, e⟩ := near_free z kn hkl
          rw [e] at hcs
          subst hcs
          have hy : y ∈ (nearL z).filter (freeN kn) := by rw [e]; exact List.mem_cons_self
          rw [List.mem_filter] at hy
          have fr := hy.2
          unfold freeN at fr
          simp only [Bool.and_eq_true, Bool.not_eq_true', decide_eq_false_iff_not] at fr
          have S6 : Same H2 H6 := S5.trans sm
          exact ⟨R, _, 0, _, rfl, rfl, .inl (.inl hR), atI_nat (j := 0) rfl, q H6 y (near_good hz hy.1) fr.1 fr.2 (K2.trans (Kept.of S6)) (St.same s2 S6)⟩
end
end N11

set_option Elab.async false
set_option linter.all false
set_option maxRecDepth 100000
set_option maxHeartbeats 2000000
namespace N12
open PySem PySem.Spec PyProof.Rows L2 Cau Dr27 N1 N2 N3 N4 N5 N6 N7 N8 N9 N10 N11 TxtSet
abbrev sDrawn : Stmt := topS 44
def WayOk (w : Str) (way : List V) : Prop := if wayW w = true then way = [.int 1] ∨ way = [.int 2] else way = []
/-- len of a list or a tuple -/
def rLenS (K : PySem.W.Frag) : List V → Hp → VK → Prop := fun xs H Q => ∃ p ys, xs = [V.ref p] ∧ (SqL K H p ys ∨ SqT K H p ys) ∧ Q (.int ys.length) H
def spDrawn (K : PySem.W.Frag) : Sp := fun vs H Q _ => ∃ (a w c p : Addr) (T : Nat) (w0 : Str) (k : Nat) (ns : List Str), vs = [.ref a, .str w0, .ref p] ∧ St H a w c T ∧ T + ns.length + 20 ≤ 1000000 ∧ formOf w0 = some k ∧ SqL K H p (ns.map V.str) ∧ p ≠ a ∧ p ≠ w ∧ 0 < ns.length ∧ ns.length ≤ 900 ∧ (∀ x ∈ ns, PyData.strOk x = true) ∧
  ∀ (H' : Hp) (q : Addr) (us : List Str) (way : List V), H q = none → H' q = some (.tup (.str w0 :: (us.map V.str ++ way))) → us.length = k → (∀ u ∈ us, u ∈ ns) → WayOk w0 way → Kept a w H H' → St H' a w c (T + ns.length + 20) → (q ≠ a ∧ q ≠ w ∧ q ≠ c) → Q (.ref q) H'
section
variable {P : Program} {w : World} {K : PySem.W.Frag} {mg : Str → Option Value} {base : Heap}
def drawnN : List Str := ["state", "word", "names", "left", "found", "spot"]
theorem scDw : FnScope drawnN ["state", "word", "names"] (defScope sDrawn) := ⟨rfl, rfl, rfl, by decide +kernel, rfl, by decide +kernel, by decide +kernel⟩
theorem ok_drawn {f fS fD fP fF fW : Addr} {fd fdS fdD fdP fdF fdW : FuncData} (F : Fun K "_law_deed" "_law_deed" sDrawn f fd)
    (FS : Fun K "_law_shuffled" "_law_shuffled" sShuf fS fdS) (GS : FnOk P w K mg base CX0 3 fS fdS ["state", "some"] (spShuf K)) (bS : Binds K fdS ["state", "some"] []) (gS : mg "_law_shuffled" = some (.ref fS))
    (FD : Fun K "_law_draw" "_law_draw" sDraw fD fdD) (GD : FnOk P w K mg base CX0 2 fD fdD ["state", "room"] spDraw) (bD : Binds K fdD ["state", "room"] []) (gD : mg "_law_draw" = some (.ref fD))
    (FP : Fun K "_law_pick" "_law_pick" sPick fP fdP) (GP : FnOk P w K mg base CX0 3 fP fdP ["state", "some"] (spPick K)) (bP : Binds K fdP ["state", "some"] []) (gP : mg "_law_pick" = some (.ref fP))
    (FF : Fun K "_law_forms" "_law_forms" sForms fF fdF) (GF : FnOk P w K mg base CX0 1 fF fdF [] spForms) (bF : Binds K fdF [] []) (gF : mg "_law_forms" = some (.ref fF))
    (FW : Fun K "_law_has_way" "_law_has_way" sHasWay fW fdW) (GW : FnOk P w K mg base CX0 1 fW fdW ["word"] spHasWay) (bW : Binds K fdW ["word"] []) (gW : mg "_law_has_way" = some (.ref fW))
    (mr : mg "range" = none) (mlen : mg "len" = none) (mt : mg "tuple" = none) : FnOk P w K mg base CX0 4 f fd ["state", "word", "names"] (spDrawn K) := by
  refine F.ok scDw (fun vs H Q E h => ?_) (fun cdv A outer s H vs Q E hr h => ?_)
  · obtain ⟨a, w, c, p, T, w0, k, ns, rfl, _⟩ := h
    rfl
  · obtain ⟨a, w, c, p, T, w0, k, ns, rfl, hSt, hT, hf, hS, npa, npw, hn0, hn, hok, q⟩ := h
    have hu := hu_of (hr.mono (Nat.zero_le _) : Room 0 _)
    have hr1 : Room 1 _ := hr.mono (by decide)
    have hr2 : Room 2 _ := hr.mono (by decide)
    refine ⟨_, pss_cons (ps_set (i := 3) scDw.nd rfl (.inr rfl) (pe_call GS hr (by rfl) gS FS.kp bS .nil pass0 (pa_cons (pv 0) (pa_cons (pv 2) pa_nil))))
      (pss_cons (ps_setLc (i := 4) (own := [("spot", 5)]) (g := gName 5) (tt := tYes) rfl scDw.nd rfl rfl (sw_true rfl rfl rfl (by decide +kernel))
          (pi_range1 (by rfl) mr (pa_cons (pe_dget hu (pe_call0 GF hr1 (by rfl) gF FF.kp bF .nil pass0) (pv 1) (fun _ _ => rfl)) pa_nil))
          (blkOk_by (own := [("spot", 5)]) (N := drawnN) (sc := defScope sDrawn) (by decide +kernel))
          (fun _ _ _ _ _ => pg_name (i := 5) scDw.nd rfl (.inl rfl)) (fun _ _ _ _ _ => pts_nil)
          (fun _ _ _ _ _ => pe_ifExp (PW.pt (pw_and (pt_cmpR op_lt (pv 5) (pe_callB (show CallR _ (.builtin "len") (rLenS K) from call_len_seq) (by rfl) mlen PySem.boot_len (pa_cons (pv 3) pa_nil)) (nomark _))
              (pw_and1 (pt_cmpR op_gt (pe_call GD hr2 (by rfl) gD FD.kp bD .nil pass0 (pa_cons (pv 0) (pa_cons pe_int pa_nil))) pe_int (nomark _)))))
            (pe_ix (show IxR _ (rIxL K) from ix_list) (pv 3) (pv 5) (fun _ _ => rfl))
            (pe_call GP hr (by rfl) gP FP.kp bP .nil pass0 (pa_cons (pv 0) (pa_cons (pv 2) pa_nil)))))
      (pss_one (ps_ret (pe_callTy call_tuple_of (by rfl) mt (by decide +kernel) (pa_cons (pe_op op_cat (pe_op op_cat (pe_lst (pa_cons (pv 1) pa_nil)) (pv 4))
          (pe_ifExp (pt_val (pe_call GW hr1 (by rfl) gW FW.kp bW .nil pass0 (pa_cons (pv 1) pa_nil)))
            (pe_lst (pa_cons (pe_op op_add pe_int (pe_call GD hr2 (by rfl) gD FD.kp bD .nil pass0 (pa_cons (pv 0) (pa_cons pe_int pa_nil)))) pa_nil)) (pe_lst pa_nil))) pa_nil))))), ?_⟩
    refine ⟨_, rfl, _, rfl, a, w, c, p, T, ns, rfl, hSt, by omega, hS, hn, hok, fun H1 l ys pm nl hl k1 s1 ol => ?_⟩
    refine ⟨rfl, fun fp nfp => ?_⟩
    have ofp := St.off s1 nfp
    have lfp : l ≠ fp := ne_of_none hl nfp
    have gk : DGet (upd H1 fp (.dK formsD)) fp (.str w0) (some (.int (k : Nat))) := by
      have e : valV formsD (.inr w0) = some (.int (k : Nat)) := by rw [forms_get, hf]; rfl
      exact e ▸ DGet.k (k := (.inr w0 : Key)) upd_same
    have k5 := (formOf_small hf).2
    refine ⟨_, rfl, fp, _, rfl, gk, (k : Int), rfl, by omega, by omega, fun D nD => ?_⟩
    have k2 : Kept a w H (upd H1 fp (.dK formsD)) := k1.trans (Kept.of (same_upd nfp))
    have s2 : St (upd H1 fp (.dK formsD)) a w c (T + ns.length) := St.put s1 ofp
    have hl2 : (upd H1 fp (.dK formsD)) l = some (.lst (ys.map V.str)) := (upd_ne lfp).trans hl
    generalize upd H1 fp (.dK formsD) = H2 at nD k2 s2 hl2
    have oD := St.off s2 nD
    have lD : l ≠ D := ne_of_none hl2 nD
    have nD0 : H D = none := kept_none k2 nD ⟨oD.1, oD.2.1⟩
    have yl : ys.length = ns.length := pm.length_eq
    refine lc_range (lo := 0) (n := (k : Int).toNat) (fun i H' => ∃ (us : List Str) (T' : Nat), H' D = some (.lst (us.map V.str)) ∧ us.length = i ∧ (∀ u ∈ us, u ∈ ns) ∧ Kept a w H H' ∧ Kept a w H2 H' ∧ St H' a w c T' ∧ T' ≤ T + ns.length + 2 * i)
      ⟨[], _, upd_same, rfl, fun _ h => absurd h List.not_mem_nil, Kept.put k2 nD0, Kept.put (fun b o e _ _ => e) nD, St.put s2 oD, by omega⟩ ?_ ?_
    · rintro i H3 hi ⟨us, T', hD, hul, hus, k3, k4, s3, hT'⟩
      have hik : i < k := hi
      have hl3 : H3 l = some (.lst (ys.map V.str)) := k4 _ _ hl2 ol.1 ol.2.1
      have fin : ∀ (H4 : Hp) (u : Str) (T2 : Nat), u ∈ ns → Kept a w H3 H4 → St H4 a w c T2 → T2 ≤ T' + 2 → ∃ acc, H4 D = some (.lst acc) ∧ acc.length < sizeLine ∧ ∃ (us : List Str) (T' : Nat), (upd H4 D (.lst (acc ++ [V.str u]))) D = some (.lst (us.map V.str)) ∧ us.length = i + 1 ∧ (∀ u ∈ us, u ∈ ns) ∧ Kept a w H (upd H4 D (.lst (acc ++ [V.str u]))) ∧ Kept a w H2 (upd H4 D (.lst (acc ++ [V.str u]))) ∧ St (upd H4 D (.lst (acc ++ [V.str u]))) a w c T' ∧ T' ≤ T + ns.length + 2 * (i + 1) := by
        intro H4 u T2 hu' k5' s5 l5
        refine ⟨_, k5' _ _ hD oD.1 oD.2.1, ?_, us ++ [u], T2, by rw [upd_same, List.map_append]; rfl, by rw [List.length_append, hul]; rfl, fun v hv => ?_, Kept.put (k3.trans k5') nD0, Kept.put (k4.trans k5') nD, St.put s5 oD, by omega⟩
        · rw [List.length_map]
          exact small1000 (by omega)
        · rcases List.mem_append.mp hv with hv | hv
          · exact hus v hv
          · rw [List.mem_singleton.mp hv]
            exact hu'
      refine ⟨rfl, ?_⟩
      have hp3 : SqL K H3 p (ns.map V.str) := seqL_kept hS k3 npa npw
      refine ⟨_, rfl, _, rfl, l, _, rfl, .inl (.inl (.inl hl3)), _, _, rfl, rfl, _, rfl, ite2 (fun hlt => ?_) (fun _ => ?_)⟩
      · have hlt' : i < ys.length := by
          have := of_decide_eq_true hlt
          rw [List.length_map] at this
          omega
        refine ⟨_, rfl, a, w, c, T', 9, rfl, s3, by omega, by decide, pow1000 (n := 9) (by decide), fun H4 d h0 h1 k6 s6 => ?_⟩
        refine ⟨_, _, rfl, rfl, _, rfl, ite2 (fun hd => ?_) (fun _ => ?_)⟩
        · have hl4 : H4 l = some (.lst (ys.map V.str)) := k6 _ _ hl3 ol.1 ol.2.1
          refine ⟨_, rfl, _, rfl, l, _, _, .str ys[i], rfl, rfl, .inl (.inl hl4), ?_, ?_⟩
          · rw [Int.zero_add]
            refine atI_nat (j := i) ?_
            rw [List.getElem?_map, List.getElem?_eq_getElem hlt']
            rfl
          · exact fin H4 ys[i] _ (pm.mem_iff.mp (List.getElem_mem _)) k6 s6 (by omega)
        · refine ⟨_, rfl, _, rfl, a, w, c, p, T' + 1, ns.map V.str, rfl, s6, by omega, seqL_kept hp3 k6 npa npw, npa, npw, by rwa [List.length_map], by rw [List.length_map]; omega, fun H5 x hx k7 s7 => ?_⟩
          obtain ⟨u, hu', rfl⟩ := List.mem_map.mp hx
          exact fin H5 u _ hu' (k6.trans k7) s7 (by omega)
      · refine ⟨_, rfl, _, rfl, a, w, c, p, T', ns.map V.str, rfl, s3, by omega, hp3, npa, npw, by rwa [List.length_map], by rw [List.length_map]; omega, fun H5 x hx k7 s7 => ?_⟩
        obtain ⟨u, hu', rfl⟩ := List.mem_map.mp hx
        exact fin H5 u _ hu' k7 s7 (by omega)
    · rintro H3 ⟨us, T', hD, hul, hus, k3, _, s3, hT'⟩
      have hul : us.length = k := hul
      refine ⟨_, rfl, by show 1 ≤ sizeLine; decide, fun l1 n1 => ?_⟩
      have D1 : D ≠ l1 := ne_of_none hD n1
      have hD1 : (upd H3 l1 (.lst [.str w0])) D = some (.lst (us.map V.str)) := (upd_ne D1).trans hD
      refine ⟨_, rfl, l1, D, _, _, rfl, rfl, upd_same, hD1, ?_, fun p1 np1 => ?_⟩
      · rw [List.length_map, hul]
        exact Nat.le_of_lt (small1000 (by show 1 + k ≤ 1000; omega))
      have S1 : Same H3 (upd (upd H3 l1 (.lst [.str w0])) p1 (.lst ([.str w0] ++ us.map V.str))) := (same_upd n1).trans (same_upd np1)
      generalize hH4 : upd (upd H3 l1 (.lst [.str w0])) p1 (.lst ([.str w0] ++ us.map V.str)) = H4 at S1
      have hp1 : H4 p1 = some (.lst ([.str w0] ++ us.map V.str)) := by rw [← hH4]; exact upd_same
      have np10 : H3 p1 = none := PySem.Spec.same_none (same_upd n1) np1
      have op1 := St.off s3 np10
      refine ⟨_, rfl, w0, rfl, fun H5 S5 => ⟨_, rfl, ?_⟩⟩
      have hp15 := S5 _ _ hp1
      have s5 : St H5 a w c T' := St.same s3 (S1.trans S5)
      have k5' : Kept a w H H5 := k3.trans (Kept.of (S1.trans S5))
      have fin : ∀ (H6 : Hp) (l3 : Addr) (way : List V) (T2 : Nat), H6 p1 = some (.lst ([.str w0] ++ us.map V.str)) → H6 l3 = some (.lst way) → way.length ≤ 1 → WayOk w0 way → Kept a w H H6 → St H6 a w c T2 → T2 ≤ T' + 1 →
          rCat (.ref p1) (.ref l3) H6 fun v H7 => ∃ p ys, [v] = [V.ref p] ∧ ((SqL K H7 p ys ∧ ∀ l, H7 l = none → Q (.ref l) (upd H7 l (.tup ys))) ∨ (SqT K H7 p ys ∧ Q (.ref p) H7)) := by
        intro H6 l3 way T2 e1 e2 e3 ok k6 s6 l6
        refine ⟨p1, l3, _, _, rfl, rfl, e1, e2, ?_, fun p2 np2 => ⟨p2, _, rfl, .inl ⟨.inl (.inl upd_same), fun q0 nq0 => ?_⟩⟩⟩
        · rw [List.length_append, List.length_map, hul]
          exact Nat.le_of_lt (small1000 (by show 1 + k + way.length ≤ 1000; omega))
        have op2 := St.off s6 np2
        have s7 := St.put (o := .lst ([.str w0] ++ us.map V.str ++ way)) s6 op2
        have oq := St.off s7 nq0
        have np20 : H p2 = none := kept_none k6 np2 ⟨op2.1, op2.2.1⟩
        have k7 := Kept.put (o := .lst ([.str w0] ++ us.map V.str ++ way)) k6 np20
        have nq00 : H q0 = none := kept_none k7 nq0 ⟨oq.1, oq.2.1⟩
        exact q _ q0 us way nq00 (by rw [upd_same]; rfl) hul hus ok (Kept.put k7 nq00) (St.mono (St.put s7 oq) (by omega)) oq
      cases hw : wayW w0 with
      | true =>
        refine iteT2 rfl ?_
        refine ⟨_, rfl, a, w, c, T', 2, rfl, s5, by omega, by decide, pow1000 (n := 2) (by decide), fun H6 d h0 h1 k6 s6 => ?_⟩
        refine ⟨1, d, rfl, rfl, by show 1 ≤ sizeLine; decide, fun l3 n3 => ?_⟩
        have hp16 : H6 p1 = some (.lst ([.str w0] ++ us.map V.str)) := k6 _ _ hp15 op1.1 op1.2.1
        have o3 := St.off s6 n3
        have p3 : p1 ≠ l3 := ne_of_none hp16 n3
        have n30 : H l3 = none := kept_none (k5'.trans k6) n3 ⟨o3.1, o3.2.1⟩
        refine fin _ l3 [.int (1 + d)] (T' + 1) ((upd_ne p3).trans hp16) upd_same (Nat.le_refl _) ?_ (Kept.put (k5'.trans k6) n30) (St.put s6 o3) (Nat.le_refl _)
        unfold WayOk
        rw [if_pos hw]
        have : d = 0 ∨ d = 1 := by omega
        rcases this with rfl | rfl
        · exact .inl rfl
        · exact .inr rfl
      | false =>
        refine iteF2 rfl ?_
        refine ⟨Nat.zero_le _, fun l3 n3 => ?_⟩
        have p3 : p1 ≠ l3 := ne_of_none hp15 n3
        have o3 := St.off s5 n3
        have n30 : H l3 = none := kept_none k5' n3 ⟨o3.1, o3.2.1⟩
        refine fin _ l3 [] T' ((upd_ne p3).trans hp15) upd_same (Nat.zero_le _) ?_ (Kept.put k5' n30) (St.put s5 o3) (Nat.le_succ _)
        unfold WayOk
        rw [if_neg (by rw [hw]; decide)]
end
end N12

set_option Elab.async false
set_option linter.all false
set_option maxRecDepth 100000
set_option maxHeartbeats 2000000
namespace N13
open PySem PySem.Spec PyProof.Rows L2 Cau Dr27 N1 N2 N3 N4 N5 N6 N7 N8 N9 N10 N11 N12 TxtSet
abbrev sChain : Stmt := topS 41
/-! ### tuples stay -/
def TK (K : PySem.W.Frag) (H H' : Hp) : Prop := ∀ q xs, SqT K H q xs → SqT K H' q xs
theorem TK.trans {K : PySem.W.Frag} {H H1 H2 : Hp} (x : TK K H H1) (y : TK K H1 H2) : TK K H H2 := fun q xs h => y q xs (x q xs h)
theorem TK.of {K : PySem.W.Frag} {H H' : Hp} (s : Same H H') : TK K H H' := fun q xs h => sqT_same h s
theorem TK.put {K : PySem.W.Frag} {H : Hp} {l : Addr} {zs : List V} {o : HO} (e : H l = some (.lst zs)) : TK K H (upd H l o) := fun q xs h => by
  rcases h with (h | ⟨u, h⟩) | h
  · have n : q ≠ l := fun z => by rw [z, e] at h; cases h
    exact .inl (.inl ((upd_ne n).trans h))
  · have n : q ≠ l := fun z => by rw [z, e] at h; cases h
    exact .inl (.inr ⟨u, (upd_ne n).trans h⟩)
  · exact .inr h
theorem TK.kept {K : PySem.W.Frag} {H H' : Hp} {a w c : Addr} {T : Nat} (s : St H a w c T) (k : Kept a w H H') : TK K H H' := fun q xs h => by
  obtain ⟨_, ws, cs, r, t, h1, h2, _⟩ := s
  rcases h with (h | ⟨u, h⟩) | h
  · exact .inl (.inl (k _ _ h (fun z => by rw [z, h1] at h; cases h) (fun z => by rw [z, h2] at h; cases h)))
  · exact .inl (.inr ⟨u, k _ _ h (fun z => by rw [z, h1] at h; cases h) (fun z => by rw [z, h2] at h; cases h)⟩)
  · exact .inr h
/-- a step that was drawn -/
def SdT (K : PySem.W.Frag) (H : Hp) (y : V) (p : St1) : Prop := ∃ yp zp, y = .ref yp ∧ SqT K H yp [.str p.1, .ref zp] ∧ SqT K H zp p.2 ∧ p.2.all AtomV = true ∧ p.2.length ≤ 100 ∧ AtomV (.str p.1) = true
theorem SdT.tk {K : PySem.W.Frag} {H H' : Hp} {y : V} {p : St1} (h : SdT K H y p) (t : TK K H H') : SdT K H' y p := by
  obtain ⟨yp, zp, e, h1, h2, h3⟩ := h
  exact ⟨yp, zp, e, t _ _ h1, t _ _ h2, h3⟩
theorem SdT.ok {K : PySem.W.Frag} {H : Hp} {y : V} {p : St1} (h : SdT K H y p) : SdOk K H y (sdOf p) := by
  obtain ⟨yp, zp, e, h1, h2, h3, h4, h5⟩ := h
  exact ⟨yp, .ref zp, e, h1, h5, .inl ⟨zp, p.2, rfl, h2, h3, h4, rfl⟩⟩
/-! ### the drawn deeds are deeds -/
theorem goes_snoc : ∀ (st : List St1) (kn : List Str) (p : St1), goesB (st.map sdOf) kn = true → stepB (sdOf p) (kn ++ st.map (·.1)) = some p.1 → goesB ((st ++ [p]).map sdOf) kn = true
  | [], kn, p, _, h => by
    rw [List.map_nil, List.append_nil] at h
    show goesB [sdOf p] kn = true
    unfold goesB
    rw [h]
    rfl
  | q :: r, kn, p, hg, h => by
    rw [List.map_cons] at hg
    rw [List.cons_append, List.map_cons]
    unfold goesB at hg ⊢
    cases e : stepB (sdOf q) kn with
    | none => rw [e] at hg; cases hg
    | some s =>
      rw [e] at hg
      have es : s = q.1 := by
        have e' : stepB (.pair (.str q.1) (some q.2)) kn = some s := e
        rw [step_str] at e'
        split at e'
        · exact (Option.some.inj e').symm
        · cases e'
      subst es
      refine goes_snoc r (kn ++ [q.1]) p hg ?_
      rw [List.append_assoc]
      exact h
theorem good_name {z : Str} (h : goodN z = true) : nameS z = true ∧ PyData.strOk z = true ∧ z.length ≤ 8 := by
  unfold goodN at h
  simp only [Bool.and_eq_true, decide_eq_true_eq] at h
  exact ⟨h.1.1.1.1, h.1.1.1.2, h.1.1.2⟩
theorem good_odd {z : Str} (h : goodN z = true) : z ≠ "notthere" ∧ z ≠ "n0" := by
  unfold goodN at h
  simp only [Bool.and_eq_true, decide_eq_true_eq] at h
  exact ⟨h.1.2, h.2⟩
theorem good_atom {z : Str} (h : goodN z = true) : AtomV (.str z) = true := by
  obtain ⟨_, h2, h3⟩ := good_name h
  show (decide (z.length ≤ 4000) && PyData.strOk z) = true
  rw [h2, decide_eq_true (show z.length ≤ 4000 by omega)]
  rfl
theorem word_atom {w : Str} {k : Nat} (h : formOf w = some k) : AtomV (.str w) = true := by
  have all : ∀ p ∈ formsL, AtomV (.str p.1) = true := by decide +kernel
  exact all (w, k) (PySem.mem_of_lookup h)
theorem way_len {w : Str} {way : List V} (h : WayOk w way) : way.length ≤ 1 := by
  unfold WayOk at h
  split at h
  · rcases h with rfl | rfl <;> exact Nat.le_refl _
  · subst h
    exact Nat.zero_le _
theorem way_atom {w : Str} {way : List V} (h : WayOk w way) : way.all AtomV = true := by
  unfold WayOk at h
  split at h
  · rcases h with rfl | rfl <;> rfl
  · subst h
    rfl
theorem drawn_deed {w : Str} {k : Nat} {us : List Str} {way : List V} (hf : formOf w = some k) (hl : us.length = k) (hu : ∀ u ∈ us, nameS u = true) (hw : WayOk w way) : deedL (.str w :: (us.map V.str ++ way)) = true := by
  have e1 : (us.map V.str ++ way).take k = us.map V.str := by
    rw [← hl, ← List.length_map (f := V.str), List.take_left]
  have e2 : (us.map V.str).all nameV = true := by
    rw [List.all_map, List.all_eq_true]
    exact fun u h => hu u h
  rw [deed_is hf, e1, e2]
  unfold WayOk at hw
  by_cases c : wayW w = true
  · rw [if_pos c] at hw
    rw [if_pos c]
    have e3 : (us.map V.str ++ way).length = k + 1 := by
      rw [List.length_append, List.length_map, hl]
      rcases hw with rfl | rfl <;> rfl
    rw [e3]
    rcases hw with rfl | rfl
    · have : (us.map V.str ++ [V.int 1]).getLastD .non = .int 1 := by simp [List.getLastD_eq_getLast?]
      rw [this]
      simp [wayV]
    · have : (us.map V.str ++ [V.int 2]).getLastD .non = .int 2 := by simp [List.getLastD_eq_getLast?]
      rw [this]
      simp [wayV]
  · rw [if_neg c] at hw
    rw [if_neg c, hw, List.append_nil, List.length_map, hl]
    simp
theorem drawn_names {w : Str} {k : Nat} {us : List Str} {way : List V} (hf : formOf w = some k) (hl : us.length = k) : namesL (.str w :: (us.map V.str ++ way)) = us := by
  rw [names_is hf, ← hl, ← List.length_map (f := V.str), List.take_left, List.filterMap_map]
  have : (txtOf ∘ V.str) = some := rfl
  rw [this, List.filterMap_some]
theorem cut_strs (xs : List Str) (lo hi : Option Int) : ∃ ys : List Str, cutV (xs.map V.str) lo hi = ys.map V.str ∧ (∀ y ∈ ys, y ∈ xs) ∧ ys.length ≤ xs.length := by
  refine ⟨(xs.drop (HT.sIx (xs.map V.str).length 0 lo)).take (HT.sIx (xs.map V.str).length (xs.map V.str).length hi - HT.sIx (xs.map V.str).length 0 lo), ?_, fun y h => List.mem_of_mem_drop (List.mem_of_mem_take h), ?_⟩
  · unfold cutV
    rw [List.map_take, List.map_drop]
  · rw [List.length_take, List.length_drop]
    omega
theorem sheet_good : sheetL.all goodN = true := by decide +kernel
def spChain (K : PySem.W.Frag) : Sp := fun vs H Q _ => ∃ (a w c p : Addr) (T many : Nat) (share : Int) (ws : List Str), vs = [.ref a, .int many, .ref p, .int share] ∧ St H a w c T ∧ T + 200 * many ≤ 900000 ∧ many ≤ 12 ∧ SqL K H p (ws.map V.str) ∧ p ≠ a ∧ p ≠ w ∧ 0 < ws.length ∧ ws.length ≤ 100 ∧ (∀ x ∈ ws, (formOf x).isSome = true) ∧
  ∀ (H' : Hp) (l : Addr) (ys : List V) (st : List St1), H l = none → H' l = some (.lst ys) → ys.length = many → st.length = many → (∀ (i : Nat) y p, ys[i]? = some y → st[i]? = some p → SdT K H' y p) → goesB (st.map sdOf) sheetL = true → (∀ p ∈ st, goodN p.1 = true) → Kept a w H H' → St H' a w c (T + 200 * many) → (l ≠ a ∧ l ≠ w ∧ l ≠ c) → Q (.ref l) H'
theorem pe_weak {X : Cx} {e : Expr} {t t' : TE} (h : PE X e t) (k : ∀ σ H Q, t' σ H Q → t σ H Q) : PE X e t' := ⟨fun pins s σ H Q I q => h.run pins s σ H Q I (k σ H Q q)⟩
/-- the names to look back at -/
def tNear : TE := fun σ H Q => ∃ (a w c L : Addr) (share : Int) (T : Nat) (kn : List Str), σ[0]? = some (some (.ref a)) ∧ σ[3]? = some (some (.int share)) ∧ σ[4]? = some (some (.ref L)) ∧ St H a w c T ∧ T ≤ 1000000 ∧ H L = some (.lst (kn.map V.str)) ∧ kn.length ≤ 20 ∧ (L ≠ a ∧ L ≠ w ∧ L ≠ c) ∧
  ∀ (H2 : Hp) (nr : Addr) (nl : List Str), H2 nr = some (.lst (nl.map V.str)) → (∀ z ∈ nl, z ∈ kn) → nl.length ≤ 20 → Kept a w H H2 → St H2 a w c (T + 1) → (nr ≠ a ∧ nr ≠ w ∧ nr ≠ c) → Q (.ref nr) H2
/-- the names that a deed is drawn from -/
def tFrom : TE := fun σ H Q => ∃ (L nr : Addr) (kn nl : List Str), σ[4]? = some (some (.ref L)) ∧ σ[7]? = some (some (.ref nr)) ∧ H L = some (.lst (kn.map V.str)) ∧ H nr = some (.lst (nl.map V.str)) ∧ 0 < kn.length ∧ kn.length ≤ 20 ∧ nl.length ≤ 20 ∧ (∀ z ∈ nl, z ∈ kn) ∧
  ∀ (H2 : Hp) (np : Addr) (ns : List Str), Same H H2 → H2 np = some (.lst (ns.map V.str)) → (∀ z ∈ ns, z ∈ kn) → 0 < ns.length → ns.length ≤ 60 → (np = nr ∨ H np = none) → Q (.ref np) H2
section
variable {P : Program} {w : World} {K : PySem.W.Frag} {mg : Str → Option Value} {base : Heap}
def chainN : List Str := ["state", "many", "words", "share", "known", "found", "turn", "near", "deed", "name"]
theorem scCs : FnScope chainN ["state", "many", "words", "share"] (defScope sChain) := ⟨rfl, rfl, rfl, by decide +kernel, rfl, by decide +kernel, by decide +kernel⟩
theorem ok_chain {f fD fP fE fN : Addr} {fd fdD fdP fdE fdN : FuncData} (F : Fun K "_law_chained_steps" "_law_chained_steps" sChain f fd)
    (FD : Fun K "_law_draw" "_law_draw" sDraw fD fdD) (GD : FnOk P w K mg base CX0 2 fD fdD ["state", "room"] spDraw) (bD : Binds K fdD ["state", "room"] []) (gD : mg "_law_draw" = some (.ref fD))
    (FP : Fun K "_law_pick" "_law_pick" sPick fP fdP) (GP : FnOk P w K mg base CX0 3 fP fdP ["state", "some"] (spPick K)) (bP : Binds K fdP ["state", "some"] []) (gP : mg "_law_pick" = some (.ref fP))
    (FE : Fun K "_law_deed" "_law_deed" sDrawn fE fdE) (GE : FnOk P w K mg base CX0 4 fE fdE ["state", "word", "names"] (spDrawn K)) (bE : Binds K fdE ["state", "word", "names"] []) (gE : mg "_law_deed" = some (.ref fE))
    (FN : Fun K "_law_name" "_law_name" sNm fN fdN) (GN : FnOk P w K mg base CX0 4 fN fdN ["state", "barred"] (spNm K)) (bN : Binds K fdN ["state", "barred"] []) (gN : mg "_law_name" = some (.ref fN))
    (mr : mg "range" = none) (mlen : mg "len" = none) (mm : mg "max" = none) : FnOk P w K mg base CX0 5 f fd ["state", "many", "words", "share"] (spChain K) := by
  refine F.ok scCs (fun vs H Q E h => ?_) (fun cdv A outer s H vs Q E hr h => ?_)
  · obtain ⟨a, w, c, p, T, many, share, ws, rfl, _⟩ := h
    rfl
  · obtain ⟨a, w, c, p, T, many, share, ws, rfl, hSt, hT, hm, hS, npa, npw, hw0, hwl, hws, q⟩ := h
    have hr3 : Room 3 _ := hr.mono (by decide)
    have hr2 : Room 2 _ := hr.mono (by decide)
    refine ⟨_, pss_cons (ps_par (i := 4) (j := 5) rfl scCs.nd rfl rfl (by decide) rfl rfl (pa_cons (pe_lst (pa_cons pe_str (pa_cons pe_str (pa_cons pe_str (pa_cons pe_str (pa_cons pe_str pa_nil)))))) (pa_cons (pe_lst pa_nil) pa_nil)) (by rfl))
      (pss_cons (ps_for PassesOwn.never rfl (pi_range1 (by rfl) mr (pa_cons (pv 1) pa_nil)) (pg_name (i := 6) scCs.nd rfl (.inl rfl))
        (pss_cons (ps_set (i := 7) scCs.nd rfl (.inl rfl) (pe_weak (t' := tNear) (pe_ifExp (pt_cmpR op_lt (pe_call GD hr2 (by rfl) gD FD.kp bD .nil pass0 (pa_cons (pv 0) (pa_cons pe_int pa_nil))) (pv 3) (nomark _))
            (pe_slice sl_list (pv 4) (po_some (pe_callB (call_max2 rfl) (by rfl) mm (by decide +kernel) (pa_cons pe_int (pa_cons (pe_op op_sub (pe_callB call_len_seq (by rfl) mlen PySem.boot_len (pa_cons (pv 4) pa_nil)) pe_int) pa_nil)))) po_none) (pv 4)) ?near))
        (pss_cons (ps_set (i := 8) scCs.nd rfl (.inl rfl) (pe_call GE hr (by rfl) gE FE.kp bE .nil pass0 (pa_cons (pv 0) (pa_cons (pe_call GP hr3 (by rfl) gP FP.kp bP .nil pass0 (pa_cons (pv 0) (pa_cons (pv 2) pa_nil)))
            (pa_cons (pe_weak (t' := tFrom) (pe_ifExp (pt_cmpR op_gt (pe_callB call_len_seq (by rfl) mlen PySem.boot_len (pa_cons (pv 7) pa_nil)) pe_int (nomark _)) (pv 7) (pe_op op_cat (pe_op op_cat (pv 4) (pv 7)) (pv 7))) ?frm) pa_nil)))))
        (pss_cons (ps_set (i := 9) scCs.nd rfl (.inl rfl) (pe_call GN hr (by rfl) gN FN.kp bN .nil pass0 (pa_cons (pv 0) (pa_cons (pv 4) pa_nil))))
        (pss_cons (ps_expr (pe_bm PySem.F.plainAttrs_list PySem.F.slot_list_append PySem.F.type_list_append mt_append (pv 5) (pa_cons (pe_tup (pa_cons (pv 9) (pa_cons (pv 8) pa_nil))) pa_nil)))
        (pss_one (ps_expr (pe_bm PySem.F.plainAttrs_list PySem.F.slot_list_append PySem.F.type_list_append mt_append (pv 4) (pa_cons (pv 9) pa_nil)))))))))
      (pss_one (ps_ret (pv 5)))), ?_⟩
    case near =>
      rintro σ H1 Q1 ⟨a, w, c, L, share, T, kn, h0, h3, h4, hs, hT, hL, hk, oL, q1⟩
      refine ⟨_, h0, a, w, c, T, 4, rfl, hs, hT, by decide, pow1000 (n := 4) (by decide), fun H2 d d0 d1 k2 s2 => ?_⟩
      have hL2 : H2 L = some (.lst (kn.map V.str)) := k2 _ _ hL oL.1 oL.2.1
      refine ⟨_, h3, _, _, rfl, rfl, _, rfl, ite2 (fun _ => ?_) (fun _ => ?_)⟩
      · refine ⟨_, h4, _, h4, L, _, rfl, .inl (.inl (.inl hL2)), _, 3, rfl, rfl, 0, _, rfl, _, rfl, L, _, rfl, .inl (.inl hL2), fun M nM => ?_⟩
        obtain ⟨ys, e, sub, len⟩ := cut_strs kn (some (if ((kn.map V.str).length : Int) - 3 > 0 then ((kn.map V.str).length : Int) - 3 else 0)) none
        have oM := St.off s2 nM
        refine q1 _ M ys ?_ sub (by omega) (Kept.put k2 (kept_none k2 nM ⟨oM.1, oM.2.1⟩)) (St.put s2 oM) oM
        rw [upd_same]
        exact congrArg some (congrArg HO.lst e)
      · exact ⟨_, h4, q1 H2 L kn hL2 (fun z h => h) hk k2 s2 oL⟩
    case frm =>
      rintro σ H1 Q1 ⟨L, nr, kn, nl, h4, h7, hL, hN, k0, kl, nl0, sub, q1⟩
      refine ⟨_, h7, nr, _, rfl, .inl (.inl (.inl hN)), _, _, rfl, rfl, _, rfl, ite2 (fun hc => ?_) (fun _ => ?_)⟩
      · have hc : 4 < nl.length := by
          have := of_decide_eq_true hc
          rw [List.length_map] at this
          omega
        exact ⟨_, h7, q1 H1 nr nl (fun _ _ e => e) hN sub (by omega) (by omega) (.inl rfl)⟩
      · refine ⟨_, h4, _, h7, L, nr, _, _, rfl, rfl, hL, hN, ?_, fun M nM => ?_⟩
        · rw [List.length_map, List.length_map]
          exact Nat.le_of_lt (small1000 (by omega))
        have NM : nr ≠ M := ne_of_none hN nM
        refine ⟨_, h7, M, nr, _, _, rfl, rfl, upd_same, (upd_ne NM).trans hN, ?_, fun M2 nM2 => ?_⟩
        · rw [List.length_append, List.length_map, List.length_map]
          exact Nat.le_of_lt (small1000 (by omega))
        have S := (same_upd (o := .lst (kn.map V.str ++ nl.map V.str)) nM).trans (same_upd (o := .lst (kn.map V.str ++ nl.map V.str ++ nl.map V.str)) nM2)
        refine q1 _ M2 (kn ++ nl ++ nl) S (by rw [upd_same, List.map_append, List.map_append]) (fun z hz => ?_) ?_ ?_ (.inr (PySem.Spec.same_none (same_upd (o := .lst (kn.map V.str ++ nl.map V.str)) nM) nM2))
        · rcases List.mem_append.mp hz with hz | hz
          · rcases List.mem_append.mp hz with hz | hz
            · exact hz
            · exact sub z hz
          · exact sub z hz
        · rw [List.length_append, List.length_append]
          omega
        · rw [List.length_append, List.length_append]
          omega
    refine ⟨by show 5 ≤ sizeLine; decide, fun L nL => ⟨Nat.zero_le _, fun Fo nF => ⟨_, _, rfl, ?_⟩⟩⟩
    have oL := St.off hSt nL
    have s1 : St (upd H L (.lst (sheetL.map V.str))) a w c T := St.put hSt oL
    have nF' : (upd H L (.lst (sheetL.map V.str))) Fo = none := nF
    have oF := St.off s1 nF'
    have LF : L ≠ Fo := fun z => by rw [← z, upd_same] at nF'; cases nF'
    have nF0 : H Fo = none := by rwa [upd_ne LF.symm] at nF'
    refine ⟨_, rfl, _, rfl, by omega, by omega, for_range (lo := 0) (n := (many : Int).toNat) (fun i σ H' => ∃ (y6 y7 y8 y9 : Option V) (st : List St1) (ys : List V) (T' : Nat), σ = [some (.ref a), some (.int many), some (.ref p), some (.int share), some (.ref L), some (.ref Fo), y6, y7, y8, y9] ∧
        H' L = some (.lst ((sheetL ++ st.map (·.1)).map V.str)) ∧ H' Fo = some (.lst ys) ∧ st.length = i ∧ ys.length = i ∧ (∀ (i : Nat) y p, ys[i]? = some y → st[i]? = some p → SdT K H' y p) ∧ goesB (st.map sdOf) sheetL = true ∧ (∀ p ∈ st, goodN p.1 = true) ∧ Kept a w H H' ∧ St H' a w c T' ∧ T' ≤ T + 200 * i)
      ⟨none, none, none, none, [], [], T, rfl, (upd_ne LF).trans upd_same, upd_same, rfl, rfl, (fun i y p h => by cases h), rfl, fun p h => absurd h List.not_mem_nil, Kept.put (Kept.put (fun b o e _ _ => e) nL) nF0, St.put s1 oF, by omega⟩ ?_ ?_⟩
    · rintro i σ H1 hi ⟨y6, y7, y8, y9, st, ys, T', rfl, hL, hF, hsl, hyl, hst, hg, hgn, k1, s2, hT'⟩
      have hi : i < many := hi
      have kgood : ∀ z ∈ sheetL ++ st.map (·.1), goodN z = true := fun z hz => by
        rcases List.mem_append.mp hz with hz | hz
        · exact List.all_eq_true.mp sheet_good z hz
        · obtain ⟨p, hp, rfl⟩ := List.mem_map.mp hz
          exact hgn p hp
      have knl : (sheetL ++ st.map (·.1)).length = 5 + i := by rw [List.length_append, List.length_map, hsl]; rfl
      refine ⟨a, w, c, L, share, T', _, rfl, rfl, rfl, s2, by omega, hL, by omega, oL, fun H2 nr nl hN sub nll k2 s3 oN => ?_⟩
      have hL2 : H2 L = some (.lst ((sheetL ++ st.map (·.1)).map V.str)) := k2 _ _ hL oL.1 oL.2.1
      have hF2 : H2 Fo = some (.lst ys) := k2 _ _ hF oF.1 oF.2.1
      -- the word
      refine ⟨_, rfl, _, rfl, _, rfl, a, w, c, p, T' + 1, ws.map V.str, rfl, s3, by omega, seqL_kept hS (k1.trans k2) npa npw, npa, npw, by rwa [List.length_map], by rw [List.length_map]; omega, fun H3 x hx k3 s4 => ?_⟩
      obtain ⟨w0, hw, rfl⟩ := List.mem_map.mp hx
      obtain ⟨k, hf⟩ := Option.isSome_iff_exists.mp (hws w0 hw)
      have hL3 : H3 L = some (.lst ((sheetL ++ st.map (·.1)).map V.str)) := k3 _ _ hL2 oL.1 oL.2.1
      have hF3 : H3 Fo = some (.lst ys) := k3 _ _ hF2 oF.1 oF.2.1
      refine ⟨L, nr, _, nl, rfl, rfl, hL3, k3 _ _ hN oN.1 oN.2.1, by omega, by omega, nll, sub, fun H4 np ns S4 hnp subs n0 nsl hor => ?_⟩
      have s5 : St H4 a w c (T' + 1 + 1) := St.same s4 S4
      have onp : np ≠ a ∧ np ≠ w := by
        rcases hor with rfl | e
        · exact ⟨oN.1, oN.2.1⟩
        · have := St.off s4 e
          exact ⟨this.1, this.2.1⟩
      refine ⟨a, w, c, np, _, w0, k, ns, rfl, s5, by omega, hf, .inl (.inl hnp), onp.1, onp.2, n0, by omega, fun z hz => (good_name (kgood z (subs z hz))).2.1, fun H5 qd us way nqd hqd hul hus hway k5 s6 oqd => ?_⟩
      have K34 : Kept a w H3 H4 := Kept.of S4
      have K15 : Kept a w H1 H5 := k2.trans (k3.trans (K34.trans k5))
      have hL5 : H5 L = some (.lst ((sheetL ++ st.map (·.1)).map V.str)) := K15 _ _ hL oL.1 oL.2.1
      refine ⟨_, rfl, _, rfl, a, w, c, L, _, sheetL ++ st.map (·.1), rfl, s6, by omega, .inl (.inl hL5), oL.1, oL.2.1, by omega, fun H6 z hz hz1 hz2 k6 s7 => ?_⟩
      have K16 : Kept a w H1 H6 := K15.trans k6
      have hL6 : H6 L = some (.lst ((sheetL ++ st.map (·.1)).map V.str)) := K16 _ _ hL oL.1 oL.2.1
      have hF6 : H6 Fo = some (.lst ys) := K16 _ _ hF oF.1 oF.2.1
      have hqd6 : SqT K H6 qd (.str w0 :: (us.map V.str ++ way)) := seqT_kept (.inl (.inl hqd)) k6 oqd.1 oqd.2.1
      refine ⟨_, rfl, .inl ⟨rfl, _, .inl (.inl hF6)⟩, _, rfl, _, rfl, by show 2 ≤ sizeLine; decide, fun t nt => ?_⟩
      have tL : L ≠ t := ne_of_none hL6 nt
      have tF : Fo ≠ t := ne_of_none hF6 nt
      have ot := St.off s7 nt
      have nt0 : H t = none := kept_none (k1.trans K16) nt ⟨ot.1, ot.2.1⟩
      have hF7 : (upd H6 t (.tup [.str z, .ref qd])) Fo = some (.lst ys) := (upd_ne tF).trans hF6
      refine ⟨Fo, _, _, rfl, rfl, hF7, small1000 (by omega), ?_⟩
      have hL8 : (upd (upd H6 t (.tup [.str z, .ref qd])) Fo (.lst (ys ++ [.ref t]))) L = some (.lst ((sheetL ++ st.map (·.1)).map V.str)) := (upd_ne LF).trans ((upd_ne tL).trans hL6)
      refine ⟨_, rfl, .inl ⟨rfl, _, .inl (.inl hL8)⟩, _, rfl, L, _, _, rfl, rfl, hL8, by rw [List.length_map]; exact small1000 (by omega), ?_⟩
      have kA : Kept a w H (upd H6 t (.tup [.str z, .ref qd])) := Kept.put (k1.trans K16) nt0
      have tkA : TK K H6 (upd H6 t (.tup [.str z, .ref qd])) := TK.of (same_upd nt)
      have tkB := tkA.trans (TK.put (o := .lst (ys ++ [.ref t])) hF7)
      have tkC := tkB.trans (TK.put (o := .lst ((sheetL ++ st.map (·.1)).map V.str ++ [.str z])) hL8)
      have tk1 : TK K H1 H6 := TK.kept s2 K16
      refine ⟨_, _, _, _, st ++ [(z, .str w0 :: (us.map V.str ++ way))], ys ++ [.ref t], _, rfl, ?_, (upd_ne LF.symm).trans upd_same, by rw [List.length_append, hsl]; rfl, by rw [List.length_append, hyl]; rfl, ?_, ?_, ?_, Kept.put (Kept.put kA nF0) nL, St.put (St.put (St.put s7 ot) oF) oL, by omega⟩
      · rw [upd_same]
        simp
      · intro j y p hy hp
        by_cases hj : j < i
        · rw [List.getElem?_append_left (by omega)] at hy hp
          exact ((hst j y p hy hp).tk tk1).tk tkC
        · have ej : j = i := by
            have := (List.getElem?_eq_some_iff.mp hy).1
            rw [List.length_append, hyl] at this
            have e1 : ([V.ref t] : List V).length = 1 := rfl
            omega
          subst ej
          rw [List.getElem?_append_right (by omega), hyl, Nat.sub_self] at hy
          rw [List.getElem?_append_right (by omega), hsl, Nat.sub_self] at hp
          cases hy
          cases hp
          refine ⟨t, qd, rfl, ?_, tkC _ _ hqd6, ?_, ?_, good_atom hz⟩
          · exact (TK.put (o := .lst ((sheetL ++ st.map (·.1)).map V.str ++ [.str z])) hL8) _ _ ((TK.put (o := .lst (ys ++ [.ref t])) hF7) _ _ (.inl (.inl upd_same)))
          · rw [List.all_cons, List.all_append, word_atom hf, way_atom hway, List.all_map, Bool.true_and, Bool.and_true, List.all_eq_true]
            exact fun u hu' => good_atom (kgood u (subs u (hus u hu')))
          · have e1 := way_len hway
            have e2 := (formOf_small hf).2
            show (V.str w0 :: (us.map V.str ++ way)).length ≤ 100
            rw [List.length_cons, List.length_append, List.length_map, hul]
            omega
      · refine goes_snoc st sheetL _ hg ?_
        show stepB (.pair (.str z) (some (.str w0 :: (us.map V.str ++ way)))) (sheetL ++ st.map (·.1)) = some z
        rw [step_str, if_pos]
        rw [(good_name hz).1, drawn_deed hf hul (fun u hu' => (good_name (kgood u (subs u (hus u hu')))).1) hway, decide_eq_false hz1, drawn_names hf hul]
        simp only [Bool.true_and, Bool.not_false, List.all_eq_true, decide_eq_true_eq]
        exact fun u hu' => subs u (hus u hu')
      · intro p hp
        rcases List.mem_append.mp hp with hp | hp
        · exact hgn p hp
        · rw [List.mem_singleton.mp hp]
          exact hz
    · rintro σ H1 ⟨y6, y7, y8, y9, st, ys, T', rfl, hL, hF, hsl, hyl, hst, hg, hgn, k1, s2, hT'⟩
      have hsl : st.length = many := hsl
      have hyl : ys.length = many := hyl
      exact ⟨_, rfl, q H1 Fo ys st nF0 hF hyl hsl hst hg hgn k1 (St.mono s2 hT') oF⟩
end
end N13

set_option Elab.async false
set_option linter.all false
set_option maxRecDepth 100000
set_option maxHeartbeats 2000000
/-! What a name hangs on: the walk from the end is the least that holds the names and is closed. -/
namespace N14
open PySem PySem.Spec PyProof.Rows L2 Cau Dr27 N1 N2 N3 N4 N5 N6 N7 N8 N9 N10 N11 N12 N13
theorem goes_cons {p : St1} {r : List St1} {kn : List Str} (h : goesB ((p :: r).map sdOf) kn = true) : p.1 ∉ kn ∧ (∀ u ∈ namesL p.2, u ∈ kn) ∧ deedL p.2 = true ∧ nameS p.1 = true ∧ goesB (r.map sdOf) (kn ++ [p.1]) = true := by
  rw [List.map_cons] at h
  unfold goesB at h
  cases e : stepB (sdOf p) kn with
  | none => rw [e] at h; cases h
  | some s =>
    rw [e] at h
    have e' : stepB (.pair (.str p.1) (some p.2)) kn = some s := e
    rw [step_str] at e'
    split at e'
    · rename_i c
      cases e'
      simp only [Bool.and_eq_true, Bool.not_eq_true', decide_eq_false_iff_not, List.all_eq_true, decide_eq_true_eq] at c
      exact ⟨c.1.2, c.2, c.1.1.2, c.1.1.1, h⟩
    · cases e'
theorem later_fresh : ∀ (r : List St1) (kn : List Str), goesB (r.map sdOf) kn = true → ∀ q ∈ r, q.1 ∉ kn
  | [], _, _, q, hq => absurd hq List.not_mem_nil
  | p :: r, kn, h, q, hq => by
    obtain ⟨h1, _, _, _, h5⟩ := goes_cons h
    rcases List.mem_cons.mp hq with rfl | hq
    · exact h1
    · exact fun z => later_fresh r _ h5 q hq (List.mem_append_left _ z)
theorem goes_nodup : ∀ (r : List St1) (kn : List Str), goesB (r.map sdOf) kn = true → (r.map (·.1)).Nodup
  | [], _, _ => List.nodup_nil
  | p :: r, kn, h => by
    obtain ⟨_, _, _, _, h5⟩ := goes_cons h
    rw [List.map_cons, List.nodup_cons]
    refine ⟨fun z => ?_, goes_nodup r _ h5⟩
    obtain ⟨q, hq, e⟩ := List.mem_map.mp z
    exact later_fresh r _ h5 q hq (e ▸ List.mem_append_right _ List.mem_cons_self)
/-- a deed's names are told ahead, or known -/
theorem goes_names : ∀ (r : List St1) (kn : List Str), goesB (r.map sdOf) kn = true → ∀ p ∈ r, ∀ u ∈ namesL p.2, u ∈ kn ∨ u ∈ r.map (·.1)
  | [], _, _, p, hp => absurd hp List.not_mem_nil
  | q :: r, kn, h, p, hp => by
    obtain ⟨_, h2, _, _, h5⟩ := goes_cons h
    intro u hu
    rcases List.mem_cons.mp hp with rfl | hp
    · exact .inl (h2 u hu)
    · rcases goes_names r _ h5 p hp u hu with z | z
      · rcases List.mem_append.mp z with z | z
        · exact .inl z
        · rw [List.mem_singleton.mp z]
          exact .inr List.mem_cons_self
      · exact .inr (List.mem_cons_of_mem _ z)
theorem same_name : ∀ (r : List St1), (r.map (·.1)).Nodup → ∀ p ∈ r, ∀ q ∈ r, p.1 = q.1 → p = q
  | [], _, p, hp, _, _, _ => absurd hp List.not_mem_nil
  | a :: r, n, p, hp, q, hq, e => by
    rw [List.map_cons, List.nodup_cons] at n
    rcases List.mem_cons.mp hp with rfl | hp'
    · rcases List.mem_cons.mp hq with rfl | hq'
      · rfl
      · exact absurd (List.mem_map.mpr ⟨q, hq', e.symm⟩) n.1
    · rcases List.mem_cons.mp hq with rfl | hq'
      · exact absurd (List.mem_map.mpr ⟨p, hp', e⟩) n.1
      · exact same_name r n.2 p hp' q hq' e
theorem back_names : ∀ (st : List St1) (ns : List Str), ∀ z ∈ ns, z ∈ backW st ns
  | [], _, _, h => h
  | p :: r, ns, z, h => by
    have ih := back_names r ns z h
    rw [backW_cons]
    split
    · exact List.mem_append_left _ ih
    · exact ih
theorem back_closed : ∀ (st : List St1) (kn ns : List Str), goesB (st.map sdOf) kn = true → ∀ p ∈ st, p.1 ∈ backW st ns → ∀ u ∈ namesL p.2, u ∈ backW st ns
  | [], _, _, _, p, hp => absurd hp List.not_mem_nil
  | q :: r, kn, ns, h, p, hp => by
    obtain ⟨h1, h2, _, _, h5⟩ := goes_cons h
    intro hb u hu
    rw [backW_cons] at hb ⊢
    rcases List.mem_cons.mp hp with rfl | hp
    · by_cases c : p.1 ∈ backW r ns
      · rw [if_pos c]
        exact List.mem_append_right _ hu
      · rw [if_neg c] at hb
        exact absurd hb c
    · have fresh := later_fresh r _ h5 p hp
      have inB : p.1 ∈ backW r ns := by
        split at hb
        · rcases List.mem_append.mp hb with z | z
          · exact z
          · exact absurd (List.mem_append_left _ (h2 _ z)) fresh
        · exact hb
      have := back_closed r _ ns h5 p hp inB u hu
      split
      · exact List.mem_append_left _ this
      · exact this
/-- it is in whatever holds the names and is closed -/
theorem back_least {st : List St1} {ns : List Str} {S : Str → Prop} (h1 : ∀ z ∈ ns, z ∈ st.map (·.1) → S z) (h2 : ∀ p ∈ st, S p.1 → ∀ u ∈ namesL p.2, u ∈ st.map (·.1) → S u) : ∀ (r : List St1), (∀ p ∈ r, p ∈ st) → ∀ z ∈ backW r ns, z ∈ st.map (·.1) → S z
  | [], _, z, hz, ho => h1 z hz ho
  | q :: r, hr, z, hz, ho => by
    have ih := back_least h1 h2 r fun p hp => hr p (List.mem_cons_of_mem _ hp)
    rw [backW_cons] at hz
    split at hz
    · rename_i c
      have hq := hr q List.mem_cons_self
      rcases List.mem_append.mp hz with hz | hz
      · exact ih z hz ho
      · exact h2 q hq (ih q.1 c (List.mem_map.mpr ⟨q, hq, rfl⟩)) z hz ho
    · exact ih z hz ho
/-- a part that is a drawing and has the names has all that they hang on -/
theorem back_part {st pt : List St1} {ns kn : List Str} (hs : goesB (st.map sdOf) kn = true) (hp : goesB (pt.map sdOf) kn = true) (sub : ∀ p ∈ pt, p ∈ st) (hn : ∀ z ∈ ns, z ∈ st.map (·.1) → z ∈ pt.map (·.1)) : ∀ p ∈ st, p.1 ∈ backW st ns → p ∈ pt := by
  intro p hps hb
  have nd := goes_nodup st _ hs
  have z := back_least (S := fun z => z ∈ pt.map (·.1)) hn (fun q hq hS u hu ho => by
    obtain ⟨q', hq', e⟩ := List.mem_map.mp hS
    have eq : q' = q := same_name st nd q' (sub q' hq') q hq e
    subst eq
    rcases goes_names pt _ hp q' hq' u hu with z | z
    · obtain ⟨v, hv, e2⟩ := List.mem_map.mp ho
      exact absurd (e2 ▸ z) (later_fresh st _ hs v hv)
    · exact z) st (fun _ h => h) p.1 hb (List.mem_map.mpr ⟨p, hps, rfl⟩)
  obtain ⟨q, hq, e⟩ := List.mem_map.mp z
  exact same_name st nd q (sub q hq) p hps e ▸ hq
end N14

set_option Elab.async false
set_option linter.all false
set_option maxRecDepth 100000
set_option maxHeartbeats 2000000
namespace N15
open PySem PySem.Spec PyProof.Rows L2 Cau Dr27 N1 N2 N3 N4 N5 N6 N7 N8 N9 N10 N11 N12 N13 N14 TxtSet
abbrev sHung : Stmt := topS 48
/-! ### the dict of the steps -/
def ownK (st : List St1) (zs : List Addr) : List (Key × V) := List.zipWith (fun p z => ((.inr p.1 : Key), V.ref z)) st zs
theorem own_out : ∀ (st : List St1) (zs : List Addr) (acc : List (Key × V)) (nm : Str), nm ∉ st.map (·.1) → valV (mergeK acc (ownK st zs)) (.inr nm) = valV acc (.inr nm)
  | [], _, _, _, _ => rfl
  | p :: r, [], _, _, _ => rfl
  | p :: r, z :: zs, acc, nm, h => by
    rw [List.map_cons, List.mem_cons, not_or] at h
    show valV (mergeK (putK acc (.inr p.1) (.ref z)) (ownK r zs)) (.inr nm) = _
    rw [own_out r zs _ nm h.2, valV_put, if_neg fun e => h.1 (Sum.inr.inj e)]
theorem own_in : ∀ (st : List St1) (zs : List Addr) (acc : List (Key × V)) (i : Nat) (p : St1) (z : Addr), (st.map (·.1)).Nodup → st[i]? = some p → zs[i]? = some z → valV (mergeK acc (ownK st zs)) (.inr p.1) = some (.ref z)
  | [], _, _, _, _, _, _, h, _ => by cases h
  | q :: r, [], _, _, _, _, _, _, h => by cases h
  | q :: r, y :: zs, acc, 0, p, z, n, h1, h2 => by
    obtain rfl : q = p := Option.some.inj h1
    obtain rfl : y = z := Option.some.inj h2
    rw [List.map_cons, List.nodup_cons] at n
    show valV (mergeK (putK acc (.inr q.1) (.ref y)) (ownK r zs)) (.inr q.1) = _
    rw [own_out r zs _ q.1 n.1, valV_put, if_pos rfl]
  | q :: r, y :: zs, acc, i + 1, p, z, n, h1, h2 => by
    rw [List.map_cons, List.nodup_cons] at n
    exact own_in r zs (putK acc (.inr q.1) (.ref y)) i p z n.2 h1 h2
theorem sdt_pairs {K : PySem.W.Frag} {H : Hp} : ∀ (ys : List V) (st : List St1), ys.length = st.length → (∀ (i : Nat) y p, ys[i]? = some y → st[i]? = some p → SdT K H y p) →
    ∃ (ps zs : List Addr), ys = ps.map V.ref ∧ zs.length = st.length ∧ Paired (fun p kv => SqT K H p [kV kv.1, kv.2]) ps (ownK st zs) ∧ ∀ (i : Nat) z p, zs[i]? = some z → st[i]? = some p → SqT K H z p.2
  | [], [], _, _ => ⟨[], [], rfl, rfl, .nil, fun i z p h => by cases h⟩
  | y :: ys, p :: st, hl, h => by
    obtain ⟨yp, zp, rfl, h1, h2, _⟩ := h 0 y p rfl rfl
    obtain ⟨ps, zs, e, e2, e3, e4⟩ := sdt_pairs ys st (Nat.succ.inj hl) fun i y p a b => h (i + 1) y p a b
    refine ⟨yp :: ps, zp :: zs, by rw [e]; rfl, by rw [List.length_cons, e2]; rfl, .cons h1 e3, fun i z q a b => ?_⟩
    cases i with
    | zero => cases a; cases b; exact h2
    | succ i => exact e4 i z q a b
/-! ### the steps that were found -/
theorem names_ok {xs : List V} (h : xs.all AtomV = true) (u : Str) (hu : u ∈ namesL xs) : PyData.strOk u = true := by
  unfold namesL at hu
  split at hu
  · split at hu
    · rw [List.mem_filterMap] at hu
      obtain ⟨v, hv, e⟩ := hu
      have a := List.all_eq_true.mp h v (List.mem_cons_of_mem _ (List.mem_of_mem_take hv))
      cases v <;> try (cases e)
      unfold AtomV at a
      simp only [Bool.and_eq_true] at a
      exact a.2
    · cases hu
  · cases hu
def tDue (K : PySem.W.Frag) : TE := fun σ H Q => ∃ (p Fo : Addr) (x1 x2 x4 : V) (y5 y6 y7 : Option V) (ys : List V) (st : List St1) (fs : List Str), σ = [some (.ref p), some x1, some x2, some (.ref Fo), some x4, y5, y6, y7] ∧ SqL K H p ys ∧ H Fo = some (.lst (fs.map V.str)) ∧ ys.length = st.length ∧ st.length ≤ 60 ∧
  (∀ (i : Nat) y p, ys[i]? = some y → st[i]? = some p → SdT K H y p) ∧ ∀ (H' : Hp) (l : Addr) (zs : List V), Same H H' → H l = none → H' l = some (.lst zs) → zs.length = (st.filter fun p => decide (p.1 ∈ fs)).length →
    (∀ (i : Nat) z p, zs[i]? = some z → (st.filter fun p => decide (p.1 ∈ fs))[i]? = some p → SdT K H' z p) → Q (.ref l) H'
def spHung (K : PySem.W.Frag) : Sp := fun vs H Q _ => ∃ (p m : Addr) (ys : List V) (st : List St1) (ns : List Str), vs = [.ref p, .ref m] ∧ SqL K H p ys ∧ SqL K H m (ns.map V.str) ∧ ys.length = st.length ∧ st.length ≤ 60 ∧ ns.length ≤ 90 ∧ (∀ x ∈ ns, PyData.strOk x = true) ∧
  (∀ (i : Nat) y p, ys[i]? = some y → st[i]? = some p → SdT K H y p) ∧ goesB (st.map sdOf) sheetL = true ∧ ∀ (H' : Hp) (l : Addr) (zs : List V), Same H H' → H l = none → H' l = some (.lst zs) → zs.length = (st.filter fun p => decide (p.1 ∈ backW st ns)).length →
    (∀ (i : Nat) z p, zs[i]? = some z → (st.filter fun p => decide (p.1 ∈ backW st ns))[i]? = some p → SdT K H' z p) → Q (.ref l) H'
section
variable {P : Program} {w : World} {K : PySem.W.Frag} {mg : Str → Option Value} {base : Heap}
def hungN : List Str := ["steps", "names", "own", "found", "todo", "turn", "name", "deed"]
theorem scHg : FnScope hungN ["steps", "names"] (defScope sHung) := ⟨rfl, rfl, rfl, by decide +kernel, rfl, by decide +kernel, by decide +kernel⟩
theorem ok_hung {f fD : Addr} {fd fdD : FuncData} (F : Fun K "_law_hung" "_law_hung" sHung f fd) (FD : Fun K "_law_deed_names" "_law_deed_names" sLDeedNames fD fdD) (GD : FnOk P w K mg base CX0 2 fD fdD ["deed"] (spLDN K)) (bD : Binds K fdD ["deed"] []) (gD : mg "_law_deed_names" = some (.ref fD))
    (md : mg "dict" = none) (mli : mg "list" = none) (mr : mg "range" = none) (mlen : mg "len" = none) : FnOk P w K mg base CX0 3 f fd ["steps", "names"] (spHung K) := by
  refine F.ok scHg (fun vs H Q E h => ?_) (fun cdv A outer s H vs Q E hr h => ?_)
  · obtain ⟨p, m, ys, st, ns, rfl, _⟩ := h
    rfl
  · obtain ⟨p, m, ys, st, ns, rfl, hp, hm, hl, hl60, hnl, hno, hst, hg, q⟩ := h
    have hu := hu_of (hr.mono (Nat.zero_le _) : Room 0 _)
    refine ⟨_, pss_cons (ps_asg (pe_tup (pa_cons (pe_callTy (call_dictP rfl) (by rfl) md (by decide +kernel) (pa_cons (pv 0) pa_nil)) (pa_cons (pe_lst pa_nil) (pa_cons (pe_callTy call_list_of (by rfl) mli (by decide +kernel) (pa_cons (pv 1) pa_nil)) pa_nil))))
        (pg_tup (by rfl) (pgs_cons (pg_name (i := 2) scHg.nd rfl (.inl rfl)) (pgs_cons (pg_name (i := 3) scHg.nd rfl (.inr rfl)) (pgs_cons (pg_name (i := 4) scHg.nd rfl (.inl rfl)) pgs_nil)))))
      (pss_cons (ps_for PassesOwn.never rfl (pi_range1 (by rfl) mr (pa_cons (pe_op op_add (pe_callB call_len_seq (by rfl) mlen PySem.boot_len (pa_cons (pv 1) pa_nil)) (pe_op op_mul pe_int (pe_callB call_len_seq (by rfl) mlen PySem.boot_len (pa_cons (pv 0) pa_nil)))) pa_nil)) (pg_name (i := 5) scHg.nd rfl (.inl rfl))
        (pss_cons (ps_if (pt_cmpR (op_eqD hr.units) (pv 4) (pe_lst pa_nil) (nomark _)) (pss_one ps_break) pss_nil)
        (pss_cons (ps_set (i := 6) scHg.nd rfl (.inl rfl) (pe_bm0 PySem.F.plainAttrs_list PySem.F.slot_list_pop PySem.F.type_list_pop mt_pop (pv 4)))
        (pss_one (ps_if (PW.pt (pw_and (pt_cmp (pc_din hu (pv 6) (pv 2))) (pw_and1 (pt_cmpR (show OpR _ (compareOp .NotIn) (rIn K true) from op_notIn_seq) (pv 6) (pv 3) (by rfl)))))
          (pss_cons (ps_expr (pe_bm PySem.F.plainAttrs_list PySem.F.slot_list_append PySem.F.type_list_append mt_append (pv 3) (pa_cons (pv 6) pa_nil)))
          (pss_one (ps_expr (pe_bm PySem.F.plainAttrs_list PySem.F.slot_list_extend PySem.F.type_list_extend mt_extend (pv 4) (pa_cons (pe_call GD hr (by rfl) gD FD.kp bD .nil pass0 (pa_cons (pe_dget hu (pv 2) (pv 6) (fun _ _ => rfl)) pa_nil)) pa_nil))))) pss_nil)))))
      (pss_one (ps_ret (pe_weak (t' := tDue K) (pe_lc (own := [("name", 6), ("deed", 7)]) (g := gTup K 2 (gCons (gName 6) (gCons (gName 7) gNil))) rfl scHg.nd (pi_list (pv 0))
          (blkOk_by (own := [("name", 6), ("deed", 7)]) (N := hungN) (sc := defScope sHung) (by decide +kernel))
          (fun _ _ _ _ _ => pg_tup (by rfl) (pgs_cons (pg_name (i := 6) scHg.nd rfl (.inl rfl)) (pgs_cons (pg_name (i := 7) scHg.nd rfl (.inl rfl)) pgs_nil)))
          (fun _ _ _ _ _ => pts_one (pt_cmpR (show OpR _ (compareOp .In) (rIn K false) from op_in_seq) (pv 6) (pv 3) (by rfl)))
          (fun _ _ _ _ _ => pe_tup (pa_cons (pv 6) (pa_cons (pv 7) pa_nil)))) ?due)))), ?_⟩
    case due =>
      rintro σ H1 Q1 ⟨p, Fo, x1, x2, x4, y5, y6, y7, ys, st, fs, rfl, hp, hF, hl, hl60, hst, q1⟩
      refine ⟨_, rfl, p, rfl, ⟨_, hp⟩, fun R nR => ?_⟩
      have FR : Fo ≠ R := ne_of_none hF nR
      refine lc_list (K := K) (a := p) (xs := ys) (fun i H' => ∃ zs : List V, H' R = some (.lst zs) ∧ Same H1 H' ∧ zs.length = ((st.take i).filter fun p => decide (p.1 ∈ fs)).length ∧ ∀ (j : Nat) z p, zs[j]? = some z → ((st.take i).filter fun p => decide (p.1 ∈ fs))[j]? = some p → SdT K H' z p)
        ⟨[], upd_same, same_upd nR, rfl, fun j z p h => by cases h⟩ (fun i H' _ ⟨_, _, sm, _⟩ => sm.seq hp) ?_ ?_
      · rintro i y H2 hy ⟨zs, hR, sm, hzl, hz⟩
        have his : i < st.length := by
          have := (List.getElem?_eq_some_iff.mp hy).1
          omega
        have hs : st[i]? = some st[i] := List.getElem?_eq_getElem his
        generalize st[i] = si at hs
        obtain ⟨yp, zp, rfl, h1, h2, h3⟩ := (hst i y si hy hs).tk (TK.of sm)
        have et : st.take (i + 1) = st.take i ++ [si] := by rw [List.take_succ, hs]; rfl
        refine ⟨yp, _, rfl, h1, rfl, _, _, rfl, _, _, rfl, rfl, rfl, _, rfl, _, rfl, Fo, fs.map V.str, rfl, .inl (.inl (.inl (sm _ _ hF))), rfl, strs_flat _, _, rfl, ?_⟩
        show if inV (.str si.1) (fs.map V.str) = true then _ else _
        rw [inV_kn]
        by_cases hin : si.1 ∈ fs
        · refine iteT2 (decide_eq_true hin) ⟨_, rfl, _, rfl, by show 2 ≤ sizeLine; decide, fun t nt => ?_⟩
          have tR : R ≠ t := ne_of_none hR nt
          have ef : (st.take (i + 1)).filter (fun p => decide (p.1 ∈ fs)) = (st.take i).filter (fun p => decide (p.1 ∈ fs)) ++ [si] := by
            rw [et, List.filter_append]
            simp [hin]
          have hR2 : (upd H2 t (.tup [.str si.1, .ref zp])) R = some (.lst zs) := (upd_ne tR).trans hR
          have zl : zs.length ≤ 60 := by
            rw [hzl]
            refine Nat.le_trans (List.length_filter_le _ _) ?_
            rw [List.length_take]
            omega
          have tk1 : TK K H2 (upd H2 t (.tup [.str si.1, .ref zp])) := TK.of (same_upd nt)
          have tk2 := TK.put (K := K) (o := .lst (zs ++ [.ref t])) hR2
          refine ⟨_, hR2, small1000 (by omega), zs ++ [.ref t], upd_same, same_put (sm.trans (same_upd nt)) nR, ?_, ?_⟩
          · rw [ef, List.length_append, List.length_append, hzl]
            rfl
          · intro j z p hz1 hp1
            rw [ef] at hp1
            by_cases hj : j < zs.length
            · rw [List.getElem?_append_left hj] at hz1
              rw [List.getElem?_append_left (by omega)] at hp1
              exact ((hz j z p hz1 hp1).tk tk1).tk tk2
            · rw [List.getElem?_append_right (by omega)] at hz1 hp1
              have ej : j - zs.length = 0 := by
                have := (List.getElem?_eq_some_iff.mp hz1).1
                have e1 : ([V.ref t] : List V).length = 1 := rfl
                omega
              rw [← hzl, ej] at hp1
              rw [ej] at hz1
              cases hz1
              cases hp1
              exact ⟨t, zp, rfl, tk2 _ _ (.inl (.inl upd_same)), tk2 _ _ (tk1 _ _ h2), h3⟩
        · have ef : (st.take (i + 1)).filter (fun p => decide (p.1 ∈ fs)) = (st.take i).filter (fun p => decide (p.1 ∈ fs)) := by
            rw [et, List.filter_append]
            simp [hin]
          refine iteF2 (decide_eq_false hin) ⟨zs, hR, sm, by rw [ef]; exact hzl, fun j z p h1 h2 => ?_⟩
          rw [ef] at h2
          exact hz j z p h1 h2
      · rintro H2 ⟨zs, hR, sm, hzl, hz⟩
        rw [hl, List.take_length] at hzl hz
        exact q1 H2 R zs sm nR hR hzl hz
    obtain ⟨ps, zs, rfl, hzl, hpair, hzs⟩ := sdt_pairs ys st hl hst
    have nd := goes_nodup st _ hg
    refine ⟨_, rfl, p, ps, ownK st zs, rfl, hp, hpair, fun O nO => ?_⟩
    generalize hOW : mergeK [] (ownK st zs) = ow
    have ow_out : ∀ nm, nm ∉ st.map (·.1) → valV ow (.inr nm) = none := fun nm h => by rw [← hOW, own_out st zs [] nm h]; rfl
    have ow_in : ∀ nm, nm ∈ st.map (·.1) → ∃ q zz, q ∈ st ∧ q.1 = nm ∧ valV ow (.inr nm) = some (.ref zz) ∧ SqT K H zz q.2 := fun nm h => by
      obtain ⟨q, hq, rfl⟩ := List.mem_map.mp h
      obtain ⟨i, hi, e⟩ := List.getElem_of_mem hq
      have e1 : st[i]? = some q := by rw [List.getElem?_eq_getElem hi, e]
      have e2 : zs[i]? = some (zs[i]'(by omega)) := List.getElem?_eq_getElem (by omega)
      exact ⟨q, _, hq, rfl, by rw [← hOW]; exact own_in st zs [] i q _ nd e1 e2, hzs i _ q e2 e1⟩
    refine ⟨Nat.zero_le _, fun Fo nF => ?_⟩
    have OF : O ≠ Fo := fun z => by rw [← z, upd_same] at nF; cases nF
    have S2 : Same H (upd (upd H O (.dK ow)) Fo (.lst [])) := (same_upd nO).trans (same_upd nF)
    refine ⟨_, rfl, m, ns.map V.str, rfl, .inl (S2.seq hm), fun Td nT => ?_⟩
    have OT : O ≠ Td := fun z => by rw [← z, upd_ne OF, upd_same] at nT; cases nT
    have FT : Fo ≠ Td := fun z => by rw [← z, upd_same] at nT; cases nT
    have nF0 : H Fo = none := PySem.Spec.same_none (same_upd nO) nF
    have nT0 : H Td = none := PySem.Spec.same_none S2 nT
    have S3 := S2.trans (same_upd (o := .lst (ns.map V.str)) nT)
    refine ⟨by show 3 ≤ sizeLine; decide, fun t nt => ?_⟩
    have hO3 : (upd (upd (upd H O (.dK ow)) Fo (.lst [])) Td (.lst (ns.map V.str))) O = some (.dK ow) := (upd_ne OT).trans ((upd_ne OF).trans upd_same)
    have hF3 : (upd (upd (upd H O (.dK ow)) Fo (.lst [])) Td (.lst (ns.map V.str))) Fo = some (.lst []) := (upd_ne FT).trans upd_same
    have hT3 : (upd (upd (upd H O (.dK ow)) Fo (.lst [])) Td (.lst (ns.map V.str))) Td = some (.lst (ns.map V.str)) := upd_same
    generalize upd (upd (upd H O (.dK ow)) Fo (.lst [])) Td (.lst (ns.map V.str)) = H3 at nt S3 hO3 hF3 hT3
    have S4 := S3.trans (same_upd (o := .tup [.ref O, .ref Fo, .ref Td]) nt)
    refine ⟨t, _, rfl, .inl (.inl upd_same), rfl, _, _, rfl, _, _, rfl, _, _, rfl, rfl, ?_⟩
    have fin : ∀ (y5 y6 : Option V) (fs : List Str) (H' : Hp), Same H H' → H' Fo = some (.lst (fs.map V.str)) → (∀ z ∈ fs, z ∈ backW st ns) → (∀ z ∈ ns, z ∈ st.map (·.1) → z ∈ fs) → (∀ p ∈ st, p.1 ∈ fs → ∀ u ∈ namesL p.2, u ∈ st.map (·.1) → u ∈ fs) →
        tDue K [some (.ref p), some (.ref m), some (.ref O), some (.ref Fo), some (.ref Td), y5, y6, none] H' Q := by
      intro y5 y6 fs H' sm hF hA hB hC
      have same : (st.filter fun p => decide (p.1 ∈ fs)) = st.filter fun p => decide (p.1 ∈ backW st ns) := by
        refine List.filter_congr fun q hq => ?_
        rw [decide_eq_decide]
        exact ⟨fun h => hA _ h, fun h => back_least (S := fun z => z ∈ fs) hB hC st (fun _ h => h) q.1 h (List.mem_map.mpr ⟨q, hq, rfl⟩)⟩
      refine ⟨p, Fo, _, _, _, _, _, _, _, st, fs, rfl, sm.seq hp, hF, hl, hl60, fun i y p a b => (hst i y p a b).tk (TK.of sm), fun H2 l xs sm2 nl h1 h2 h3 => ?_⟩
      rw [same] at h2 h3
      exact q H2 l xs (sm.trans sm2) (PySem.Spec.same_none sm nl) h1 h2 h3
    refine ⟨_, rfl, m, _, rfl, .inl (S4.seq hm), _, rfl, p, _, rfl, .inl (S4.seq hp), _, _, rfl, rfl, .inl ⟨?_, ?_⟩, _, _, rfl, rfl, _, rfl, ?_, ?_, ?_⟩
    · omega
    · omega
    · have := hnl; omega
    · rw [List.length_map, hl]; omega
    refine for_range (lo := 0) (fun i σ H' => ∃ (y5 y6 : Option V) (fs ts : List Str), σ = [some (.ref p), some (.ref m), some (.ref O), some (.ref Fo), some (.ref Td), y5, y6, none] ∧ Same H H' ∧ H' O = some (.dK ow) ∧ H' Fo = some (.lst (fs.map V.str)) ∧ H' Td = some (.lst (ts.map V.str)) ∧
        fs.Nodup ∧ (∀ z ∈ fs, z ∈ st.map (·.1)) ∧ (∀ z ∈ fs, z ∈ backW st ns) ∧ (∀ z ∈ ts, z ∈ backW st ns ∧ PyData.strOk z = true) ∧ (∀ z ∈ ns, z ∈ st.map (·.1) → z ∈ fs ∨ z ∈ ts) ∧ (∀ p ∈ st, p.1 ∈ fs → ∀ u ∈ namesL p.2, u ∈ st.map (·.1) → u ∈ fs ∨ u ∈ ts) ∧ ts.length + i ≤ ns.length + 5 * fs.length)
      ⟨none, none, [], ns, rfl, S4, (upd_ne (ne_of_none hO3 nt)).trans hO3, (upd_ne (ne_of_none hF3 nt)).trans hF3, (upd_ne (ne_of_none hT3 nt)).trans hT3, List.nodup_nil, fun _ h => absurd h List.not_mem_nil, fun _ h => absurd h List.not_mem_nil, fun z h => ⟨back_names st ns z h, hno z h⟩, fun z h _ => .inr h, fun p _ h => absurd h List.not_mem_nil, by omega⟩ ?_ ?_
    · rintro i σ H5 hi ⟨y5, y6, fs, ts, rfl, sm, hO, hF, hT, fnd, fown, fA, tA, hB, hC, hD⟩
      have fl : fs.length ≤ st.length := by
        have := nodup_le _ _ fnd fown
        rwa [List.length_map] at this
      refine ⟨_, rfl, Nat.zero_le _, fun e ne => ?_⟩
      have hO6 := (upd_ne (o := .lst []) (ne_of_none hO ne)).trans hO
      have hF6 := (upd_ne (o := .lst []) (ne_of_none hF ne)).trans hF
      have hT6 := (upd_ne (o := .lst []) (ne_of_none hT ne)).trans hT
      have sm6 := sm.trans (same_upd (o := .lst []) ne)
      refine ⟨_, _, dp_strs (.inl (.inl hT6)), dp_nil upd_same, shaped_strs (fun x hx => (tA x hx).2), shaped_nil, _, rfl, ?_⟩
      rw [eqv_nil]
      generalize upd H5 e (.lst []) = H6 at hO6 hF6 hT6 sm6
      rcases List.eq_nil_or_concat ts with rfl | ⟨us, z, rfl⟩
      · refine iteT2 rfl ?_
        exact fin _ _ fs H6 sm6 hF6 fA (fun z h1 h2 => (hB z h1 h2).resolve_right List.not_mem_nil) fun p h1 h2 u h3 h4 => (hC p h1 h2 u h3 h4).resolve_right List.not_mem_nil
      · rw [List.concat_eq_append] at hT6 tA hB hC hD ⊢
        refine iteF2 (by simp) ?_
        refine ⟨_, rfl, .inl ⟨rfl, _, .inl (.inl hT6)⟩, Td, _, .str z, rfl, rfl, hT6, by simp, ?_⟩
        have edl : ((us ++ [z]).map V.str).dropLast = us.map V.str := by rw [List.map_append]; exact List.dropLast_concat
        rw [edl]
        have hO7 : (upd H6 Td (.lst (us.map V.str))) O = some (.dK ow) := (upd_ne OT).trans hO6
        have hF7 : (upd H6 Td (.lst (us.map V.str))) Fo = some (.lst (fs.map V.str)) := (upd_ne FT).trans hF6
        have hT7 : (upd H6 Td (.lst (us.map V.str))) Td = some (.lst (us.map V.str)) := upd_same
        have sm7 : Same H (upd H6 Td (.lst (us.map V.str))) := same_put sm6 nT0
        generalize upd H6 Td (.lst (us.map V.str)) = H7 at hO7 hF7 hT7 sm7
        have hz := tA z (List.mem_append_right _ List.mem_cons_self)
        have tA' : ∀ z ∈ us, z ∈ backW st ns ∧ PyData.strOk z = true := fun x hx => tA x (List.mem_append_left _ hx)
        have ul : us.length + 1 + i ≤ ns.length + 5 * fs.length := by rwa [List.length_append] at hD
        have skip : (z ∈ st.map (·.1) → z ∈ fs) → ∃ (y5 y6 : Option V) (fs ts : List Str), [some (V.ref p), some (.ref m), some (.ref O), some (.ref Fo), some (.ref Td), some (.int (0 + (i : Int))), some (.str z), none] = [some (.ref p), some (.ref m), some (.ref O), some (.ref Fo), some (.ref Td), y5, y6, none] ∧ Same H H7 ∧ H7 O = some (.dK ow) ∧ H7 Fo = some (.lst (fs.map V.str)) ∧ H7 Td = some (.lst (ts.map V.str)) ∧
            fs.Nodup ∧ (∀ z ∈ fs, z ∈ st.map (·.1)) ∧ (∀ z ∈ fs, z ∈ backW st ns) ∧ (∀ z ∈ ts, z ∈ backW st ns ∧ PyData.strOk z = true) ∧ (∀ z ∈ ns, z ∈ st.map (·.1) → z ∈ fs ∨ z ∈ ts) ∧ (∀ p ∈ st, p.1 ∈ fs → ∀ u ∈ namesL p.2, u ∈ st.map (·.1) → u ∈ fs ∨ u ∈ ts) ∧ ts.length + (i + 1) ≤ ns.length + 5 * fs.length := by
          intro hin
          have drop : ∀ x, x ∈ st.map (·.1) → (x ∈ fs ∨ x ∈ us ++ [z]) → x ∈ fs ∨ x ∈ us := fun x ho h => by
            rcases h with h | h
            · exact .inl h
            · rcases List.mem_append.mp h with h | h
              · exact .inr h
              · exact .inl (hin (List.mem_singleton.mp h ▸ ho) |> fun q => List.mem_singleton.mp h ▸ q)
          exact ⟨_, _, fs, us, rfl, sm7, hO7, hF7, hT7, fnd, fown, fA, tA', fun x h1 h2 => drop x h2 (hB x h1 h2), fun p h1 h2 u h3 h4 => drop u h4 (hC p h1 h2 u h3 h4), by omega⟩
        have g7 : DGet H7 O (.str z) (valV ow (.inr z)) := DGet.k (k := (.inr z : Key)) hO7
        refine ⟨_, rfl, _, rfl, O, _, rfl, g7, _, rfl, ?_⟩
        by_cases hown : z ∈ st.map (·.1)
        · obtain ⟨s0, zz, hs0, es0, ev, hzz⟩ := ow_in z hown
          rw [ev] at g7 ⊢
          refine iteT2 rfl ⟨_, rfl, _, rfl, Fo, fs.map V.str, rfl, .inl (.inl (.inl hF7)), rfl, strs_flat _, _, rfl, ?_⟩
          show if (!inV (.str z) (fs.map V.str)) = true then _ else _
          rw [inV_kn]
          by_cases hfz : z ∈ fs
          · exact iteF2 (by rw [decide_eq_true hfz]; rfl) (skip fun _ => hfz)
          · refine iteT2 (by rw [decide_eq_false hfz]; rfl) ?_
            refine ⟨_, rfl, .inl ⟨rfl, _, .inl (.inl hF7)⟩, _, rfl, Fo, _, _, rfl, rfl, hF7, by rw [List.length_map]; exact small1000 (by omega), ?_⟩
            have hO8 : (upd H7 Fo (.lst (fs.map V.str ++ [.str z]))) O = some (.dK ow) := (upd_ne OF).trans hO7
            have hF8 : (upd H7 Fo (.lst (fs.map V.str ++ [.str z]))) Fo = some (.lst ((fs ++ [z]).map V.str)) := by rw [upd_same, List.map_append]; rfl
            have hT8 : (upd H7 Fo (.lst (fs.map V.str ++ [.str z]))) Td = some (.lst (us.map V.str)) := (upd_ne FT.symm).trans hT7
            have sm8 : Same H (upd H7 Fo (.lst (fs.map V.str ++ [.str z]))) := same_put sm7 nF0
            generalize upd H7 Fo (.lst (fs.map V.str ++ [.str z])) = H8 at hO8 hF8 hT8 sm8
            have g8 : DGet H8 O (.str z) (some (.ref zz)) := ev ▸ DGet.k (k := (.inr z : Key)) hO8
            obtain ⟨j, hj, ej⟩ := List.getElem_of_mem hs0
            have e1 : st[j]? = some s0 := by rw [List.getElem?_eq_getElem hj, ej]
            obtain ⟨_, _, _, _, _, hat, _⟩ := hst j _ s0 (List.getElem?_eq_getElem (by omega)) e1
            have hdl := (goes_deeds st _ hg s0 hs0).1
            obtain ⟨w0, r, k, exs, hf, hall, _⟩ := word_of hdl
            have hzz8 : SqT K H8 zz (.str w0 :: r) := exs ▸ sqT_same hzz sm8
            have enames : namesL s0.2 = (r.take k).filterMap txtOf := by rw [exs, names_is hf]
            have etake : r.take k = (namesL s0.2).map V.str := by
              rw [enames]
              clear exs hzz8 enames
              generalize r.take k = rr at hall
              induction rr with
              | nil => rfl
              | cons v rr ih =>
                rw [List.all_cons, Bool.and_eq_true] at hall
                cases v with
                | str u => exact congrArg (V.str u :: ·) (ih hall.2)
                | _ => exact absurd hall.1 (by simp [nameV, txtOf, nameO])
            refine ⟨_, rfl, .inl ⟨rfl, _, .inl (.inl hT8)⟩, _, rfl, _, rfl, O, .ref zz, rfl, g8, zz, w0, r, k, rfl, hzz8, hf, fun H9 l sm9 nl hl9 => ?_⟩
            have nlen : (namesL s0.2).length ≤ 5 := by
              have e2 := (formOf_small hf).2
              have := congrArg List.length etake
              rw [List.length_map, List.length_take] at this
              omega
            have hT9 := sm9 _ _ hT8
            refine ⟨Td, l, _, _, rfl, rfl, hT9, hl9, ?_, ?_⟩
            · rw [List.length_map, etake, List.length_map]
              exact Nat.le_of_lt (small1000 (by omega))
            have inB : ∀ u ∈ namesL s0.2, u ∈ backW st ns := back_closed st sheetL ns hg s0 hs0 (es0 ▸ hz.1)
            have grow : ∀ x, (x ∈ fs ∨ x ∈ us ++ [z]) → x ∈ fs ++ [z] ∨ x ∈ us ++ namesL s0.2 := fun x h => by
              rcases h with h | h
              · exact .inl (List.mem_append_left _ h)
              · rcases List.mem_append.mp h with h | h
                · exact .inr (List.mem_append_left _ h)
                · exact .inl (List.mem_append_right _ h)
            refine ⟨_, _, fs ++ [z], us ++ namesL s0.2, rfl, same_put (sm8.trans sm9) nT0, (upd_ne OT).trans (sm9 _ _ hO8), (upd_ne FT).trans (sm9 _ _ hF8), by rw [upd_same, etake, List.map_append], ?_, ?_, ?_, ?_, fun x h1 h2 => grow x (hB x h1 h2), ?_, ?_⟩
            · rw [List.nodup_append]
              exact ⟨fnd, List.nodup_cons.mpr ⟨List.not_mem_nil, List.nodup_nil⟩, fun x hx y hy e => hfz (List.mem_singleton.mp hy ▸ e ▸ hx)⟩
            · intro x hx
              rcases List.mem_append.mp hx with hx | hx
              · exact fown x hx
              · exact List.mem_singleton.mp hx ▸ hown
            · intro x hx
              rcases List.mem_append.mp hx with hx | hx
              · exact fA x hx
              · exact List.mem_singleton.mp hx ▸ hz.1
            · intro x hx
              rcases List.mem_append.mp hx with hx | hx
              · exact tA' x hx
              · exact ⟨inB x hx, N15.names_ok hat x hx⟩
            · intro p0 h1 h2 u h3 h4
              rcases List.mem_append.mp h2 with h2 | h2
              · exact grow u (hC p0 h1 h2 u h3 h4)
              · have : p0 = s0 := same_name st nd p0 h1 s0 hs0 ((List.mem_singleton.mp h2).trans es0.symm)
                subst this
                exact .inr (List.mem_append_right _ h3)
            · rw [List.length_append, List.length_append]
              show us.length + (namesL s0.2).length + (i + 1) ≤ ns.length + 5 * (fs.length + 1)
              omega
        · rw [ow_out z hown]
          exact iteF2 rfl (iteF (skip fun h => absurd h hown))
    · rintro σ H5 ⟨y5, y6, fs, ts, rfl, sm, hO, hF, hT, fnd, fown, fA, tA, hB, hC, hD⟩
      have fl : fs.length ≤ st.length := by
        have := nodup_le _ _ fnd fown
        rwa [List.length_map] at this
      have t0 : ts = [] := by
        rw [List.length_map, hl] at hD
        exact List.length_eq_zero_iff.mp (by omega)
      subst t0
      exact fin _ _ fs H5 sm hF fA (fun z h1 h2 => (hB z h1 h2).resolve_right List.not_mem_nil) fun p h1 h2 u h3 h4 => (hC p h1 h2 u h3 h4).resolve_right List.not_mem_nil
end
end N15

set_option Elab.async false
set_option linter.all false
set_option maxRecDepth 100000
set_option maxHeartbeats 2000000
namespace N16
open PySem PySem.Spec PyProof.Rows L2 Cau Dr27 N1 N2 N3 N4 N5 N6 N7 N8 N9 N10 N11 N12 N13 N14 N15 TxtSet
abbrev sParts : Stmt := topS 50
theorem cut_sub (xs : List V) (lo hi : Option Int) : (cutV xs lo hi).Sublist xs := (List.take_sublist _ _).trans (List.drop_sublist _ _)
theorem cut_top (xs : List V) (k : Nat) : (cutV xs none (some (k : Int))).length ≤ k := by
  unfold cutV
  rw [HT.sIx_none, HT.sIx_nat, List.length_take]
  omega
/-- lists of parts of these -/
def PartsOf (H : Hp) (ys : List V) (qs : List V) : Prop := ∀ q ∈ qs, ∃ (a : Addr) (sub : List V), q = .ref a ∧ H a = some (.lst sub) ∧ sub.Sublist ys
theorem PartsOf.same {H H' : Hp} {ys qs : List V} (h : PartsOf H ys qs) (s : Same H H') : PartsOf H' ys qs := fun q hq => by
  obtain ⟨a, sub, e, h1, h2⟩ := h q hq
  exact ⟨a, sub, e, s _ _ h1, h2⟩
def spParts (K : PySem.W.Frag) : Sp := fun vs H Q _ => ∃ (p : Addr) (ys : List V), vs = [.ref p] ∧ SqL K H p ys ∧
  ∀ (H' : Hp) (l : Addr) (qs : List V), Same H H' → H l = none → H' l = some (.lst qs) → qs.length ≤ 64 → PartsOf H' ys qs → Q (.ref l) H'
section
variable {P : Program} {w : World} {K : PySem.W.Frag} {mg : Str → Option Value} {base : Heap}
def partsN : List Str := ["steps", "found", "step", "part"]
theorem scPt : FnScope partsN ["steps"] (defScope sParts) := ⟨rfl, rfl, rfl, by decide +kernel, rfl, by decide +kernel, by decide +kernel⟩
theorem ok_parts {f : Addr} {fd : FuncData} (F : Fun K "_law_parts" "_law_parts" sParts f fd) : FnOk P w K mg base CX0 1 f fd ["steps"] (spParts K) := by
  refine F.ok scPt (fun vs H Q E h => ?_) (fun cdv A outer s H vs Q E hr h => ?_)
  · obtain ⟨p, ys, rfl, _⟩ := h
    rfl
  · obtain ⟨p, ys, rfl, hp, q⟩ := h
    refine ⟨_, pss_cons (ps_set (i := 1) scPt.nd rfl (.inl rfl) (pe_lst (pa_cons (pe_lst pa_nil) pa_nil)))
      (pss_cons (ps_for PassesOwn.never rfl (pi_list (pe_slice sl_list (pv 0) po_none (po_some pe_int))) (pg_name (i := 2) scPt.nd rfl (.inr rfl))
        (pss_one (ps_set (i := 1) scPt.nd rfl (.inl rfl) (pe_op op_cat (pv 1)
          (pe_lc (own := [("part", 3)]) (g := gName 3) (tt := tYes) rfl scPt.nd (pi_list (pv 1))
            (blkOk_by (own := [("part", 3)]) (N := partsN) (sc := defScope sParts) (by decide +kernel))
            (fun _ _ _ _ _ => pg_name (i := 3) scPt.nd rfl (.inl rfl)) (fun _ _ _ _ _ => pts_nil)
            (fun _ _ _ _ _ => pe_op op_cat (pv 3) (pe_lst (pa_cons (pv 2) pa_nil))))))))
      (pss_one (ps_ret (pe_slice sl_list (pv 1) po_none (po_some pe_int))))), ?_⟩
    refine ⟨Nat.zero_le _, fun l0 n0 => ⟨by show 1 ≤ sizeLine; decide, fun L nL => ?_⟩⟩
    have l0L : l0 ≠ L := fun z => by rw [← z, upd_same] at nL; cases nL
    have S1 : Same H (upd (upd H l0 (.lst [])) L (.lst [.ref l0])) := (same_upd n0).trans (same_upd nL)
    have nL0 : H L = none := PySem.Spec.same_none (same_upd n0) nL
    refine ⟨_, rfl, 6, rfl, p, ys, rfl, S1.seq hp, fun M nM => ?_⟩
    have hzs := cut_sub ys none (some 6)
    have hz6 : (cutV ys none (some 6)).length ≤ 6 := cut_top ys 6
    generalize cutV ys none (some 6) = zs at hzs hz6
    have LM : L ≠ M := fun z => by rw [← z, upd_same] at nM; cases nM
    have l0M : l0 ≠ M := fun z => by rw [← z, upd_ne l0L, upd_same] at nM; cases nM
    have S2 := S1.trans (same_upd (o := .lst zs) nM)
    refine ⟨M, rfl, ⟨zs, .inl (.inl upd_same)⟩, ?_⟩
    refine for_list (K := K) (a := M) (xs := zs) (fun i σ H' => ∃ (y2 : Option V) (L' : Addr) (qs : List V), σ = [some (.ref p), some (.ref L'), y2, none] ∧ Same H H' ∧ H L' = none ∧ H' M = some (.lst zs) ∧ H' L' = some (.lst qs) ∧ qs.length ≤ 2 ^ i ∧ PartsOf H' (zs.take i) qs)
      ⟨none, L, [.ref l0], rfl, S2, nL0, upd_same, (upd_ne LM).trans upd_same, by simp, ?_⟩ (fun i σ H' _ ⟨_, _, _, _, _, _, h, _⟩ => .inl (.inl h)) ?_ ?_
    · intro x hx
      rw [List.mem_singleton] at hx
      exact ⟨l0, [], hx, (upd_ne l0M).trans ((upd_ne l0L).trans upd_same), List.nil_sublist _⟩
    · rintro i y σ H3 hy ⟨y2, L', qs, rfl, sm, nL', hM, hL, hql, hq⟩
      have hi : i < zs.length := (List.getElem?_eq_some_iff.mp hy).1
      have q32 : qs.length ≤ 32 := Nat.le_trans hql (Nat.pow_le_pow_right (n := 2) (by decide) (show i ≤ 5 by omega))
      have et : zs.take (i + 1) = zs.take i ++ [y] := by rw [List.take_succ, hy]; rfl
      refine ⟨_, rfl, _, rfl, L', rfl, ⟨qs, .inl (.inl hL)⟩, fun D nD => ?_⟩
      have nD0 : H D = none := PySem.Spec.same_none sm nD
      refine lc_list (K := K) (a := L') (xs := qs) (fun j H' => ∃ bs : List V, H' D = some (.lst bs) ∧ bs.length = j ∧ Same H3 H' ∧ PartsOf H' (zs.take (i + 1)) bs ∧ ∀ x ∈ bs, x ≠ V.ref D) ⟨[], upd_same, rfl, same_upd nD, fun x h => absurd h List.not_mem_nil, fun x h => absurd h List.not_mem_nil⟩ (fun j H' _ ⟨_, _, _, sm3, _, _⟩ => .inl (.inl (sm3 _ _ hL))) ?_ ?_
      · rintro j x H4 hx ⟨bs, hD, hbl, sm4, hb, hnD⟩
        obtain ⟨a0, sub, rfl, ha, hsub⟩ := hq x (List.mem_of_getElem? hx)
        have hj : j < qs.length := (List.getElem?_eq_some_iff.mp hx).1
        have sl : sub.length ≤ 6 := by
          have := hsub.length_le
          rw [List.length_take] at this
          omega
        refine ⟨rfl, _, rfl, _, rfl, by show 1 ≤ sizeLine; decide, fun l1 n1 => ?_⟩
        have ha4 := sm4 _ _ ha
        have a1 : a0 ≠ l1 := ne_of_none ha4 n1
        refine ⟨a0, l1, sub, _, rfl, rfl, (upd_ne a1).trans ha4, upd_same, Nat.le_of_lt (small1000 (by show sub.length + 1 ≤ 1000; omega)), fun l2 n2 => ?_⟩
        have S5 : Same H4 (upd (upd H4 l1 (.lst [y])) l2 (.lst (sub ++ [y]))) := (same_upd n1).trans (same_upd n2)
        have D2 : D ≠ l2 := fun z => by
          have := same_upd (o := .lst [y]) n1 _ _ hD
          rw [z, n2] at this
          cases this
        refine ⟨bs, S5 _ _ hD, small1000 (by omega), bs ++ [.ref l2], upd_same, by rw [List.length_append, hbl]; rfl, same_put (sm4.trans S5) nD, fun x hx => ?_, fun x hx => ?_⟩
        rcases List.mem_append.mp hx with hx | hx
        · obtain ⟨a2, sub2, e, h1, h2⟩ := hb x hx
          have aD : a2 ≠ D := fun z => hnD x hx (by rw [e, z])
          exact ⟨a2, sub2, e, (upd_ne aD).trans (S5 _ _ h1), h2⟩
        · rw [List.mem_singleton] at hx
          refine ⟨l2, sub ++ [y], hx, (upd_ne D2.symm).trans upd_same, ?_⟩
          rw [et]
          exact List.Sublist.append hsub (List.Sublist.refl _)
        · rcases List.mem_append.mp hx with hx | hx
          · exact hnD x hx
          · rw [List.mem_singleton.mp hx]
            exact fun z => D2 (V.ref.inj z).symm
      · rintro H4 ⟨bs, hD, hbl, sm4, hb, hnD⟩
        have LD : L' ≠ D := ne_of_none hL nD
        refine ⟨L', D, qs, bs, rfl, rfl, sm4 _ _ hL, hD, Nat.le_of_lt (small1000 (by omega)), fun l3 n3 => ?_⟩
        have S6 := sm.trans (sm4.trans (same_upd (o := .lst (qs ++ bs)) n3))
        refine ⟨_, l3, qs ++ bs, rfl, S6, PySem.Spec.same_none (sm.trans sm4) n3, (same_upd n3) _ _ (sm4 _ _ hM), upd_same, by rw [List.length_append, hbl, Nat.pow_succ]; omega, fun x hx => ?_⟩
        rcases List.mem_append.mp hx with hx | hx
        · obtain ⟨a2, sub2, e, h1, h2⟩ := hq x hx
          exact ⟨a2, sub2, e, (same_upd n3) _ _ (sm4 _ _ h1), h2.trans (by rw [et]; exact List.sublist_append_left _ _)⟩
        · obtain ⟨a2, sub2, e, h1, h2⟩ := hb x hx
          exact ⟨a2, sub2, e, (same_upd n3) _ _ h1, h2⟩
    · rintro σ H3 ⟨y2, L', qs, rfl, sm, nL', hM, hL, hql, hq⟩
      refine ⟨_, rfl, 64, rfl, L', qs, rfl, .inl (.inl hL), fun R nR => ?_⟩
      have c1 := cut_sub qs none (some 64)
      have c2 : (cutV qs none (some 64)).length ≤ 64 := cut_top qs 64
      refine q _ R _ (sm.trans (same_upd nR)) (PySem.Spec.same_none sm nR) upd_same c2 fun x hx => ?_
      obtain ⟨a2, sub2, e, h1, h2⟩ := hq x (c1.subset hx)
      exact ⟨a2, sub2, e, (same_upd nR) _ _ h1, h2.trans ((List.take_sublist _ _).trans hzs)⟩
end
end N16

set_option Elab.async false
set_option linter.all false
set_option maxRecDepth 100000
set_option maxHeartbeats 2000000
namespace N17
open PySem PySem.Spec PyProof.Rows L2 Cau Dr27 N1 N2 N3 N4 N5 N6 N7 N8 N9 N10 N11 N12 N13 N14 N15 N16 TxtSet
abbrev sChanged : Stmt := topS 51
/-- values and what they are as steps -/
def Pw (K : PySem.W.Frag) (H : Hp) (xs : List V) (ds : List Sd) : Prop := xs.length = ds.length ∧ ∀ (i : Nat) y d, xs[i]? = some y → ds[i]? = some d → SdOk K H y d
section
variable {K : PySem.W.Frag} {H H' : Hp} {xs ys : List V} {ds es : List Sd}
theorem Pw.app (h : Pw K H xs ds) (g : Pw K H ys es) : Pw K H (xs ++ ys) (ds ++ es) := by
  refine ⟨by rw [List.length_append, List.length_append, h.1, g.1], fun i y d a b => ?_⟩
  by_cases c : i < xs.length
  · rw [List.getElem?_append_left c] at a
    rw [List.getElem?_append_left (h.1 ▸ c)] at b
    exact h.2 i y d a b
  · rw [List.getElem?_append_right (Nat.le_of_not_lt c)] at a
    rw [List.getElem?_append_right (h.1 ▸ Nat.le_of_not_lt c), ← h.1] at b
    exact g.2 _ y d a b
theorem Pw.drop (h : Pw K H xs ds) (n : Nat) : Pw K H (xs.drop n) (ds.drop n) := by
  refine ⟨by rw [List.length_drop, List.length_drop, h.1], fun i y d a b => ?_⟩
  rw [List.getElem?_drop] at a b
  exact h.2 _ y d a b
theorem Pw.take (h : Pw K H xs ds) (n : Nat) : Pw K H (xs.take n) (ds.take n) := by
  refine ⟨by rw [List.length_take, List.length_take, h.1], fun i y d a b => ?_⟩
  rw [List.getElem?_take] at a b
  split at a
  · rename_i c
    rw [if_pos c] at b
    exact h.2 _ y d a b
  · cases a
theorem Pw.cut (h : Pw K H xs ds) (lo hi : Option Int) : ∃ es, Pw K H (cutV xs lo hi) es := ⟨_, (h.drop _).take _⟩
theorem Pw.one {y : V} {d : Sd} (h : SdOk K H y d) : Pw K H [y] [d] := ⟨rfl, fun i z e a b => by
  cases i with
  | zero => cases a; cases b; exact h
  | succ i => cases a⟩
theorem Pw.same (h : Pw K H xs ds) (s : Same H H') : Pw K H' xs ds := ⟨h.1, fun i y d a b => (h.2 i y d a b).same s⟩
theorem cat_tup {Q : VK} {a b : Addr} (ha : SqT K H a xs) (hb : SqT K H b ys) (hx : xs ≠ []) (hl : xs.length + ys.length ≤ 1000) (q : ∀ H' r, Same H H' → SqT K H' r (xs ++ ys) → Q (.ref r) H') : rCatT K (.ref a) (.ref b) H Q := by
  refine ⟨a, b, xs, ys, rfl, rfl, ha, hb, hx, Nat.le_of_lt (small1000 hl), fun e => ?_, fun _ p np => q _ p (same_upd np) (.inl (.inl upd_same))⟩
  subst e
  exact q H a same_rfl (by rw [List.append_nil]; exact ha)
end
theorem cut_atoms {xs : List V} (h : xs.all AtomV = true) (lo hi : Option Int) : (cutV xs lo hi).all AtomV = true := List.all_eq_true.mpr fun x hx => List.all_eq_true.mp h x ((cut_sub xs lo hi).subset hx)
theorem cut_first {xs : List V} {n : Nat} (h : n < xs.length) : ¬ (HT.sIx xs.length 0 none = 0 ∧ HT.sIx xs.length xs.length (some (n : Int)) = xs.length) := by
  rw [HT.sIx_nat]
  omega
theorem cut_last {xs : List V} {n : Nat} (h : 0 < n) (h2 : 0 < xs.length) : ¬ (HT.sIx xs.length 0 (some (n : Int)) = 0 ∧ HT.sIx xs.length xs.length none = xs.length) := by
  rw [HT.sIx_nat]
  omega
theorem cut_ne {xs : List V} {n : Nat} (h : 0 < n) (h2 : 0 < xs.length) : cutV xs none (some (n : Int)) ≠ [] := fun e => by
  have := congrArg List.length e
  unfold cutV at this
  rw [HT.sIx_none, HT.sIx_nat, List.drop_zero, List.length_take, List.length_nil] at this
  omega
/-- the step to change -/
def tStep (K : PySem.W.Frag) : TE := fun σ H Q => ∃ (Fo : Addr) (xs : List V) (st : List St1) (n : Nat), σ[2]? = some (some (.ref Fo)) ∧ σ[3]? = some (some (.int n)) ∧ H Fo = some (.lst xs) ∧ xs.length = st.length ∧ (∀ (i : Nat) y p, xs[i]? = some y → st[i]? = some p → SdT K H y p) ∧
  (∀ p ∈ st, 3 ≤ p.2.length ∧ p.2.length ≤ 20) ∧ ∀ H' y p, Same H H' → SdT K H' y p → 3 ≤ p.2.length → p.2.length ≤ 20 → Q y H'
/-- the list with the changed step -/
def tEnd : TE := fun σ H Q => ∃ (Fo : Addr) (xs : List V) (n : Nat) (y : V), σ[2]? = some (some (.ref Fo)) ∧ σ[3]? = some (some (.int n)) ∧ σ[9]? = some (some y) ∧ H Fo = some (.lst xs) ∧ xs.length ≤ 60 ∧
  ∀ H' l, Same H H' → H l = none → H' l = some (.lst (cutV xs none (some (n : Int)) ++ [y] ++ cutV xs (some ((n : Int) + 1)) none)) → Q (.ref l) H'
def spChanged (K : PySem.W.Frag) : Sp := fun vs H Q _ => ∃ (a w c p : Addr) (T : Nat) (ys : List V) (st : List St1), vs = [.ref a, .ref p] ∧ St H a w c T ∧ T + 10 ≤ 1000000 ∧ SqL K H p ys ∧ p ≠ a ∧ p ≠ w ∧ ys.length = st.length ∧ st.length ≤ 60 ∧ (∀ (i : Nat) y p, ys[i]? = some y → st[i]? = some p → SdT K H y p) ∧ (∀ p ∈ st, 3 ≤ p.2.length ∧ p.2.length ≤ 20) ∧
  ∀ (H' : Hp) (l : Addr) (ds : List Sd), H l = none → Sv K H' (.ref l) (some ds) → Kept a w H H' → St H' a w c (T + 10) → (l ≠ a ∧ l ≠ w ∧ l ≠ c) → Q (.ref l) H'
section
variable {P : Program} {w : World} {K : PySem.W.Frag} {mg : Str → Option Value} {base : Heap}
def changedN : List Str := ["state", "steps", "found", "at", "kind", "name", "deed", "spot", "odd", "step"]
theorem scCg : FnScope changedN ["state", "steps"] (defScope sChanged) := ⟨rfl, rfl, rfl, by decide +kernel, rfl, by decide +kernel, by decide +kernel⟩
theorem ok_changed {f fD fP : Addr} {fd fdD fdP : FuncData} (F : Fun K "_law_changed" "_law_changed" sChanged f fd) (FD : Fun K "_law_draw" "_law_draw" sDraw fD fdD) (GD : FnOk P w K mg base CX0 2 fD fdD ["state", "room"] spDraw) (bD : Binds K fdD ["state", "room"] []) (gD : mg "_law_draw" = some (.ref fD))
    (FP : Fun K "_law_pick" "_law_pick" sPick fP fdP) (GP : FnOk P w K mg base CX0 3 fP fdP ["state", "some"] (spPick K)) (bP : Binds K fdP ["state", "some"] []) (gP : mg "_law_pick" = some (.ref fP)) (mli : mg "list" = none) (mlen : mg "len" = none) : FnOk P w K mg base CX0 4 f fd ["state", "steps"] (spChanged K) := by
  refine F.ok scCg (fun vs H Q E h => ?_) (fun cdv A outer s H vs Q E hr h => ?_)
  · obtain ⟨a, w, c, p, T, ys, st, rfl, _⟩ := h
    rfl
  · obtain ⟨a, w, c, p, T, ys, st, rfl, hSt, hT, hp, npa, npw, hl, hl60, hst, hlen, q⟩ := h
    have hr2 : Room 2 _ := hr.mono (by decide)
    refine ⟨_, pss_cons (ps_par (i := 2) (j := 3) rfl scCg.nd rfl rfl (by decide) rfl rfl (pa_cons (pe_callTy call_list_of (by rfl) mli (by decide +kernel) (pa_cons (pv 1) pa_nil)) (pa_cons
        (pe_call GD hr2 (by rfl) gD FD.kp bD .nil pass0 (pa_cons (pv 0) (pa_cons (pe_op op_add (pe_callB call_len_seq (by rfl) mlen PySem.boot_len (pa_cons (pv 1) pa_nil)) pe_int) pa_nil))) pa_nil)) (by rfl))
      (pss_cons (ps_set (i := 4) scCg.nd rfl (.inl rfl) (pe_call GD hr2 (by rfl) gD FD.kp bD .nil pass0 (pa_cons (pv 0) (pa_cons pe_int pa_nil))))
      (pss_cons (ps_asg (pe_weak (t' := tStep K) (pe_ifExp (pt_cmpR op_lt (pv 3) (pe_callB call_len_seq (by rfl) mlen PySem.boot_len (pa_cons (pv 2) pa_nil)) (nomark _)) (pe_ix ix_list (pv 2) (pv 3) (fun _ _ => rfl))
            (pe_tup (pa_cons pe_str (pa_cons (pe_tup (pa_cons pe_str (pa_cons pe_str (pa_cons pe_str pa_nil)))) pa_nil)))) ?step)
          (pg_tup (by rfl) (pgs_cons (pg_name (i := 5) scCg.nd rfl (.inl rfl)) (pgs_cons (pg_name (i := 6) scCg.nd rfl (.inl rfl)) pgs_nil))))
      (pss_cons (ps_set (i := 7) scCg.nd rfl (.inl rfl) (pe_op op_add pe_int (pe_call GD hr2 (by rfl) gD FD.kp bD .nil pass0 (pa_cons (pv 0) (pa_cons (pe_op op_sub (pe_callB call_len_seq (by rfl) mlen PySem.boot_len (pa_cons (pv 6) pa_nil)) pe_int) pa_nil)))))
      (pss_cons (ps_set (i := 8) scCg.nd rfl (.inl rfl) (pe_call GP hr (by rfl) gP FP.kp bP .nil pass0 (pa_cons (pv 0) (pa_cons (pe_lst (pa_cons pe_str (pa_cons pe_str (pa_cons pe_str (pa_cons pe_str (pa_cons pe_int (pa_cons pe_int (pa_cons pe_int (pa_cons pe_int (pa_cons pe_bl (pa_cons pe_non
          (pa_cons pe_str (pa_cons (pv 5) (pa_cons pe_str (pa_cons pe_str (pa_cons pe_str pa_nil)))))))))))))))) pa_nil))))
      (pss_cons (ps_if (pt_cmpR op_eq (pv 4) pe_int (nomark _)) (pss_one (ps_set (i := 9) scCg.nd rfl (.inl rfl) (pe_tup (pa_cons (pv 8) (pa_cons (pv 6) pa_nil)))))
        (pss_one (ps_if (pt_cmpR op_eq (pv 4) pe_int (nomark _)) (pss_one (ps_set (i := 9) scCg.nd rfl (.inl rfl) (pe_lst (pa_cons (pv 5) (pa_cons (pv 6) pa_nil)))))
        (pss_one (ps_if (pt_cmpR op_eq (pv 4) pe_int (nomark _)) (pss_one (ps_set (i := 9) scCg.nd rfl (.inl rfl) (pe_tup (pa_cons (pv 5) (pa_cons (pe_callTy call_list_of (by rfl) mli (by decide +kernel) (pa_cons (pv 6) pa_nil)) pa_nil)))))
        (pss_one (ps_if (pt_cmpR op_eq (pv 4) pe_int (nomark _)) (pss_one (ps_set (i := 9) scCg.nd rfl (.inl rfl) (pe_tup (pa_cons (pv 5) (pa_cons (pe_slice sl_tup (pv 6) po_none (po_some (pe_op op_sub (pe_callB call_len_seq (by rfl) mlen PySem.boot_len (pa_cons (pv 6) pa_nil)) pe_int))) pa_nil)))))
        (pss_one (ps_if (pt_cmpR op_eq (pv 4) pe_int (nomark _)) (pss_one (ps_set (i := 9) scCg.nd rfl (.inl rfl) (pe_op op_catT (pe_tup (pa_cons (pe_call GP hr (by rfl) gP FP.kp bP .nil pass0 (pa_cons (pv 0) (pa_cons (pe_lst (pa_cons pe_str (pa_cons pe_str (pa_cons pe_str (pa_cons pe_str pa_nil))))) pa_nil))) pa_nil)) (pe_tup (pa_cons (pv 6) pa_nil)))))
        (pss_one (ps_if (pt_cmpR op_eq (pv 4) pe_int (nomark _)) (pss_one (ps_set (i := 9) scCg.nd rfl (.inl rfl) (pe_tup (pa_cons (pv 5) (pa_cons (pv 6) (pa_cons (pv 8) pa_nil))))))
        (pss_one (ps_set (i := 9) scCg.nd rfl (.inl rfl) (pe_tup (pa_cons (pv 5) (pa_cons (pe_op op_catT (pe_op op_catT (pe_slice sl_tup (pv 6) po_none (po_some (pv 7))) (pe_tup (pa_cons (pv 8) pa_nil))) (pe_slice sl_tup (pv 6) (po_some (pe_op op_add (pv 7) pe_int)) po_none)) pa_nil))))))))))))))))
      (pss_one (ps_ret (pe_weak (t' := tEnd) (pe_op op_cat (pe_op op_cat (pe_slice sl_list (pv 2) po_none (po_some (pv 3))) (pe_lst (pa_cons (pv 9) pa_nil))) (pe_slice sl_list (pv 2) (po_some (pe_op op_add (pv 3) pe_int)) po_none)) ?last)))))))), ?_⟩
    case step =>
      rintro σ H1 Q1 ⟨Fo, xs, st, n, h2, h3, hF, hl, hst, hlen, q1⟩
      refine ⟨_, h3, _, h2, Fo, _, rfl, .inl (.inl (.inl hF)), _, _, rfl, rfl, _, rfl, ite2 (fun hc => ?_) (fun _ => ?_)⟩
      · have hn : n < xs.length := by
          have := of_decide_eq_true hc
          omega
        have e1 : st[n]? = some (st[n]'(by omega)) := List.getElem?_eq_getElem (by omega)
        have e2 := List.getElem?_eq_getElem hn
        have ll := hlen _ (List.getElem_mem (by omega : n < st.length))
        exact ⟨_, h2, _, h3, Fo, _, _, _, rfl, rfl, .inl (.inl hF), atI_nat (j := n) e2, q1 H1 _ _ same_rfl (hst n _ _ e2 e1) ll.1 ll.2⟩
      · refine ⟨by show 3 ≤ sizeLine; decide, fun t1 n1 => ⟨by show 2 ≤ sizeLine; decide, fun t2 n2 => ?_⟩⟩
        exact q1 _ _ ("fresh", [.str "gauge", .str "o", .str "u"]) ((same_upd n1).trans (same_upd n2)) ⟨t2, t1, rfl, .inl (.inl upd_same), sqT_same (.inl (.inl upd_same)) (same_upd n2), by decide +kernel, by decide, by decide +kernel⟩ (by decide) (by decide)
    case last =>
      rintro σ H1 Q1 ⟨Fo, xs, n, y, h2, h3, h9, hF, hl, q1⟩
      refine ⟨_, h2, _, h3, _, rfl, Fo, xs, rfl, .inl (.inl hF), fun l1 n1 => ?_⟩
      refine ⟨_, h9, by show 1 ≤ sizeLine; decide, fun l2 n2 => ?_⟩
      have c1 : (cutV xs none (some (n : Int))).length ≤ 60 := Nat.le_trans (cut_sub _ _ _).length_le hl
      have c2 : (cutV xs (some ((n : Int) + 1)) none).length ≤ 60 := Nat.le_trans (cut_sub _ _ _).length_le hl
      have l12 : l1 ≠ l2 := fun z => by rw [← z, upd_same] at n2; cases n2
      refine ⟨l1, l2, _, _, rfl, rfl, (upd_ne l12).trans upd_same, upd_same, Nat.le_of_lt (small1000 (by show (cutV xs none (some (n : Int))).length + 1 ≤ 1000; omega)), fun l3 n3 => ?_⟩
      have S3 := ((same_upd (o := .lst (cutV xs none (some (n : Int)))) n1).trans (same_upd (o := .lst [y]) n2)).trans (same_upd (o := .lst (cutV xs none (some (n : Int)) ++ [y])) n3)
      refine ⟨_, h2, _, h3, _, 1, rfl, rfl, _, rfl, Fo, xs, rfl, S3.seq (.inl (.inl hF)), fun l4 n4 => ?_⟩
      have l34 : l3 ≠ l4 := fun z => by rw [← z, upd_same] at n4; cases n4
      refine ⟨l3, l4, _, _, rfl, rfl, (upd_ne l34).trans upd_same, upd_same, Nat.le_of_lt (small1000 (by rw [List.length_append]; show (cutV xs none (some (n : Int))).length + 1 + _ ≤ 1000; omega)), fun l5 n5 => ?_⟩
      exact q1 _ l5 (S3.trans ((same_upd n4).trans (same_upd n5))) (PySem.Spec.same_none S3 (PySem.Spec.same_none (same_upd n4) n5)) upd_same
    refine ⟨_, rfl, p, ys, rfl, .inl hp, fun Fo nF => ?_⟩
    have oF := St.off hSt nF
    have s1 : St (upd H Fo (.lst ys)) a w c T := St.put hSt oF
    have k1 : Kept a w H (upd H Fo (.lst ys)) := Kept.of (same_upd nF)
    have hF1 : (upd H Fo (.lst ys)) Fo = some (.lst ys) := upd_same
    have hp1 : SqL K (upd H Fo (.lst ys)) p ys := (same_upd nF).seq hp
    generalize upd H Fo (.lst ys) = H1 at s1 k1 hF1 hp1
    refine ⟨_, rfl, _, rfl, p, ys, rfl, .inl hp1, _, 1, rfl, rfl, a, w, c, T, _, rfl, s1, by omega, by omega, ?_, fun H2 at0 d0 d1 k2 s2 => ?_⟩
    · exact pow1000 (n := ys.length + 1) (by omega)
    obtain ⟨n, rfl⟩ : ∃ n : Nat, at0 = (n : Int) := ⟨at0.toNat, by omega⟩
    refine ⟨_, _, rfl, ?_⟩
    refine ⟨_, rfl, a, w, c, T + 1, 9, rfl, s2, by omega, by decide, pow1000 (n := 9) (by decide), fun H3 kind e0 e1 k3 s3 => ?_⟩
    have hF3 : H3 Fo = some (.lst ys) := k3 _ _ (k2 _ _ hF1 oF.1 oF.2.1) oF.1 oF.2.1
    have K13 := k1.trans (k2.trans k3)
    have tk3 : TK K H H3 := TK.kept hSt K13
    refine ⟨Fo, ys, st, n, rfl, rfl, hF3, hl, fun i y p a b => (hst i y p a b).tk tk3, hlen, fun H4 y p1 S4 hy l3 l20 => ?_⟩
    obtain ⟨yp, zp, rfl, hy1, hy2, hat, _, hnm⟩ := hy
    have s4 : St H4 a w c (T + 1 + 1) := St.same s3 S4
    have K14 := K13.trans (Kept.of S4)
    refine ⟨yp, _, rfl, hy1, rfl, _, _, rfl, _, _, rfl, rfl, ?_⟩
    refine ⟨_, rfl, _, rfl, zp, p1.2, rfl, .inr hy2, _, 1, rfl, rfl, a, w, c, _, _, rfl, s4, by omega, by omega, ?_, fun H5 dd g0 g1 k5 s5 => ?_⟩
    · have e : ((p1.2.length : Nat) : Int) - 1 = ((p1.2.length - 1 : Nat) : Int) := by omega
      rw [e]
      exact pow1000 (by omega)
    obtain ⟨m, rfl⟩ : ∃ m : Nat, dd = (m : Int) := ⟨dd.toNat, by omega⟩
    refine ⟨1, _, rfl, rfl, ?_⟩
    have K15 := K14.trans k5
    -- the odd value
    refine ⟨_, rfl, _, rfl, by show 15 ≤ sizeLine; decide, fun l nl => ?_⟩
    have ol := St.off s5 nl
    have s6 := St.put (o := .lst [.str "later", .str "A", .str "", .str "toolongname", .int 1, .int 2, .int 3, .int 0, .bl true, .non, .str "o", .str p1.1, .str "1", .str "a-b", .str "vv"]) s5 ol
    refine ⟨a, w, c, l, _, _, rfl, s6, by omega, .inl (.inl upd_same), ol.1, ol.2.1, by show 0 < 15; decide, by show 15 ≤ 1000; decide, fun H7 odd hodd k7 s7 => ?_⟩
    have oddA : AtomV odd = true := by
      simp only [List.mem_cons, List.not_mem_nil, or_false] at hodd
      rcases hodd with rfl | rfl | rfl | rfl | rfl | rfl | rfl | rfl | rfl | rfl | rfl | rfl | rfl | rfl | rfl <;> first | exact hnm | decide +kernel
    have k57 : Kept a w H5 H7 := (Kept.of (same_upd nl)).trans k7
    have K17 := K15.trans k57
    have hF7 : H7 Fo = some (.lst ys) := k57 _ _ (k5 _ _ (S4 _ _ hF3) oF.1 oF.2.1) oF.1 oF.2.1
    have hz7 : SqT K H7 zp p1.2 := TK.kept s4 (k5.trans k57) _ _ hy2
    have fin : ∀ (H' : Hp) (y : V) (d : Sd) (y4 y5 y6 y7 y8 : Option V), Kept a w H7 H' → St H' a w c (T + 10) → SdOk K H' y d → tEnd [some (.ref a), some (.ref p), some (.ref Fo), some (.int n), y4, y5, y6, y7, y8, some y] H' Q := by
      intro H' y d y4 y5 y6 y7 y8 k' s' hd
      have hF' : H' Fo = some (.lst ys) := k' _ _ hF7 oF.1 oF.2.1
      refine ⟨Fo, ys, n, y, rfl, rfl, rfl, hF', by omega, fun H2 l sm nl hl2 => ?_⟩
      have tk' : TK K H H' := TK.kept hSt (K17.trans k')
      have pw : Pw K H' ys (st.map sdOf) := by
        refine ⟨by rw [List.length_map]; exact hl, fun i y d a b => ?_⟩
        rw [List.getElem?_map] at b
        cases e : st[i]? with
        | none => rw [e] at b; cases b
        | some p0 =>
          rw [e] at b
          cases b
          exact ((hst i y p0 a e).tk tk').ok
      obtain ⟨e1, w1⟩ := pw.cut none (some (n : Int))
      obtain ⟨e2, w2⟩ := pw.cut (some ((n : Int) + 1)) none
      have all := (((w1.app (Pw.one hd)).app w2).same sm)
      have ol' := St.off s' nl
      refine q H2 l _ (kept_none (K17.trans k') nl ⟨ol'.1, ol'.2.1⟩) (.inl ⟨l, _, _, rfl, .inl (.inl (.inl hl2)), all.1, ?_, all.2, rfl⟩) ((K17.trans k').trans (Kept.of sm)) (St.same s' sm) ol'
      have c1 := (cut_sub ys none (some (n : Int))).length_le
      have c2 := (cut_sub ys (some ((n : Int) + 1)) none).length_le
      rw [List.length_append, List.length_append]
      show _ + 1 + _ ≤ 200
      omega
    have s7' : St H7 a w c (T + 10) := St.mono s7 (by omega)
    have one : ∀ (H' : Hp) (S : Same H7 H') (y : V) (d : Sd) (y4 y5 y6 y7 y8 : Option V), SdOk K H' y d → tEnd [some (.ref a), some (.ref p), some (.ref Fo), some (.int n), y4, y5, y6, y7, y8, some y] H' Q :=
      fun H' S y d y4 y5 y6 y7 y8 h => fin H' y d y4 y5 y6 y7 y8 (Kept.of S) (St.same s7' S) h
    have hl7 : p1.2.length ≤ 100 := by omega
    refine ⟨_, rfl, rfl, _, rfl, ite2 (fun _ => ?_) (fun _ => ?_)⟩
    · refine ⟨_, rfl, _, rfl, by show 2 ≤ sizeLine; decide, fun t nt => ?_⟩
      exact one _ (same_upd nt) (.ref t) (.pair odd (some p1.2)) _ _ _ _ _ ⟨t, .ref zp, rfl, .inl (.inl upd_same), oddA, .inl ⟨zp, p1.2, rfl, sqT_same hz7 (same_upd nt), hat, hl7, rfl⟩⟩
    refine ⟨_, rfl, rfl, _, rfl, ite2 (fun _ => ?_) (fun _ => ?_)⟩
    · refine ⟨_, rfl, _, rfl, by show 2 ≤ sizeLine; decide, fun t nt => ?_⟩
      exact one _ (same_upd nt) (.ref t) .bad _ _ _ _ _ (.inl (.lst upd_same))
    refine ⟨_, rfl, rfl, _, rfl, ite2 (fun _ => ?_) (fun _ => ?_)⟩
    · refine ⟨_, rfl, _, rfl, zp, p1.2, rfl, .inr hz7, fun l1 n1 => ⟨by show 2 ≤ sizeLine; decide, fun t nt => ?_⟩⟩
      have e1 : (upd H7 l1 (.lst p1.2)) l1 = some (.lst p1.2) := upd_same
      exact one _ ((same_upd n1).trans (same_upd nt)) (.ref t) (.pair (.str p1.1) none) _ _ _ _ _ ⟨t, .ref l1, rfl, .inl (.inl upd_same), hnm, .inr ⟨.lst ((same_upd nt) _ _ e1), rfl⟩⟩
    refine ⟨_, rfl, rfl, _, rfl, ite2 (fun _ => ?_) (fun _ => ?_)⟩
    · have e : ((p1.2.length : Nat) : Int) - 1 = ((p1.2.length - 1 : Nat) : Int) := by omega
      refine ⟨_, rfl, _, rfl, _, rfl, zp, p1.2, rfl, .inr hz7, _, 1, rfl, rfl, _, rfl, zp, p1.2, rfl, hz7, ?_, fun l1 n1 => ⟨by show 2 ≤ sizeLine; decide, fun t nt => ?_⟩⟩
      · rw [e]
        exact cut_first (by omega)
      · exact one _ ((same_upd n1).trans (same_upd nt)) (.ref t) (.pair (.str p1.1) (some _)) _ _ _ _ _ ⟨t, .ref l1, rfl, .inl (.inl upd_same), hnm, .inl ⟨l1, _, rfl, sqT_same (.inl (.inl upd_same)) (same_upd nt), cut_atoms hat _ _, Nat.le_trans (cut_sub _ _ _).length_le hl7, rfl⟩⟩
    refine ⟨_, rfl, rfl, _, rfl, ite2 (fun _ => ?_) (fun _ => ?_)⟩
    · refine ⟨_, rfl, by show 4 ≤ sizeLine; decide, fun l1 n1 => ?_⟩
      have o1 := St.off s7 n1
      refine ⟨a, w, c, l1, _, _, rfl, St.put s7 o1, by omega, .inl (.inl upd_same), o1.1, o1.2.1, by show 0 < 4; decide, by show 4 ≤ 1000; decide, fun H8 x hx k8 s8 => ?_⟩
      have xA : AtomV x = true := by
        simp only [List.mem_cons, List.not_mem_nil, or_false] at hx
        rcases hx with rfl | rfl | rfl | rfl <;> decide +kernel
      have k78 : Kept a w H7 H8 := (Kept.of (same_upd n1)).trans k8
      have hz8 : SqT K H8 zp p1.2 := TK.kept s7 k78 _ _ hz7
      refine ⟨by show 1 ≤ sizeLine; decide, fun t1 nt1 => ⟨_, rfl, by show 1 ≤ sizeLine; decide, fun t2 nt2 => ?_⟩⟩
      have S2 := (same_upd (o := .tup [x]) nt1).trans (same_upd (o := .tup [.ref zp]) nt2)
      refine cat_tup (K := K) (xs := [x]) (ys := [.ref zp]) (sqT_same (.inl (.inl upd_same)) (same_upd nt2)) (.inl (.inl upd_same)) (by simp) (by show 1 + 1 ≤ 1000; decide) fun H9 r S9 h9 => ?_
      have S := S2.trans S9
      exact fin H9 (.ref r) (.pair x (some p1.2)) _ _ _ _ _ (k78.trans (Kept.of S)) (St.mono (St.same s8 S) (by omega)) ⟨r, .ref zp, rfl, h9, xA, .inl ⟨zp, p1.2, rfl, sqT_same hz8 S, hat, hl7, rfl⟩⟩
    refine ⟨_, rfl, rfl, _, rfl, ite2 (fun _ => ?_) (fun _ => ?_)⟩
    · refine ⟨_, rfl, _, rfl, _, rfl, by show 3 ≤ sizeLine; decide, fun t nt => ?_⟩
      exact one _ (same_upd nt) (.ref t) .bad _ _ _ _ _ (.inr ⟨t, _, rfl, .inl (.inl upd_same), by show 3 ≠ 2; decide⟩)
    · have es : (1 : Int) + (m : Int) = ((1 + m : Nat) : Int) := by omega
      have es2 : (1 : Int) + (m : Int) + 1 = ((1 + m + 1 : Nat) : Int) := by omega
      have mb : 1 + m < p1.2.length := by omega
      refine ⟨_, rfl, _, rfl, _, rfl, _, rfl, zp, p1.2, rfl, hz7, ?_, fun q1 nq1 => ?_⟩
      · rw [es]
        exact cut_first mb
      refine ⟨_, rfl, by show 1 ≤ sizeLine; decide, fun q2 nq2 => ?_⟩
      have c1 := (cut_sub p1.2 none (some (1 + (m : Int)))).length_le
      have c2 := (cut_sub p1.2 (some (1 + (m : Int) + 1)) none).length_le
      have S2 := (same_upd (o := .tup (cutV p1.2 none (some (1 + (m : Int))))) nq1).trans (same_upd (o := .tup [odd]) nq2)
      refine cat_tup (K := K) (xs := cutV p1.2 none (some (1 + (m : Int)))) (ys := [odd]) (sqT_same (.inl (.inl upd_same)) (same_upd nq2)) (.inl (.inl upd_same)) (by rw [es]; exact cut_ne (by omega) (by omega)) (by show _ + 1 ≤ 1000; omega) fun H9 r S9 h9 => ?_
      have S := S2.trans S9
      refine ⟨_, rfl, _, rfl, _, 1, rfl, rfl, _, rfl, zp, p1.2, rfl, sqT_same hz7 S, ?_, fun q3 nq3 => ?_⟩
      · rw [es2]
        exact cut_last (by omega) (by omega)
      refine cat_tup (K := K) (xs := cutV p1.2 none (some (1 + (m : Int))) ++ [odd]) (ys := cutV p1.2 (some (1 + (m : Int) + 1)) none) (sqT_same h9 (same_upd nq3)) (.inl (.inl upd_same)) (by simp) (by rw [List.length_append]; show _ + 1 + _ ≤ 1000; omega) fun H10 r2 S10 h10 => ?_
      refine ⟨by show 2 ≤ sizeLine; decide, fun t nt => ?_⟩
      have SS := S.trans ((same_upd (o := .tup (cutV p1.2 (some (1 + (m : Int) + 1)) none)) nq3).trans (S10.trans (same_upd (o := .tup [.str p1.1, .ref r2]) nt)))
      refine one _ SS (.ref t) (.pair (.str p1.1) (some _)) _ _ _ _ _ ⟨t, .ref r2, rfl, .inl (.inl upd_same), hnm, .inl ⟨r2, _, rfl, sqT_same h10 (same_upd nt), ?_, ?_, rfl⟩⟩
      · rw [List.all_append, List.all_append, cut_atoms hat, cut_atoms hat]
        simp [oddA]
      · rw [List.length_append, List.length_append]
        show _ + 1 + _ ≤ 100
        omega
end
end N17

set_option Elab.async false
set_option linter.all false
set_option maxRecDepth 100000
set_option maxHeartbeats 2000000
/-! Two sorted lists of texts without doubles and with the same members are one. -/
namespace N18
open PySem PySem.Spec PyProof.Rows L2 Cau
theorem cps_inj {x y : Str} (h : x.cps.toList = y.cps.toList) : x = y := by
  cases x with
  | mk a =>
    cases y with
    | mk b => exact congrArg Str.mk (Array.toList_inj.mp h)
/-- not behind -/
def Upto (x y : Str) : Prop := ¬ y.cps.toList < x.cps.toList
theorem upto_trans {x y z : Str} (a : Upto x y) (b : Upto y z) : Upto x z := by
  have a' : x.cps.toList ≤ y.cps.toList := a
  have b' : y.cps.toList ≤ z.cps.toList := b
  exact (List.le_trans a' b' : x.cps.toList ≤ z.cps.toList)
theorem upto_same {x y : Str} (a : Upto x y) (b : Upto y x) : x = y := by
  have a' : x.cps.toList ≤ y.cps.toList := a
  have b' : y.cps.toList ≤ x.cps.toList := b
  exact cps_inj (List.le_antisymm a' b')
theorem upto_self (x : Str) : Upto x x := List.lt_irrefl _
theorem rising_all : ∀ (r : List Str) (p : Str), risingS p r = true → (∀ x ∈ r, Upto p x) ∧ sortedS r = true
  | [], _, _ => ⟨fun x h => absurd h List.not_mem_nil, rfl⟩
  | a :: r, p, h => by
    unfold risingS at h
    rw [Bool.and_eq_true] at h
    have pa : Upto p a := by
      have := h.1
      rw [ltCps_eq] at this
      simpa [Upto] using this
    obtain ⟨h1, _⟩ := rising_all r a h.2
    refine ⟨fun x hx => ?_, h.2⟩
    rcases List.mem_cons.mp hx with rfl | hx
    · exact pa
    · exact upto_trans pa (h1 x hx)
theorem sorted_one : ∀ (xs ys : List Str), sortedS xs = true → sortedS ys = true → xs.Nodup → ys.Nodup → (∀ t, t ∈ xs ↔ t ∈ ys) → xs = ys
  | [], [], _, _, _, _, _ => rfl
  | [], y :: t, _, _, _, _, h => absurd ((h y).mpr List.mem_cons_self) List.not_mem_nil
  | x :: r, [], _, _, _, _, h => absurd ((h x).mp List.mem_cons_self) List.not_mem_nil
  | x :: r, y :: t, h1, h2, n1, n2, h => by
    obtain ⟨a1, s1⟩ := rising_all r x h1
    obtain ⟨a2, s2⟩ := rising_all t y h2
    have xy : Upto x y := by
      rcases List.mem_cons.mp ((h y).mpr List.mem_cons_self) with rfl | hy
      · exact upto_self _
      · exact a1 y hy
    have yx : Upto y x := by
      rcases List.mem_cons.mp ((h x).mp List.mem_cons_self) with rfl | hx
      · exact upto_self _
      · exact a2 x hx
    have e := upto_same xy yx
    subst e
    rw [List.nodup_cons] at n1 n2
    have rest : r = t := sorted_one r t s1 s2 n1.2 n2.2 fun z => by
      constructor
      · intro hz
        rcases List.mem_cons.mp ((h z).mp (List.mem_cons_of_mem _ hz)) with rfl | q
        · exact absurd hz n1.1
        · exact q
      · intro hz
        rcases List.mem_cons.mp ((h z).mpr (List.mem_cons_of_mem _ hz)) with rfl | q
        · exact absurd hz n2.1
        · exact q
    rw [rest]
end N18

set_option Elab.async false
set_option linter.all false
set_option maxRecDepth 100000
set_option maxHeartbeats 2000000
/-! Steps as data: what repr asks of them. -/
namespace N19
open PySem PySem.Spec PyProof.Rows L2 Cau Dr27 N1 N2 N3 N4 N5 N6 N7 N8 N9 N10 N11 N12 N13 N14 N15 N16 N17
theorem piled_le {B : Nat} : ∀ ts : List Str, (∀ t ∈ ts, t.length ≤ B) → piled ts ≤ ts.length * (B + 2)
  | [], _ => Nat.zero_le _
  | t :: r, h => by
    have ih := piled_le r fun x hx => h x (List.mem_cons_of_mem _ hx)
    have := h t List.mem_cons_self
    rw [piled_cons, List.length_cons, Nat.succ_mul]
    omega
theorem tuple_len (ts : List Str) : (tupleText ts).length ≤ piled ts + 3 := by
  unfold tupleText
  rw [strLen_append, strLen_append]
  have e1 : ((("(" : String) : Str)).length = 1 := rfl
  have e2 : (((if ts.length == 1 then ",)" else ")" : String) : Str)).length ≤ 2 := by split <;> decide
  by_cases h : ts = []
  · subst h
    have e3 : (Str.join ", " []).length = 0 := rfl
    rw [e1, e3]
    omega
  · have := join_length_add ts h
    rw [e1]
    omega
theorem list_len : ∀ ts : List Str, (listText ts).length ≤ piled ts + 2
  | [] => by decide
  | t :: r => by
    have e1 : ((("[" : String) : Str)).length = 1 := rfl
    have e2 : ((("]" : String) : Str)).length = 1 := rfl
    have e3 : ((("" : String) : Str)).length = 0 := rfl
    show (textFrom 1 (("[" : Str) ++ (("" : String) : Str) ++ t) r ++ (("]" : String) : Str)).length ≤ _
    rw [strLen_append, e2, textFrom_length_pos r 1 _ (Nat.zero_lt_one), strLen_append, strLen_append, e3, piled_cons]
    show ((("[" : String) : Str)).length + 0 + t.length + piled r + 1 ≤ _
    rw [e1]
    omega
/-! ### a step's data -/
def deedD (xs : List V) : PyData := .tuple (xs.map atomD)
def stepD (p : St1) : PyData := .tuple [.str p.1, deedD p.2]
theorem dp_step {K : PySem.W.Frag} {H : Hp} {y : V} {p : St1} (h : SdT K H y p) : Dp K H y (stepD p) := by
  obtain ⟨yp, zp, rfl, h1, h2, h3, _⟩ := h
  exact .tup h1 (.cons (.str _) (.cons (.tup h2 (dpAll_atoms _ fun x hx => List.all_eq_true.mp h3 x hx)) .nil))
theorem dpAll_steps {K : PySem.W.Frag} {H : Hp} : ∀ (ys : List V) (st : List St1), ys.length = st.length → (∀ (i : Nat) y p, ys[i]? = some y → st[i]? = some p → SdT K H y p) → DpAll K H ys (st.map stepD)
  | [], [], _, _ => .nil
  | y :: ys, p :: st, hl, h => .cons (dp_step (h 0 y p rfl rfl)) (dpAll_steps ys st (Nat.succ.inj hl) fun i y p a b => h (i + 1) y p a b)
theorem atom_shown {v : V} (h : AtomV v = true) : (atomD v).shown.length ≤ 40002 := by
  cases v with
  | non => exact (show ((("None" : String) : Str)).length ≤ 40002 by decide)
  | bl b => cases b <;> exact (show _ ≤ 40002 by decide)
  | int i =>
    have hi : 0 ≤ i ∧ i < 10 := of_decide_eq_true h
    obtain ⟨n, rfl⟩ : ∃ n : Nat, i = (n : Int) := ⟨i.toNat, by omega⟩
    have all : ∀ n : Nat, n < 10 → (PyData.int (n : Int)).shown.length ≤ 40002 := by decide +kernel
    exact all n (by omega)
  | str z =>
    simp only [AtomV, Bool.and_eq_true, decide_eq_true_eq] at h
    exact repr_fits h.2 h.1
  | _ => cases h
theorem atom_show {v : V} (h : AtomV v = true) : (atomD v).showable = true ∧ (atomD v).hasDict = false := by
  cases v with
  | int i =>
    have hi : 0 ≤ i ∧ i < 10 := of_decide_eq_true h
    obtain ⟨n, rfl⟩ : ∃ n : Nat, i = (n : Int) := ⟨i.toNat, by omega⟩
    have all : ∀ n : Nat, n < 10 → (PyData.int (n : Int)).showable = true ∧ (PyData.int (n : Int)).hasDict = false := by decide +kernel
    exact all n (by omega)
  | str z => exact ⟨by simp [atomD, PyData.showable], by simp [atomD, PyData.hasDict]⟩
  | bl b => exact ⟨by simp [atomD, PyData.showable], by simp [atomD, PyData.hasDict]⟩
  | non => exact ⟨by simp [atomD, PyData.showable], by simp [atomD, PyData.hasDict]⟩
  | _ => cases h
/-- repr takes it, its text no longer than this -/
structure ShowOk (d : PyData) (n : Nat) : Prop where
  a : d.showable = true
  b : d.hasDict = false
  c : d.depth ≤ 9
  l : d.shown.length ≤ n
theorem shown_len : ∀ (ds : List PyData) (n : Nat), (∀ d ∈ ds, d.shown.length ≤ n) → piled (PyData.shownAll ds) ≤ ds.length * (n + 2)
  | [], _, _ => by simp [PyData.shownAll, piled]
  | d :: r, n, h => by
    have ih := shown_len r n fun x hx => h x (List.mem_cons_of_mem _ hx)
    have := h d List.mem_cons_self
    rw [PyData.shownAll, piled_cons, List.length_cons, Nat.succ_mul]
    omega
theorem all_show : ∀ (ds : List PyData), (∀ d ∈ ds, d.showable = true ∧ d.hasDict = false) → PyData.showableAll ds = true ∧ PyData.hasDictAll ds = false
  | [], _ => by simp [PyData.showableAll, PyData.hasDictAll]
  | d :: r, h => by
    have ih := all_show r fun x hx => h x (List.mem_cons_of_mem _ hx)
    have := h d List.mem_cons_self
    simp [PyData.showableAll, PyData.hasDictAll, ih, this]
theorem all_depth : ∀ (ds : List PyData) (k : Nat), (∀ d ∈ ds, d.depth ≤ k) → PyData.depthAll ds ≤ k
  | [], _, _ => by simp [PyData.depthAll]
  | d :: r, k, h => by
    have ih := all_depth r k fun x hx => h x (List.mem_cons_of_mem _ hx)
    have := h d List.mem_cons_self
    rw [PyData.depthAll]
    omega
theorem show_tuple {ds : List PyData} {n k : Nat} (h : ∀ d ∈ ds, d.showable = true ∧ d.hasDict = false ∧ d.depth ≤ 7 ∧ d.shown.length ≤ n) (hl : ds.length ≤ k) : (PyData.tuple ds).showable = true ∧ (PyData.tuple ds).hasDict = false ∧ (PyData.tuple ds).depth ≤ PyData.depthAll ds + 1 ∧ (PyData.tuple ds).shown.length ≤ k * (n + 2) + 3 := by
  obtain ⟨a, b⟩ := all_show ds fun d hd => ⟨(h d hd).1, (h d hd).2.1⟩
  have c := shown_len ds n fun d hd => (h d hd).2.2.2
  have e := tuple_len (PyData.shownAll ds)
  have m : ds.length * (n + 2) ≤ k * (n + 2) := Nat.mul_le_mul_right _ hl
  refine ⟨by simpa [PyData.showable] using a, by simpa [PyData.hasDict] using b, by rw [PyData.depth]; omega, ?_⟩
  rw [PyData.shown]
  omega
theorem show_list {ds : List PyData} {n k : Nat} (h : ∀ d ∈ ds, d.showable = true ∧ d.hasDict = false ∧ d.depth ≤ 7 ∧ d.shown.length ≤ n) (hl : ds.length ≤ k) : (PyData.list ds).showable = true ∧ (PyData.list ds).hasDict = false ∧ (PyData.list ds).depth ≤ PyData.depthAll ds + 1 ∧ (PyData.list ds).shown.length ≤ k * (n + 2) + 3 := by
  obtain ⟨a, b⟩ := all_show ds fun d hd => ⟨(h d hd).1, (h d hd).2.1⟩
  have c := shown_len ds n fun d hd => (h d hd).2.2.2
  have e := list_len (PyData.shownAll ds)
  have m : ds.length * (n + 2) ≤ k * (n + 2) := Nat.mul_le_mul_right _ hl
  refine ⟨by simpa [PyData.showable] using a, by simpa [PyData.hasDict] using b, by rw [PyData.depth]; omega, ?_⟩
  rw [PyData.shown]
  omega
theorem show_deed {xs : List V} (h : xs.all AtomV = true) (hl : xs.length ≤ 20) : (deedD xs).showable = true ∧ (deedD xs).hasDict = false ∧ (deedD xs).depth ≤ 1 ∧ (deedD xs).shown.length ≤ 800083 := by
  have at_ : ∀ d ∈ xs.map atomD, d.showable = true ∧ d.hasDict = false ∧ d.depth ≤ 0 ∧ d.shown.length ≤ 40002 := fun d hd => by
    obtain ⟨v, hv, rfl⟩ := List.mem_map.mp hd
    have a := List.all_eq_true.mp h v hv
    exact ⟨(atom_show a).1, (atom_show a).2, Nat.le_of_eq (depth_atom v), atom_shown a⟩
  obtain ⟨a, b, c, e⟩ := show_tuple (k := 20) (fun d hd => ⟨(at_ d hd).1, (at_ d hd).2.1, Nat.le_trans (at_ d hd).2.2.1 (Nat.zero_le _), (at_ d hd).2.2.2⟩) (by rw [List.length_map]; exact hl)
  have dd := all_depth _ 0 fun d hd => (at_ d hd).2.2.1
  exact ⟨a, b, by show (PyData.tuple (xs.map atomD)).depth ≤ 1; omega, e⟩
theorem show_step {p : St1} (h : p.2.all AtomV = true) (hl : p.2.length ≤ 20) (hn : AtomV (.str p.1) = true) : (stepD p).showable = true ∧ (stepD p).hasDict = false ∧ (stepD p).depth ≤ 2 ∧ (stepD p).shown.length ≤ 1600173 := by
  obtain ⟨a1, b1, c1, e1⟩ := show_deed h hl
  have nm : (PyData.str p.1).showable = true ∧ (PyData.str p.1).hasDict = false ∧ (PyData.str p.1).depth ≤ 0 ∧ (PyData.str p.1).shown.length ≤ 40002 := ⟨(atom_show hn).1, (atom_show hn).2, Nat.le_of_eq (depth_atom (.str p.1)), atom_shown hn⟩
  have both : ∀ d ∈ [PyData.str p.1, deedD p.2], d.showable = true ∧ d.hasDict = false ∧ d.depth ≤ 1 ∧ d.shown.length ≤ 800083 := fun d hd => by
    rcases List.mem_cons.mp hd with rfl | hd
    · exact ⟨nm.1, nm.2.1, Nat.le_trans nm.2.2.1 (Nat.zero_le _), by have := nm.2.2.2; omega⟩
    · rw [List.mem_singleton.mp hd]
      exact ⟨a1, b1, c1, e1⟩
  obtain ⟨a, b, c, e⟩ := show_tuple (k := 2) (fun d hd => ⟨(both d hd).1, (both d hd).2.1, Nat.le_trans (both d hd).2.2.1 (by decide), (both d hd).2.2.2⟩) (Nat.le_refl 2)
  have dd := all_depth _ 1 fun d hd => (both d hd).2.2.1
  exact ⟨a, b, by show (PyData.tuple [PyData.str p.1, deedD p.2]).depth ≤ 2; omega, e⟩
end N19

set_option Elab.async false
set_option linter.all false
set_option maxRecDepth 100000
set_option maxHeartbeats 2000000
/-! Lists of drawn steps: what is picked, what is a part. -/
namespace N20
open PySem PySem.Spec PyProof.Rows L2 Cau Dr27 N1 N2 N3 N4 N5 N6 N7 N8 N9 N10 N11 N12 N13 N14 N15 N16 N17 N19
def Sdl (K : PySem.W.Frag) (H : Hp) (ys : List V) (st : List St1) : Prop := ys.length = st.length ∧ ∀ (i : Nat) y p, ys[i]? = some y → st[i]? = some p → SdT K H y p
section
variable {K : PySem.W.Frag} {H H' : Hp}
theorem Sdl.nil : Sdl K H [] [] := ⟨rfl, fun i y p h => by cases h⟩
theorem Sdl.cons {y : V} {p : St1} {ys : List V} {st : List St1} (h : SdT K H y p) (t : Sdl K H ys st) : Sdl K H (y :: ys) (p :: st) := by
  refine ⟨by rw [List.length_cons, List.length_cons, t.1], fun i z q a b => ?_⟩
  cases i with
  | zero => cases a; cases b; exact h
  | succ i => exact t.2 i z q a b
theorem Sdl.head {y : V} {p : St1} {ys : List V} {st : List St1} (h : Sdl K H (y :: ys) (p :: st)) : SdT K H y p := h.2 0 y p rfl rfl
theorem Sdl.tail {y : V} {p : St1} {ys : List V} {st : List St1} (h : Sdl K H (y :: ys) (p :: st)) : Sdl K H ys st := ⟨Nat.succ.inj h.1, fun i z q a b => h.2 (i + 1) z q a b⟩
theorem Sdl.tk {ys : List V} {st : List St1} (h : Sdl K H ys st) (t : TK K H H') : Sdl K H' ys st := ⟨h.1, fun i y p a b => (h.2 i y p a b).tk t⟩
theorem Sdl.data {ys : List V} {st : List St1} (h : Sdl K H ys st) : DpAll K H ys (st.map stepD) := dpAll_steps ys st h.1 h.2
theorem Sdl.lst {a : Addr} {ys : List V} {st : List St1} (h : Sdl K H ys st) (e : SqL K H a ys) : Dp K H (.ref a) (.list (st.map stepD)) := .lst e h.data
theorem Sdl.ok {ys : List V} {st : List St1} (h : Sdl K H ys st) : ∀ (i : Nat) y d, ys[i]? = some y → (st.map sdOf)[i]? = some d → SdOk K H y d := fun i y d a b => by
  rw [List.getElem?_map] at b
  cases e : st[i]? with
  | none => rw [e] at b; cases b
  | some p =>
    rw [e] at b
    cases b
    exact (h.2 i y p a e).ok
/-- as a value of steps -/
theorem Sdl.sv {a : Addr} {ys : List V} {st : List St1} (h : Sdl K H ys st) (e : SqX K H a ys) (l : st.length ≤ 60) : Sv K H (.ref a) (some (st.map sdOf)) :=
  .inl ⟨a, ys, _, rfl, e, by rw [List.length_map]; exact h.1, by have := h.1; omega, h.ok, rfl⟩
/-- what is picked by name -/
theorem pick_sdl (w : List Str) : ∀ (ys : List V) (st : List St1), Sdl K H ys st → Sdl K H (pickW ys st w) (st.filter fun p => decide (p.1 ∈ w))
  | [], [], _ => Sdl.nil
  | [], p :: st, h => by cases h.1
  | y :: ys, [], h => by cases h.1
  | y :: ys, p :: st, h => by
    have ih := pick_sdl w ys st h.tail
    by_cases c : p.1 ∈ w
    · have e1 : pickW (y :: ys) (p :: st) w = y :: pickW ys st w := by
        unfold pickW
        rw [List.zip_cons_cons, List.filter_cons, if_pos (decide_eq_true c), List.map_cons]
      rw [e1, List.filter_cons, if_pos (decide_eq_true c)]
      exact Sdl.cons h.head ih
    · have e1 : pickW (y :: ys) (p :: st) w = pickW ys st w := by
        unfold pickW
        rw [List.zip_cons_cons, List.filter_cons, if_neg (by simpa using c)]
      rw [e1, List.filter_cons, if_neg (by simpa using c)]
      exact ih
/-- what is a part -/
theorem part_sdl : ∀ {sub ys : List V}, sub.Sublist ys → ∀ (st : List St1), Sdl K H ys st → ∃ pt : List St1, pt.Sublist st ∧ Sdl K H sub pt
  | _, _, .slnil, st, _ => ⟨[], List.nil_sublist _, Sdl.nil⟩
  | _, _, .cons y h, [], t => by cases t.1
  | _, _, .cons y h, p :: st, t => by
    obtain ⟨pt, a, b⟩ := part_sdl h st t.tail
    exact ⟨pt, a.cons p, b⟩
  | _, _, .cons₂ y h, [], t => by cases t.1
  | _, _, .cons₂ y h, p :: st, t => by
    obtain ⟨pt, a, b⟩ := part_sdl h st t.tail
    exact ⟨p :: pt, a.cons₂ p, Sdl.cons t.head b⟩
/-- the same steps tell the same text -/
theorem Sdl.shown {ys zs : List V} {st : List St1} {a b : Addr} (h : Sdl K H ys st) (g : Sdl K H' zs st) (e1 : SqL K H a ys) (e2 : SqL K H' b zs) : ∃ d, Dp K H (.ref a) d ∧ Dp K H' (.ref b) d := ⟨_, h.lst e1, g.lst e2⟩
theorem Sdl.show {ys : List V} {st : List St1} (h : Sdl K H ys st) (l : st.length ≤ 7) (len : ∀ p ∈ st, p.2.length ≤ 20) : (PyData.list (st.map stepD)).showable = true ∧ (PyData.list (st.map stepD)).hasDict = false ∧ (PyData.list (st.map stepD)).depth ≤ 3 ∧ (PyData.list (st.map stepD)).shown.length ≤ 11201228 := by
  have each : ∀ d ∈ st.map stepD, d.showable = true ∧ d.hasDict = false ∧ d.depth ≤ 2 ∧ d.shown.length ≤ 1600173 := fun d hd => by
    obtain ⟨p, hp, rfl⟩ := List.mem_map.mp hd
    obtain ⟨i, hi, e⟩ := List.getElem_of_mem hp
    obtain ⟨_, _, _, _, _, h3, _, h5⟩ := h.2 i _ p (List.getElem?_eq_getElem (h.1 ▸ hi)) (by rw [List.getElem?_eq_getElem hi, e])
    exact show_step h3 (len p hp) h5
  obtain ⟨a, b, c, e⟩ := show_list (k := 7) (fun d hd => ⟨(each d hd).1, (each d hd).2.1, Nat.le_trans (each d hd).2.2.1 (by decide), (each d hd).2.2.2⟩) (by rw [List.length_map]; exact l)
  have dd := all_depth _ 2 fun d hd => (each d hd).2.2.1
  exact ⟨a, b, by omega, e⟩
theorem names_show {ns : List Str} (l : ns.length ≤ 8) (at_ : ∀ z ∈ ns, AtomV (.str z) = true) : (PyData.list (ns.map PyData.str)).showable = true ∧ (PyData.list (ns.map PyData.str)).hasDict = false ∧ (PyData.list (ns.map PyData.str)).depth ≤ 1 ∧ (PyData.list (ns.map PyData.str)).shown.length ≤ 320035 := by
  have each : ∀ d ∈ ns.map PyData.str, d.showable = true ∧ d.hasDict = false ∧ d.depth ≤ 0 ∧ d.shown.length ≤ 40002 := fun d hd => by
    obtain ⟨z, hz, rfl⟩ := List.mem_map.mp hd
    have a := at_ z hz
    exact ⟨(atom_show a).1, (atom_show a).2, Nat.le_of_eq (depth_atom (.str z)), atom_shown a⟩
  obtain ⟨a, b, c, e⟩ := show_list (k := 8) (fun d hd => ⟨(each d hd).1, (each d hd).2.1, Nat.le_trans (each d hd).2.2.1 (by decide), (each d hd).2.2.2⟩) (by rw [List.length_map]; exact l)
  have dd := all_depth _ 0 fun d hd => (each d hd).2.2.1
  exact ⟨a, b, by omega, e⟩
/-- repr takes the pair of the steps and the names -/
theorem both_show {ys : List V} {st : List St1} {ns : List Str} (h : Sdl K H ys st) (l : st.length ≤ 7) (len : ∀ p ∈ st, p.2.length ≤ 20) (l2 : ns.length ≤ 8) (at_ : ∀ z ∈ ns, AtomV (.str z) = true) :
    (PyData.tuple [.list (st.map stepD), .list (ns.map PyData.str)]).showable = true ∧ (PyData.tuple [.list (st.map stepD), .list (ns.map PyData.str)]).hasDict = false ∧ (PyData.tuple [.list (st.map stepD), .list (ns.map PyData.str)]).depth ≤ 60 ∧ (PyData.tuple [.list (st.map stepD), .list (ns.map PyData.str)]).shown.length ≤ sizeLine := by
  obtain ⟨a1, b1, c1, e1⟩ := h.show l len
  obtain ⟨a2, b2, c2, e2⟩ := names_show l2 at_
  generalize PyData.list (st.map stepD) = d1 at a1 b1 c1 e1
  generalize PyData.list (ns.map PyData.str) = d2 at a2 b2 c2 e2
  refine ⟨by simp [PyData.showable, PyData.showableAll, a1, a2], by simp [PyData.hasDict, PyData.hasDictAll, b1, b2], ?_, ?_⟩
  · simp only [PyData.depth, PyData.depthAll]
    omega
  · have t := tuple_len (PyData.shownAll [d1, d2])
    have p : piled (PyData.shownAll [d1, d2]) = (d1.shown.length + 2) + ((d2.shown.length + 2) + 0) := by
      rw [PyData.shownAll, PyData.shownAll, PyData.shownAll, piled_cons, piled_cons, piled_nil]
    rw [PyData.shown, sizeLine_eq]
    omega
end
end N20

set_option Elab.async false
set_option linter.all false
set_option maxRecDepth 100000
set_option maxHeartbeats 2000000
/-! The law's catcher, and what the seven odd values are. -/
namespace N21
open PySem PySem.Spec PyProof.Rows L2 Cau Dr27 N1 N2 N3 N4 N5 N6 N7 N8 N9
abbrev sCaught : Stmt := topS 39
theorem cau_here {X : Cx} {q : Str} {g CS : Addr} {cdg : Value} (hme : X.mg "RulerError" = some (.ref CS)) : LamX.GivesTo X cauN "_law_caught" (defScope sCaught) g cdg (defBody sCaught) "action" q (TCau X.K CS) :=
  cau_gives hme (by decide +kernel) rfl
theorem scCau : FnScope cauN ["action"] (defScope sCaught) := ⟨rfl, rfl, rfl, by decide +kernel, rfl, by decide +kernel, by decide +kernel⟩
/-- what the law asks of as names and as steps, and is neither -/
inductive OddV (K : PySem.W.Frag) (H : Hp) : V → Prop
  | atom {v : V} (h : AtomV v = true) : OddV K H v
  | dict {p : Addr} {kvs : List (Key × V)} (h : H p = some (.dK kvs)) : OddV K H (.ref p)
  | texts {p : Addr} {zs : List Str} (h : H p = some (.lst (zs.map V.str))) (l : zs.length ≤ 60) (ok : ∀ z ∈ zs, z.length ≤ 4000 ∧ PyData.strOk z = true) (b : namesB (zs.map some) = false) : OddV K H (.ref p)
  | mixed {p : Addr} {z : Str} {i : Int} (h : H p = some (.lst [.str z, .int i])) (a : AtomV (.str z) = true) (b : AtomV (.int i) = true) : OddV K H (.ref p)
  | nest {p r : Addr} {z : Str} (h : H p = some (.lst [.ref r])) (g : H r = some (.lst [.str z])) : OddV K H (.ref p)
section
variable {K : PySem.W.Frag} {H H' : Hp} {v : V}
theorem OddV.same (h : OddV K H v) (s : Same H H') : OddV K H' v := by
  cases h with
  | atom h => exact .atom h
  | dict h => exact .dict (s _ _ h)
  | texts h l ok b => exact .texts (s _ _ h) l ok b
  | mixed h a b => exact .mixed (s _ _ h) a b
  | nest h g => exact .nest (s _ _ h) (s _ _ g)
theorem tx_lst {p : Addr} {xs : List V} (h : H p = some (.lst xs)) : Tx K H (.ref p) none := .inr ⟨rfl, "list", .base (.lst h), by decide +kernel⟩
/-- as names they are refused -/
theorem OddV.names (h : OddV K H v) : ∃ o, Nv K H v o ∧ namesO o = false := by
  cases h with
  | atom h => exact ⟨none, .inr ⟨.atom h, rfl⟩, rfl⟩
  | dict h => exact ⟨none, .inr ⟨.dK h, rfl⟩, rfl⟩
  | @texts p zs h l ok b =>
    refine ⟨some (zs.map some), .inl ⟨p, zs.map V.str, zs.map some, rfl, .inl (.inl (.inl h)), by simp, by simp; omega, fun i v z e1 e2 => ?_, rfl⟩, b⟩
    rw [List.getElem?_map] at e1 e2
    cases e : zs[i]? with
    | none => rw [e] at e1; cases e1
    | some s =>
      rw [e] at e1 e2
      cases e1
      cases e2
      exact .inl ⟨s, rfl, rfl, ok s (List.mem_of_getElem? e)⟩
  | @mixed p z i h a b =>
    refine ⟨some [some z, none], .inl ⟨p, _, [some z, none], rfl, .inl (.inl (.inl h)), rfl, by show 2 ≤ 90; decide, fun j v o e1 e2 => ?_, rfl⟩, ?_⟩
    · match j, e1, e2 with
      | 0, e1, e2 => cases e1; cases e2; exact tx_atom a
      | 1, e1, e2 => cases e1; cases e2; exact tx_atom b
    · show namesB [some z, none] = false
      unfold namesB
      simp [nameO]
  | @nest p r z h g =>
    refine ⟨some [none], .inl ⟨p, _, [none], rfl, .inl (.inl (.inl h)), rfl, by show 1 ≤ 90; decide, fun j v o e1 e2 => ?_, rfl⟩, ?_⟩
    · match j, e1, e2 with
      | 0, e1, e2 => cases e1; cases e2; exact tx_lst g
    · show namesB [none] = false
      unfold namesB
      simp [nameO]
/-- as steps too, if not empty -/
theorem OddV.steps (h : OddV K H v) : ∃ o, Sv K H v o ∧ (goesO o [] = false ∨ o = some []) := by
  cases h with
  | atom h => exact ⟨none, .inr ⟨.atom h, rfl⟩, .inl rfl⟩
  | dict h => exact ⟨none, .inr ⟨.dK h, rfl⟩, .inl rfl⟩
  | @texts p zs h l ok b =>
    refine ⟨some (zs.map fun _ => .bad), .inl ⟨p, zs.map V.str, _, rfl, .inl (.inl (.inl h)), by simp, by simp; omega, fun i v d e1 e2 => ?_, rfl⟩, ?_⟩
    · rw [List.getElem?_map] at e1 e2
      cases e : zs[i]? with
      | none => rw [e] at e1; cases e1
      | some s =>
        rw [e] at e1 e2
        cases e1
        cases e2
        have := ok s (List.mem_of_getElem? e)
        refine .inl (.atom ?_)
        show (decide (s.length ≤ 4000) && PyData.strOk s) = true
        rw [decide_eq_true this.1, this.2]
        rfl
    · cases zs with
      | nil => exact .inr rfl
      | cons z r => exact .inl rfl
  | @mixed p z i h a b =>
    refine ⟨some [.bad, .bad], .inl ⟨p, _, [.bad, .bad], rfl, .inl (.inl (.inl h)), rfl, by show 2 ≤ 200; decide, fun j v o e1 e2 => ?_, rfl⟩, .inl rfl⟩
    match j, e1, e2 with
    | 0, e1, e2 => cases e1; cases e2; exact .inl (.atom a)
    | 1, e1, e2 => cases e1; cases e2; exact .inl (.atom b)
  | @nest p r z h g =>
    refine ⟨some [.bad], .inl ⟨p, _, [.bad], rfl, .inl (.inl (.inl h)), rfl, by show 1 ≤ 200; decide, fun j v o e1 e2 => ?_, rfl⟩, .inl rfl⟩
    match j, e1, e2 with
    | 0, e1, e2 => cases e1; cases e2; exact .inl (.lst g)
end
end N21

set_option Elab.async false
set_option linter.all false
set_option maxRecDepth 100000
set_option maxHeartbeats 2000000
/-! What stays where lambdas are made; texts and steps as data. -/
namespace N22
open PySem PySem.Spec PyProof.Rows L2 Cau Dr27 N1 N2 N3 N4 N5 N6 N7 N8 N9 N10 N11 N12 N13 N14 N15 N16 N17 N18 N19 N20 N21 TxtSet
/-- but the state, its list and the tables of code objects nothing is changed -/
def KeptN (a w : Addr) (H H' : Hp) : Prop := ∀ b o, H b = some o → (∀ ps, o ≠ .tbl ps) → b ≠ a → b ≠ w → H' b = some o
section
variable {K : PySem.W.Frag} {a w c l p : Addr} {T : Nat} {H H1 H2 H' : Hp} {o : HO} {xs zs : List V} {TT : List (Addr × Str)}
theorem KeptN.refl : KeptN a w H H := fun _ _ e _ _ _ => e
theorem KeptN.trans (x : KeptN a w H H1) (y : KeptN a w H1 H2) : KeptN a w H H2 := fun b o e n h1 h2 => y b o (x b o e n h1 h2) n h1 h2
theorem KeptN.of (k : Kept a w H H') : KeptN a w H H' := fun b o e _ h1 h2 => k b o e h1 h2
theorem KeptN.same (s : Same H H') : KeptN a w H H' := fun b o e _ _ _ => s b o e
theorem KeptN.ext (s : LamX.ExtN H H') : KeptN a w H H' := fun b o e n _ _ => s b o e n
theorem KeptN.put (k : KeptN a w H H') (n : H l = none) : KeptN a w H (upd H' l o) := fun b x e hn h1 h2 => by
  have z : b ≠ l := fun z => by rw [z, n] at e; cases e
  rw [upd_ne z]
  exact k b x e hn h1 h2
theorem KeptN.lst (k : KeptN a w H H') (h : H p = some (.lst xs)) (n : p ≠ a ∧ p ≠ w) : H' p = some (.lst xs) := k _ _ h (fun _ z => by cases z) n.1 n.2
theorem KeptN.seqL (k : KeptN a w H H') (h : SqL K H p xs) (n : p ≠ a ∧ p ≠ w) : SqL K H' p xs := by
  rcases h with (h | ⟨o, h⟩) | h
  · exact .inl (.inl (k _ _ h (fun _ z => by cases z) n.1 n.2))
  · exact .inl (.inr ⟨o, k _ _ h (fun _ z => by cases z) n.1 n.2⟩)
  · exact .inr h
theorem KeptN.none (k : KeptN a w H H') (s : St H a w c T) (h : H' l = none) (n : l ≠ a ∧ l ≠ w) (nt : ∀ ps, H l ≠ some (.tbl ps)) : H l = none := by
  cases e : H l with
  | none => rfl
  | some o =>
    have := k l o e (fun ps z => nt ps (by rw [e, z])) n.1 n.2
    rw [h] at this
    cases this
theorem KeptN.tk (k : KeptN a w H H') (s : St H a w c T) : TK K H H' := fun q xs h => by
  obtain ⟨_, ws, cs, r, t, h1, h2, _⟩ := s
  rcases h with (h | ⟨u, h⟩) | h
  · exact .inl (.inl (k _ _ h (fun _ z => by cases z) (fun z => by rw [z, h1] at h; cases h) (fun z => by rw [z, h2] at h; cases h)))
  · exact .inl (.inr ⟨u, k _ _ h (fun _ z => by cases z) (fun z => by rw [z, h1] at h; cases h) (fun z => by rw [z, h2] at h; cases h)⟩)
  · exact .inr h
theorem St.ext (h : St H a w c T) (e : LamX.ExtN H H') : St H' a w c T := by
  obtain ⟨h0, ws, cs, r, t, h1, h2, h3, h4⟩ := h
  exact ⟨h0, ws, cs, r, t, e _ _ h1 (fun _ z => by cases z), e _ _ h2 (fun _ z => by cases z), e _ _ h3 (fun _ z => by cases z), h4⟩
theorem tk_ext (e : LamX.ExtN H H') : TK K H H' := fun q xs h => by
  rcases h with (h | ⟨u, h⟩) | h
  · exact .inl (.inl (e _ _ h (fun _ z => by cases z)))
  · exact .inl (.inr ⟨u, e _ _ h (fun _ z => by cases z)⟩)
  · exact .inr h
theorem tabs_kept (t : LamX.Tabs TT H) (s : St H a w c T) (k : Kept a w H H') : LamX.Tabs TT H' := fun p hp => by
  obtain ⟨_, ws, cs, r, t0, h1, h2, _⟩ := s
  obtain ⟨ps, e1, e2, e3⟩ := t p hp
  refine ⟨ps, k _ _ e1 (fun z => by rw [z, h1] at e1; cases e1) (fun z => by rw [z, h2] at e1; cases e1), e2, fun pos cv hc => ?_⟩
  obtain ⟨d, f1, f2⟩ := e3 pos cv hc
  refine ⟨d, f1, k _ _ f2 (fun z => ?_) (fun z => ?_)⟩
  · rw [z, h1] at f2
    cases f2
  · rw [z, h2] at f2
    cases f2
theorem tabs_put (t : LamX.Tabs TT H) (e : H l = some (.lst zs)) : LamX.Tabs TT (upd H l o) := fun p hp => by
  obtain ⟨ps, e1, e2, e3⟩ := t p hp
  refine ⟨ps, (upd_ne fun z => by rw [z, e] at e1; cases e1).trans e1, e2, fun pos cv hc => ?_⟩
  obtain ⟨d, f1, f2⟩ := e3 pos cv hc
  refine ⟨d, f1, (upd_ne fun z => ?_).trans f2⟩
  rw [z, e] at f2
  cases f2
theorem tabs_same (t : LamX.Tabs TT H) (s : Same H H') : LamX.Tabs TT H' := t.ext s
end
/-! ### texts of a list from a place on and up to it -/
theorem cut_take (xs : List V) (n : Nat) (h : n ≤ xs.length) : cutV xs none (some (n : Int)) = xs.take n := by
  unfold cutV
  rw [HT.sIx_none, HT.sIx_nat, List.drop_zero, Nat.min_eq_left h, Nat.sub_zero]
theorem cut_drop (xs : List V) (n : Nat) (h : n ≤ xs.length) : cutV xs (some (n : Int)) none = xs.drop n := by
  unfold cutV
  rw [HT.sIx_none, HT.sIx_nat, Nat.min_eq_left h, List.take_of_length_le]
  rw [List.length_drop]
  omega
/-- one more text put in, and one at the end -/
def putIn (ns : List Str) (n : Nat) : List Str := ns.take n ++ [("notthere" : Str)] ++ ns.drop n ++ [("n0" : Str)]
theorem put_mem {ns : List Str} {n : Nat} {z : Str} (h : z ∈ putIn ns n) : z ∈ ns ∨ z = ("notthere" : Str) ∨ z = ("n0" : Str) := by
  unfold putIn at h
  rcases List.mem_append.mp h with h | h
  · rcases List.mem_append.mp h with h | h
    · rcases List.mem_append.mp h with h | h
      · exact .inl (List.mem_of_mem_take h)
      · exact .inr (.inl (List.mem_singleton.mp h))
    · exact .inl (List.mem_of_mem_drop h)
  · exact .inr (.inr (List.mem_singleton.mp h))
theorem put_nodup {ns : List Str} {n : Nat} (h : ns.Nodup) (h1 : ("notthere" : Str) ∉ ns) (h2 : ("n0" : Str) ∉ ns) : (putIn ns n).Nodup := by
  have e : (putIn ns n).Perm (("n0" : Str) :: ("notthere" : Str) :: ns) := by
    unfold putIn
    refine (List.perm_append_comm).trans ?_
    show (("n0" : Str) :: (ns.take n ++ [("notthere" : Str)] ++ ns.drop n)).Perm _
    refine List.Perm.cons _ ?_
    rw [List.append_assoc]
    refine List.perm_append_comm.trans ?_
    show (("notthere" : Str) :: (ns.drop n ++ ns.take n)).Perm _
    refine List.Perm.cons _ (List.perm_append_comm.trans ?_)
    rw [List.take_append_drop]
  refine e.nodup_iff.mpr (List.nodup_cons.mpr ⟨fun z => ?_, List.nodup_cons.mpr ⟨h1, h⟩⟩)
  rcases List.mem_cons.mp z with z | z
  · revert z
    decide +kernel
  · exact h2 z
theorem put_find {ns : List Str} {n : Nat} {f : Str → Bool} (h : ∀ z ∈ ns, f z = false) (hf : f ("notthere" : Str) = true) : (putIn ns n).find? f = some ("notthere" : Str) := by
  have e : (ns.take n).find? f = none := List.find?_eq_none.mpr fun z hz => by rw [h z (List.mem_of_mem_take hz)]; exact Bool.false_ne_true
  unfold putIn
  rw [List.append_assoc, List.append_assoc, List.find?_append, e]
  show List.find? f (("notthere" : Str) :: _) = _
  rw [List.find?_cons, hf]
/-! ### steps as data -/
theorem deed_len {xs : List V} (h : deedL xs = true) : 3 ≤ xs.length ∧ xs.length ≤ 7 := by
  obtain ⟨w0, r, k, rfl, hf, _, _⟩ := word_of h
  obtain ⟨k2, k5⟩ := formOf_small hf
  rw [deed_is hf, Bool.and_eq_true] at h
  have h2 := h.2
  show 3 ≤ r.length + 1 ∧ r.length + 1 ≤ 7
  split at h2
  · rw [Bool.and_eq_true, decide_eq_true_eq] at h2
    omega
  · rw [decide_eq_true_eq] at h2
    omega
theorem canLay_deed {xs : List V} (h : xs.all AtomV = true) : (deedD xs).canLay0 = true := by
  have := canLay_atoms xs fun x hx => List.all_eq_true.mp h x hx
  simpa [deedD, PyData.canLay0] using this
theorem canLay_step {p : St1} (h : p.2.all AtomV = true) (hn : AtomV (.str p.1) = true) : (stepD p).canLay0 = true := by
  have e1 := canLay_deed h
  have e2 := canLay_atom hn
  have e2' : PyData.canLay0 (.str p.1) = true := e2
  show PyData.canLay0 (.tuple [.str p.1, deedD p.2]) = true
  simp only [PyData.canLay0, PyData.canLayAll0, Bool.and_eq_true, Bool.and_true] at e2' ⊢
  exact ⟨e2', e1⟩
theorem depth_deed (xs : List V) : (deedD xs).depth ≤ 1 := by
  show (PyData.tuple (xs.map atomD)).depth ≤ 1
  rw [PyData.depth, depth_atoms]
  exact Nat.le_refl _
theorem depth_step (p : St1) : (stepD p).depth ≤ 2 := by
  have := depth_deed p.2
  show (PyData.tuple [.str p.1, deedD p.2]).depth ≤ 2
  simp only [PyData.depth, PyData.depthAll]
  omega
theorem depth_steps : ∀ st : List St1, PyData.depthAll (st.map stepD) ≤ 2
  | [] => by simp [PyData.depthAll]
  | p :: r => by
    have h1 := depth_step p
    have h2 := depth_steps r
    simp only [List.map_cons, PyData.depthAll]
    omega
theorem shaped_step {p : St1} (h : p.2.all AtomV = true) (hn : AtomV (.str p.1) = true) : SeqAt.shaped (stepD p) = true := by
  unfold SeqAt.shaped
  rw [canLay_step h hn, decide_eq_true (Nat.le_trans (depth_step p) (by decide))]
  rfl
theorem canLay_steps : ∀ st : List St1, (∀ p ∈ st, p.2.all AtomV = true ∧ AtomV (.str p.1) = true) → PyData.canLayAll0 (st.map stepD) = true
  | [], _ => by simp [PyData.canLayAll0]
  | p :: r, h => by
    have h1 := canLay_step (h p List.mem_cons_self).1 (h p List.mem_cons_self).2
    have h2 := canLay_steps r fun q hq => h q (List.mem_cons_of_mem _ hq)
    simp only [List.map_cons, PyData.canLayAll0, Bool.and_eq_true]
    exact ⟨h1, h2⟩
theorem shaped_steps {st : List St1} (h : ∀ p ∈ st, p.2.all AtomV = true ∧ AtomV (.str p.1) = true) : SeqAt.shaped (.list (st.map stepD)) = true := by
  unfold SeqAt.shaped
  have e := canLay_steps st h
  have d := depth_steps st
  have d2 : (PyData.list (st.map stepD)).depth ≤ 64 := by
    rw [PyData.depth]
    omega
  rw [Bool.and_eq_true, decide_eq_true_eq]
  exact ⟨by simpa [PyData.canLay0] using e, d2⟩
theorem Sdl.atoms {K : PySem.W.Frag} {H : Hp} {ys : List V} {st : List St1} (h : Sdl K H ys st) : ∀ p ∈ st, p.2.all AtomV = true ∧ AtomV (.str p.1) = true := fun p hp => by
  obtain ⟨i, hi, e⟩ := List.getElem_of_mem hp
  obtain ⟨_, _, _, _, _, h3, _, h5⟩ := h.2 i _ p (List.getElem?_eq_getElem (h.1 ▸ hi)) (by rw [List.getElem?_eq_getElem hi, e])
  exact ⟨h3, h5⟩
theorem mem_steps {pt : List St1} {p : St1} (h : p ∈ pt) (a : p.2.all AtomV = true) (n : AtomV (.str p.1) = true) : (pt.map stepD).any (fun z => PyData.eqv z (stepD p)) = true :=
  List.any_eq_true.mpr ⟨stepD p, List.mem_map.mpr ⟨p, h, rfl⟩, SeqAt.eqv_refl _ (canLay_step a n)⟩
/-- _law_caught(lambda: body), its table among others -/
theorem pe_cau {X : Cx} {T : List (Addr × Str)} {fC CR c Pt : Addr} {k : Nat} {odC anC : Option Addr} {oslC : Array (Option Value)} {kVC docC pmC ctC ocC cdvC dVC : Value} {params : Arguments} {body : Expr} {scope : Scope} {p lpos pos : Pos} {t : XK → TE}
    (lkC : X.K.lookup fC = some ⟨ocC, odC, .func (PySem.W.fnOf "_law_caught" "_law_caught" (defArgs sCaught) (defBody sCaught) (defScope sCaught) dVC kVC docC pmC anC cdvC ctC), oslC⟩) (hcdC : PySem.W.codeIn X.K cdvC "_law_caught" = true) (kC : PySem.W.keepIn X.K (.ref fC) = true)
    (bC : Binds X.K (PySem.W.fnOf "_law_caught" "_law_caught" (defArgs sCaught) (defBody sCaught) (defScope sCaught) dVC kVC docC pmC anC cdvC ctC) ["action"] []) (gC : X.mg "_law_caught" = some (.ref fC)) (gRE : X.mg "RulerError" = some (.ref CR))
    (TB : LamX.TabB X.base X.mg c Pt) (hcode : X.env.code = .ref c) (hmT : (Pt, X.env.qual ++ "<lambda>") ∈ T) (huT : ∀ p ∈ T, p.1 = Pt → p.2 = X.env.qual ++ "<lambda>") (hr : Room (k + 2) X.A) (hg : Gl X "_law_caught") (L : LamX.LamS X.env.scope scope) (hdef : defaultsOf params X.env = ([], []))
    (hbind : ∀ (q : Str) (cl : List (Str × Addr)) (pm cv ctv : Value), bindArgs (PySem.W.kla_fn "<lambda>" q params body scope cl pm cv ctv) ⟨[], []⟩ = pure [])
    (hbody : ∀ (A : Around) (outer : List Env) (s : Shared) (H : Hp) (E : XK) (f c' : Addr), Room k (A.deeper (LamX.lamEnv X scope s.heap.objs.size f c')) → PE (LamX.lamCx X A outer s H E scope f c') body (t E)) :
    PE X (.Call (.Name "_law_caught" p) [.Lambda params body scope lpos] [] pos) (LamX.tLam T (TCau X.K CR) t) :=
  LamX.pe_lamcall hg gC kC lkC hcdC bC scCau rfl (.inl rfl) (cau_here gRE) TB hcode hmT huT hr L hdef hbind hbody
theorem ps_weak {X : Cx} {s : Stmt} {t t' : TS} (h : PS X s t) (k : ∀ D σ H, t' D σ H → t D σ H) : PS X s t' := ⟨fun pins st σ H D I q => h.run pins st σ H D I (k D σ H q)⟩
theorem passN {X : Cx} : Passes (L2.CX X.prog X.w) X E0 := passes_call (W := fun _ _ _ _ => False) takes0 (fun _ _ _ _ h => h)
end N22

set_option Elab.async false
set_option linter.all false
set_option maxRecDepth 100000
set_option maxHeartbeats 4000000
namespace N23
open PySem PySem.Spec PyProof.Rows L2 Cau Dr27 N1 N2 N3 N4 N5 N6 N7 N8 N9 N10 N11 N12 N13 N14 N15 N16 N17 N18 N19 N20 N21 N22 TxtSet RepG
abbrev sNeedR : Stmt := topS 49
def nrN : List Str := ["state", "steps", "sheet", "own", "turn", "names", "due", "kept", "found", "spot", "error", "part", "right", "has", "strange", "name", "deed", "step"]
theorem scNr : FnScope nrN ["state", "steps"] (defScope sNeedR) := ⟨rfl, rfl, rfl, by decide +kernel, rfl, by decide +kernel, by decide +kernel⟩
/-- the names to ask for -/
def tNames : TE := fun σ H Q => ∃ (a w c sh ow : Addr) (T : Nat) (own : List Str), σ[0]? = some (some (.ref a)) ∧ σ[2]? = some (some (.ref sh)) ∧ σ[3]? = some (some (.ref ow)) ∧ St H a w c T ∧ T + 100 ≤ 1000000 ∧ H sh = some (.lst (sheetL.map V.str)) ∧ H ow = some (.lst (own.map V.str)) ∧ own.length ≤ 60 ∧
  (∀ z ∈ own, PyData.strOk z = true) ∧ (own ++ sheetL).Nodup ∧ ∀ (H' : Hp) (m : Addr) (ns : List Str), H m = none → H' m = some (.lst (ns.map V.str)) → Kept a w H H' → St H' a w c (T + 100) → (m ≠ a ∧ m ≠ w ∧ m ≠ c) → ns.Nodup → (∀ z ∈ ns, z ∈ own ∨ z ∈ sheetL) → ns.length ≤ 3 → Q (.ref m) H'
/-- the names with strange ones among them -/
def tStrange : TE := fun σ H Q => ∃ (m : Addr) (n : Nat) (ns : List Str), σ[5]? = some (some (.ref m)) ∧ σ[9]? = some (some (.int n)) ∧ H m = some (.lst (ns.map V.str)) ∧ n ≤ ns.length ∧ ns.length ≤ 3 ∧ ∀ H' q, Same H H' → H q = none → H' q = some (.lst ((N22.putIn ns n).map V.str)) → Q (.ref q) H'
/-- the names of a part's steps -/
def tPtNames (K : PySem.W.Frag) : TE := fun σ H Q => ∃ (y0 y1 y2 y3 y4 y5 y6 y7 y8 y9 y10 y12 y13 y14 y15 y16 y17 : Option V) (b : Addr) (sub : List V) (pt : List St1), σ = [y0, y1, y2, y3, y4, y5, y6, y7, y8, y9, y10, some (.ref b), y12, y13, y14, y15, y16, y17] ∧ H b = some (.lst sub) ∧ Sdl K H sub pt ∧ pt.length ≤ 7 ∧ ∀ H' D, Same H H' → H D = none → H' D = some (.lst ((pt.map (·.1)).map V.str)) → Q (.ref D) H'
theorem blkOk_any {N : List Str} {sc sc' scope : Scope} {own : List (Str × Nat)} (h : BlkOk N sc' scope own) (hf : (scope.names.all fun y => match y.2 with | .free => false | _ => true) = true) : BlkOk N sc scope own :=
  ⟨h.kind, h.uniq, h.ix, fun y hy e => absurd (List.all_eq_true.mp hf y hy) (by rw [e]; exact Bool.false_ne_true), h.own⟩
theorem seqL_ext' {K : PySem.W.Frag} {H H' : Hp} {p : Addr} {xs : List V} (h : SqL K H p xs) (e : LamX.ExtN H H') : SqL K H' p xs := by
  rcases h with (h | ⟨o, h⟩) | h
  · exact .inl (.inl (e _ _ h (fun _ z => by cases z)))
  · exact .inl (.inr ⟨o, e _ _ h (fun _ z => by cases z)⟩)
  · exact .inr h
theorem pe_weak' {X : Cx} {e : Expr} {t' : TE} (h : PE X e t') : PE X e t' := h
/-- the look at the parts -/
def tParts (K : PySem.W.Frag) : TS := fun D σ H => ∃ (x0 x3 x4 x7 x8 x9 x10 x14 : V) (y11 y12 y13 : Option V) (p sh m du : Addr) (ys zs : List V) (st : List St1) (ns : List Str),
  σ = [some x0, some (.ref p), some (.ref sh), some x3, some x4, some (.ref m), some (.ref du), some x7, some x8, some x9, some x10, y11, y12, y13, some x14, none, none, none] ∧
  SqL K H p ys ∧ H sh = some (.lst (sheetL.map V.str)) ∧ H m = some (.lst (ns.map V.str)) ∧ H du = some (.lst zs) ∧ Sdl K H ys st ∧ Sdl K H zs (st.filter fun p => decide (p.1 ∈ backW st ns)) ∧ goesB (st.map sdOf) sheetL = true ∧ st.length ≤ 7 ∧ ns.length ≤ 3 ∧ (∀ z ∈ ns, PyData.strOk z = true) ∧
  (∀ H' y11 y12 y13, Same H H' → D.nx [some x0, some (.ref p), some (.ref sh), some x3, some x4, some (.ref m), some (.ref du), some x7, some x8, some x9, some x10, y11, y12, y13, some x14, none, none, none] H')
def spNeedR (K : PySem.W.Frag) (TT : List (Addr × Str)) : Sp := fun vs H Q _ => ∃ (a w c p : Addr) (T : Nat) (ys : List V) (st : List St1), vs = [.ref a, .ref p] ∧ St H a w c T ∧ T + 400 ≤ 1000000 ∧ SqL K H p ys ∧ p ≠ a ∧ p ≠ w ∧ Sdl K H ys st ∧ goesB (st.map sdOf) sheetL = true ∧ (∀ q ∈ st, goodN q.1 = true) ∧ st.length ≤ 7 ∧ LamX.Tabs TT H ∧
  ∀ (H' : Hp), KeptN a w H H' → St H' a w c (T + 400) → LamX.Tabs TT H' → Q (.bl true) H'
theorem sheet_ok : ∀ z ∈ sheetL, nameS z = true ∧ z.length ≤ 4000 ∧ PyData.strOk z = true := by decide +kernel
theorem sheet_nodup : sheetL.Nodup := by decide +kernel
theorem sheet_odd : ("notthere" : Str) ∉ sheetL ∧ ("n0" : Str) ∉ sheetL := by decide +kernel
theorem show_bool (b : Bool) : (PyData.bool b).showable = true ∧ (PyData.bool b).hasDict = false ∧ (PyData.bool b).depth ≤ 60 ∧ (PyData.bool b).shown.length ≤ sizeLine := by cases b <;> decide +kernel
section
variable {P : Program} {w : World} {K : PySem.W.Frag} {mg : Str → Option Value} {base : Heap}
theorem okGL {x qual : Str} {st : Stmt} {N ps : List Str} {sp : Sp} {k : Nat} {f c : Addr} {od an : Option Addr} {osl : Array (Option Value)} {dV kV doc pm ct oc : Value}
    (lk : K.lookup f = some ⟨oc, od, .func (PySem.W.fnOf x qual (defArgs st) (defBody st) (defScope st) dV kV doc pm an (.ref c) ct), osl⟩) (hcd : PySem.W.codeIn K (.ref c) qual = true) (S : FnScope N ps (defScope st)) (len : ∀ vs H Q E, sp vs H Q E → vs.length = ps.length)
    (hbody : ∀ (A : Around) (outer : List Env) (s : Shared) (H : Hp) (vs : List V) (Q : VK) (E : XK), A.guards = some [] → Room k (A.deeper (envOfC qual (defScope st) s.heap.objs.size f (.ref c))) → sp vs H Q E →
      ∃ t, PSs (cxOf CX0 P w K mg base N qual (defScope st) f (.ref c) A outer s H E).nox (defBody st) t ∧ t { nx := fun _ H' => Q .non H', rt := Q } (start N vs) H) : FnG P w K mg base CX0 (k + 1) f (PySem.W.fnOf x qual (defArgs st) (defBody st) (defScope st) dV kV doc pm an (.ref c) ct) ps sp := by
  refine ⟨len, fun A g hr outer s H e args us vs hb r Q E h => ?_⟩
  refine LamX.run_ofS lk hcd S hr e hb r (len _ _ _ _ h) fun hr' => ?_
  obtain ⟨t, ht, q⟩ := hbody A outer s H vs Q E g hr' h
  exact ⟨t, ht.nox, q⟩
theorem ok_needR {f fS fD fH fN fPt fG fQ fC CR CM CB CN c Pt : Addr} {fdS fdD fdH fdN fdPt fdG fdQ : FuncData} {TT : List (Addr × Str)}
    {od an odC anC : Option Addr} {osl oslC : Array (Option Value)} {dV kV doc pm ct oc kVC docC pmC ctC ocC cdvC dVC : Value}
    (lk : K.lookup f = some ⟨oc, od, .func (PySem.W.fnOf "_law_needed_right" "_law_needed_right" (defArgs sNeedR) (defBody sNeedR) (defScope sNeedR) dV kV doc pm an (.ref c) ct), osl⟩) (hcd : PySem.W.codeIn K (.ref c) "_law_needed_right" = true)
    (TB : LamX.TabB base mg c Pt) (hmT : (Pt, ((("_law_needed_right" : Str) ++ ".<locals>.") ++ "<lambda>" : Str)) ∈ TT) (huT : ∀ p ∈ TT, p.1 = Pt → p.2 = (("_law_needed_right" : Str) ++ ".<locals>.") ++ "<lambda>")
    (FS : Fun K "_law_shuffled" "_law_shuffled" sShuf fS fdS) (GS : FnOk P w K mg base CX0 3 fS fdS ["state", "some"] (spShuf K)) (bS : Binds K fdS ["state", "some"] []) (gS : mg "_law_shuffled" = some (.ref fS))
    (FD : Fun K "_law_draw" "_law_draw" sDraw fD fdD) (GD : FnOk P w K mg base CX0 2 fD fdD ["state", "room"] spDraw) (bD : Binds K fdD ["state", "room"] []) (gD : mg "_law_draw" = some (.ref fD))
    (FH : Fun K "_law_hung" "_law_hung" sHung fH fdH) (GH : FnOk P w K mg base CX0 3 fH fdH ["steps", "names"] (spHung K)) (bH : Binds K fdH ["steps", "names"] []) (gH : mg "_law_hung" = some (.ref fH))
    (FN : Fun K "needed" "needed" sNeeded fN fdN) (GN : FnOk P w K mg base (L2.CX P w) 6 fN fdN ["steps", "names"] (spNeeded K CB CN CM)) (bN : Binds K fdN ["steps", "names"] []) (kN : KBn K fdN ["steps", "names"] 0 ["names", "steps"] (fun _ ws => ws.reverse) (fun _ zs => zs.reverse)) (gN : mg "needed" = some (.ref fN))
    (FPt : Fun K "_law_parts" "_law_parts" sParts fPt fdPt) (GPt : FnOk P w K mg base CX0 1 fPt fdPt ["steps"] (spParts K)) (bPt : Binds K fdPt ["steps"] []) (gPt : mg "_law_parts" = some (.ref fPt))
    (FG : Fun K "_law_goes_on" "_law_goes_on" sGoesOn fG fdG) (GG : FnOk P w K mg base CX0 3 fG fdG ["value", "names"] (spSteps K)) (bG : Binds K fdG ["value", "names"] []) (gG : mg "_law_goes_on" = some (.ref fG))
    (FQ : Fun K "is_sequel" "is_sequel" sIsSequel fQ fdQ) (GQ : FnOk P w K mg base (L2.CX P w) 4 fQ fdQ ["value", "names"] (spSequel K CN)) (bQ : Binds K fdQ ["value", "names"] []) (gQ : mg "is_sequel" = some (.ref fQ))
    (lkC : K.lookup fC = some ⟨ocC, odC, .func (PySem.W.fnOf "_law_caught" "_law_caught" (defArgs sCaught) (defBody sCaught) (defScope sCaught) dVC kVC docC pmC anC cdvC ctC), oslC⟩) (hcdC : PySem.W.codeIn K cdvC "_law_caught" = true) (kC : PySem.W.keepIn K (.ref fC) = true)
    (bC : Binds K (PySem.W.fnOf "_law_caught" "_law_caught" (defArgs sCaught) (defBody sCaught) (defScope sCaught) dVC kVC docC pmC anC cdvC ctC) ["action"] []) (gC : mg "_law_caught" = some (.ref fC))
    (gRE : mg "RulerError" = some (.ref CR)) (gNN : mg "NoName" = some (.ref CM)) (exm : PySem.W.exmOne K (.ref CM) (.ref CR) = some true) (kit : PySem.W.kitOne K (.ref CM) (.ref CM) = some true) (EM : ExcC K CM) (hno : PySem.W.findIn K (.ref CM) "name" = some none)
    (mr : mg "range" = none) (mrp : mg "repr" = none) (mi : mg "isinstance" = none) (mli : mg "list" = none) (mtu : mg "tuple" = none) (mlen : mg "len" = none) :
    FnG P w K mg base CX0 9 f (PySem.W.fnOf "_law_needed_right" "_law_needed_right" (defArgs sNeedR) (defBody sNeedR) (defScope sNeedR) dV kV doc pm an (.ref c) ct) ["state", "steps"] (spNeedR K TT) := by
  refine okGL lk hcd scNr (fun vs H Q E h => ?_) (fun A outer s H vs Q E g hr h => ?_)
  · obtain ⟨a, w, c, p, T, ys, st, rfl, _⟩ := h
    rfl
  · obtain ⟨a, w, c0, p, T, ys, st, rfl, hSt, hT, hp, npa, npw, hst, hg, hgood, hl7, hTab, q⟩ := h
    have hr65 : (A.deeper (envOfC "_law_needed_right" (defScope sNeedR) s.heap.objs.size f (.ref c))).units + 65 < cLine := by
      have := hr.un
      omega
    have hr6 : Room 6 _ := hr.mono (by decide)
    have hr4 : Room 4 _ := hr.mono (by decide)
    have hr3 : Room 3 _ := hr.mono (by decide)
    have hr2 : Room 2 _ := hr.mono (by decide)
    have hr1 : Room 1 _ := hr.mono (by decide)
    refine ⟨_, pss_cons (ps_set (i := 2) scNr.nd rfl (.inr rfl) (pe_lst (pa_cons pe_str (pa_cons pe_str (pa_cons pe_str (pa_cons pe_str (pa_cons pe_str pa_nil)))))))
      (pss_cons (ps_setLc (i := 3) (own := [("name", 15), ("deed", 16)]) (g := gTup K 2 (gCons (gName 15) (gCons (gName 16) gNil))) (tt := tYes) rfl scNr.nd rfl rfl (sw_true rfl rfl rfl (by decide +kernel)) (pi_list (pv 1))
          (blkOk_by (own := [("name", 15), ("deed", 16)]) (N := nrN) (sc := defScope sNeedR) (by decide +kernel))
          (fun _ _ _ _ _ => pg_tup (by rfl) (pgs_cons (pg_name (i := 15) scNr.nd rfl (.inl rfl)) (pgs_cons (pg_name (i := 16) scNr.nd rfl (.inl rfl)) pgs_nil)))
          (fun _ _ _ _ _ => pts_nil) (fun _ _ _ _ _ => pv 15))
      (pss_cons (ps_for PassesOwn.never rfl (pi_range1 (by rfl) mr (pa_cons pe_int pa_nil)) (pg_name (i := 4) scNr.nd rfl (.inl rfl))
        (pss_cons (ps_set (i := 5) scNr.nd rfl (.inl rfl) (pe_weak (t' := tNames) (pe_slice sl_list (pe_call GS hr3 (by rfl) gS FS.kp bS .nil pass0 (pa_cons (pv 0) (pa_cons (pe_op op_cat (pv 3) (pv 2)) pa_nil))) po_none
            (po_some (pe_call GD hr2 (by rfl) gD FD.kp bD .nil pass0 (pa_cons (pv 0) (pa_cons pe_int pa_nil))))) ?names))
        (pss_cons (ps_par (i := 6) (j := 7) rfl scNr.nd rfl rfl (by decide) rfl rfl (pa_cons (pe_call GH hr3 (by rfl) gH FH.kp bH .nil pass0 (pa_cons (pv 1) (pa_cons (pv 5) pa_nil)))
            (pa_cons (pe_callB (call_repr g hr) (by rfl) mrp (by decide +kernel) (pa_cons (pe_tup (pa_cons (pv 1) (pa_cons (pv 5) pa_nil))) pa_nil)) pa_nil)) (by rfl))
        (pss_cons (ps_set (i := 8) scNr.nd rfl (.inl rfl) (pe_kw GN hr6 (by rfl) gN FN.kp kN passN (pk_cons (pv 5) (pk_cons (pv 1) pk_nil))))
        (pss_cons (ps_if (PW.pt (pw_or (pt_not (pt_val (pe_callB call_isi (by rfl) mi (by decide +kernel) (pa_cons (pv 8) (pa_cons (pe_bltn (v := .ty "list") (by rfl) mli (by decide +kernel) rfl) pa_nil)))))
            (pw_or (pt_cmpR op_ne (pe_callB (call_repr g hr) (by rfl) mrp (by decide +kernel) (pa_cons (pv 8) pa_nil)) (pe_callB (call_repr g hr) (by rfl) mrp (by decide +kernel) (pa_cons (pv 6) pa_nil)) (nomark _))
            (pw_or1 (pt_cmpR op_ne (pe_callB (call_repr g hr) (by rfl) mrp (by decide +kernel) (pa_cons (pe_tup (pa_cons (pv 1) (pa_cons (pv 5) pa_nil))) pa_nil)) (pv 7) (nomark _)))))) (pss_one (ps_ret pe_bl)) pss_nil)
        (pss_cons (ps_expr (pe_bm PySem.F.plainAttrs_list PySem.F.slot_list_append PySem.F.type_list_append mt_append (pv 8) (pa_cons pe_non pa_nil)))
        (pss_cons (ps_if (pt_cmpR op_ne (pe_callB (call_repr g hr) (by rfl) mrp (by decide +kernel) (pa_cons (pe_call GN hr6 (by rfl) gN FN.kp bN .nil passN
              (pa_cons (pe_callTy call_tuple_of (by rfl) mtu (by decide +kernel) (pa_cons (pv 1) pa_nil)) (pa_cons (pe_callTy call_tuple_of (by rfl) mtu (by decide +kernel) (pa_cons (pv 5) pa_nil)) pa_nil))) pa_nil))
            (pe_callB (call_repr g hr) (by rfl) mrp (by decide +kernel) (pa_cons (pv 6) pa_nil)) (nomark _)) (pss_one (ps_ret pe_bl)) pss_nil)
        (pss_cons (ps_set (i := 9) scNr.nd rfl (.inl rfl) (pe_call GD hr2 (by rfl) gD FD.kp bD .nil pass0 (pa_cons (pv 0) (pa_cons (pe_op op_add (pe_callB call_len_seq (by rfl) mlen PySem.boot_len (pa_cons (pv 5) pa_nil)) pe_int) pa_nil))))
        (pss_cons (ps_set (i := 14) scNr.nd rfl (.inr rfl) (pe_weak (t' := tStrange) (pe_op op_cat (pe_op op_cat (pe_op op_cat (pe_slice sl_list (pv 5) po_none (po_some (pv 9))) (pe_lst (pa_cons pe_str pa_nil))) (pe_slice sl_list (pv 5) (po_some (pv 9)) po_none)) (pe_lst (pa_cons pe_str pa_nil))) ?strange))
        (pss_cons (ps_set (i := 10) scNr.nd rfl (.inl rfl) (pe_cau (T := TT) lkC hcdC kC bC gC gRE TB rfl hmT huT (hr.mono (by decide) : Room (6 + 2) _) (by rfl) (show LamX.LamS (defScope sNeedR) _ from LamX.lamS_by (by decide +kernel)) rfl (fun _ _ _ _ _ => rfl)
            (fun A o s H E f c' hrl => pe_call GN hrl (by rfl) gN FN.kp bN .nil (passes_call (takes_of rfl rfl rfl rfl) (fun _ _ _ _ h => h)) (pa_cons (pv 1) (pa_cons (pv 14) pa_nil)))))
        (pss_cons (ps_if (PW.pt (pw_or (pt_not (pt_val (pe_callB (ErrD.call_isErrD EM) (by rfl) mi (by decide +kernel) (pa_cons (pv 10) (pa_cons (pe_glob (v := .ref CM) (by rfl) gNN rfl) pa_nil)))))
            (pw_or1 (pt_cmpR op_ne (ErrD.pe_errF EM hno (pv 10)) pe_str (nomark _))))) (pss_one (ps_ret pe_bl)) pss_nil)
        (pss_one (ps_weak (t' := tParts K) (ps_for PassesOwn.never rfl (pi_list (pe_call GPt hr1 (by rfl) gPt FPt.kp bPt .nil pass0 (pa_cons (pv 1) pa_nil))) (pg_name (i := 11) scNr.nd rfl (.inr rfl))
          (pss_cons (ps_set (i := 12) scNr.nd rfl (.inl rfl) (pe_call GG hr3 (by rfl) gG FG.kp bG .nil pass0 (pa_cons (pv 11) (pa_cons (pv 2) pa_nil))))
          (pss_cons (ps_if (pt_cmpR op_ne (pe_callB (call_repr g hr) (by rfl) mrp (by decide +kernel) (pa_cons (pe_call GQ hr4 (by rfl) gQ FQ.kp bQ .nil passN (pa_cons (pv 11) (pa_cons (pv 2) pa_nil))) pa_nil))
              (pe_callB (call_repr g hr) (by rfl) mrp (by decide +kernel) (pa_cons (pv 12) pa_nil)) (nomark _)) (pss_one (ps_ret pe_bl)) pss_nil)
          (pss_cons (ps_set (i := 13) scNr.nd rfl (.inl rfl) (pe_cmpR (op_eqD hr.units)
              (pe_lc (own := [("name", 15)]) (g := gName 15) rfl scNr.nd (pi_list (pv 5)) (blkOk_by (own := [("name", 15)]) (N := nrN) (sc := defScope sNeedR) (by decide +kernel)) (fun _ _ _ _ _ => pg_name (i := 15) scNr.nd rfl (.inl rfl))
                (fun _ _ _ _ _ => pts_one (PW.pt (pw_and (pt_cmpR (show OpR _ (compareOp .NotIn) (rIn K true) from op_notIn_seq) (pv 15) (pv 2) (by rfl))
                  (pw_and1 (pt_cmpR (show OpR _ (compareOp .NotIn) (rIn K true) from op_notIn_seq) (pv 15)
                    (pe_weak' (t' := tPtNames K) ?inner) (by rfl))))))
                (fun _ _ _ _ _ => pv 15)) (pe_lst pa_nil) (by rfl)))
          (pss_one (ps_if (PW.pt (pw_and (pt_val (pv 12)) (pw_and (pt_val (pv 13)) (pw_and1 (pt_cmpR (op_neD hr.units)
              (pe_lc (own := [("step", 17)]) (g := gName 17) rfl scNr.nd (pi_list (pv 6)) (blkOk_by (own := [("step", 17)]) (N := nrN) (sc := defScope sNeedR) (by decide +kernel)) (fun _ _ _ _ _ => pg_name (i := 17) scNr.nd rfl (.inl rfl))
                (fun _ _ _ _ _ => pts_one (pt_cmpR (show OpR _ (compareOp .NotIn) (rNotInD K) from op_notInD hr65) (pv 17) (pv 11) (by rfl)))
                (fun _ _ _ _ _ => pv 17)) (pe_lst pa_nil) (by rfl)))))) (pss_one (ps_ret pe_bl)) pss_nil))))))
          ?parts)))))))))))))
      (pss_one (ps_ret pe_bl)))), ?_⟩
    case names =>
      rintro σ H1 Q1 ⟨a, w, c, sh, ow, T, own, h0, h2, h3, hs, hT, hsh, how, hol, hok, hnd, q1⟩
      refine ⟨_, h0, _, h3, _, h2, ow, sh, _, _, rfl, rfl, how, hsh, ?_, fun M nM => ?_⟩
      · rw [List.length_map, List.length_map]
        exact Nat.le_of_lt (small1000 (by show own.length + 5 ≤ 1000; omega))
      have oM := St.off hs nM
      refine ⟨a, w, c, M, T, own ++ sheetL, rfl, St.put hs oM, ?_, .inl (.inl (by rw [upd_same, List.map_append])), ?_, fun z hz => ?_, fun H2 l ys perm nl hl k2 s2 ol => ?_⟩
      · rw [List.length_append]
        show T + (own.length + 5) ≤ 1000000
        omega
      · rw [List.length_append]
        show own.length + 5 ≤ 900
        omega
      · rcases List.mem_append.mp hz with hz | hz
        · exact hok z hz
        · exact (sheet_ok z hz).2.2
      have el : ys.length = own.length + 5 := by
        have := perm.length_eq
        rw [List.length_append] at this
        exact this
      have k12 : Kept a w H1 H2 := (Kept.of (same_upd nM)).trans k2
      refine ⟨_, h0, a, w, c, _, 4, rfl, s2, ?_, by decide, pow1000 (n := 4) (by decide), fun H3 d d0 d1 k3 s3 => ?_⟩
      · rw [List.length_append]
        show T + (own.length + 5) ≤ 1000000
        omega
      obtain ⟨n, rfl⟩ : ∃ n : Nat, d = (n : Int) := ⟨d.toNat, by omega⟩
      have hl3 : H3 l = some (.lst (ys.map V.str)) := k3 _ _ hl ol.1 ol.2.1
      refine ⟨_, rfl, l, _, rfl, .inl (.inl hl3), fun m nm => ?_⟩
      have om := St.off s3 nm
      have k13 := k12.trans k3
      refine q1 _ m (ys.take n) (kept_none k13 nm ⟨om.1, om.2.1⟩) ?_ (k13.trans (Kept.of (same_upd nm))) (St.put (St.mono s3 ?_) om) om ?_ (fun z hz => ?_) ?_
      · rw [upd_same, cut_take _ _ (by rw [List.length_map]; omega), List.map_take]
      · rw [List.length_append]
        show T + (own.length + 5) + 1 ≤ T + 100
        omega
      · exact (perm.nodup_iff.mpr hnd).sublist (List.take_sublist _ _)
      · exact List.mem_append.mp (perm.mem_iff.mp (List.mem_of_mem_take hz))
      · rw [List.length_take]
        omega
    case inner =>
      refine pe_weak (pe_lc (own := [("step", 17)]) (g := gName 17) (tt := tYes) rfl scNr.nd (pi_list (pv 11)) (blkOk_any (sc' := defScope sNeedR) (blkOk_by (own := [("step", 17)]) (N := nrN) (by decide +kernel)) (by decide +kernel)) (fun _ _ _ _ _ => pg_name (i := 17) scNr.nd rfl (.inl rfl))
                      (fun _ _ _ _ _ => pts_nil) (fun _ _ _ _ _ => pe_ix (show IxR _ (rIxT K) from ix_tup) (pv 17) pe_int (fun _ _ => rfl))) ?_
      rintro σ H1 Q1 ⟨y0, y1, y2, y3, y4, y5, y6, y7, y8, y9, y10, y12, y13, y14, y15, y16, y17, b, sub, pt, rfl, hb, hsd, hl, q1⟩
      refine ⟨_, rfl, b, rfl, ⟨_, .inl (.inl hb)⟩, fun D2 nD2 => ?_⟩
      refine lc_list (K := K) (a := b) (xs := sub) (fun j H' => ∃ cs : List Str, H' D2 = some (.lst (cs.map V.str)) ∧ Same H1 H' ∧ cs = (pt.take j).map (·.1))
        ⟨[], upd_same, same_upd nD2, rfl⟩ (fun i H' _ ⟨_, _, sm, _⟩ => .inl (.inl (sm _ _ hb))) ?_ ?_
      · rintro j y H7 hy ⟨cs, hD2, sm7, hcs⟩
        have hj : j < pt.length := by
          have := (List.getElem?_eq_some_iff.mp hy).1
          have := hsd.1
          omega
        have hpj : pt[j]? = some pt[j] := List.getElem?_eq_getElem hj
        generalize pt[j] = pj at hpj
        obtain ⟨yp, zp, rfl, g1, g2, g3⟩ := hsd.2 j y pj hy hpj
        have cl : cs.length ≤ 7 := by
          rw [hcs, List.length_map, List.length_take]
          omega
        refine ⟨rfl, _, rfl, yp, _, 0, _, rfl, rfl, sqT_same g1 sm7, atI_nat (j := 0) rfl, cs.map V.str, hD2, ?_, cs ++ [pj.1], ?_, same_put sm7 nD2, ?_⟩
        · rw [List.length_map]
          exact small1000 (by omega)
        · rw [upd_same, List.map_append]
          rfl
        · rw [hcs, List.take_succ, hpj, List.map_append]
          rfl
      · rintro H7 ⟨cs, hD2, sm7, hcs⟩
        rw [hsd.1, List.take_length] at hcs
        exact q1 H7 D2 sm7 nD2 (hcs ▸ hD2)
    case parts =>
      rintro D σ H1 ⟨x0, x3, x4, x7, x8, x9, x10, x14, y11, y12, y13, p, sh, m, du, ys, zs, st, ns, rfl, hp, hsh, hm, hdu, hst, hzs, hg, hl7, hn3, hno, q1⟩
      refine ⟨_, rfl, p, ys, rfl, hp, fun H2 L qs S2 nL hL hq64 hparts => ⟨L, rfl, ⟨_, .inl (.inl hL)⟩, for_list (K := K) (a := L) (xs := qs) (fun i σ H' => ∃ y11 y12 y13 : Option V, σ = [some x0, some (.ref p), some (.ref sh), some x3, some x4, some (.ref m), some (.ref du), some x7, some x8, some x9, some x10, y11, y12, y13, some x14, none, none, none] ∧ Same H2 H')
        ⟨_, _, _, rfl, same_rfl⟩ (fun i σ H' _ ⟨_, _, _, _, sm⟩ => .inl (.inl (sm _ _ hL))) ?_ ?_⟩⟩
      · rintro i x σ H3 hx ⟨y11, y12, y13, rfl, sm⟩
        obtain ⟨b, sub, rfl, hb, hsub⟩ := hparts x (List.mem_of_getElem? hx)
        have S3 : Same H1 H3 := S2.trans sm
        obtain ⟨pt, hpt, hsd⟩ := part_sdl hsub st (hst.tk (TK.of S3))
        have hb3 : H3 b = some (.lst sub) := sm _ _ hb
        have pl : pt.length ≤ 7 := Nat.le_trans hpt.length_le hl7
        have es : sub.length = pt.length := hsd.1
        generalize er : goesB (pt.map sdOf) sheetL = r
        refine ⟨_, rfl, _, rfl, .ref b, some (pt.map sdOf), sh, sheetL, rfl, hsd.sv (.inl (.inl (.inl hb3))) (by omega), .inl (.inl (.inl (S3 _ _ hsh))), by decide, fun H4 S4 => ?_⟩
        have er' : goesO (some (pt.map sdOf)) sheetL = r := er
        rw [er']
        refine ⟨_, rfl, _, rfl, .ref b, .ref sh, some (pt.map sdOf), rfl, .inr ⟨(hsd.sv (.inl (.inl (.inl hb3))) (by omega)).same S4, sh, sheetL, rfl, .inl (.inl (.inl (S4 _ _ (S3 _ _ hsh)))), by decide, sheet_ok, sheet_nodup, fun H5 S5 => ?_⟩⟩
        rw [er']
        obtain ⟨w1, w2, w3, w4⟩ := show_bool r
        refine ⟨.bl r, .bool r, rfl, .bl r, w1, w2, w3, w4, _, rfl, .bl r, .bool r, rfl, .bl r, w1, w2, w3, w4, rfl, _, rfl, iteNS rfl ?_⟩
        have S15 : Same H1 H5 := S3.trans (S4.trans S5)
        have hb5 : H5 b = some (.lst sub) := S5 _ _ (S4 _ _ hb3)
        have hsd5 : Sdl K H5 sub pt := hsd.tk (TK.of (S4.trans S5))
        have sm5 : Same H2 H5 := sm.trans (S4.trans S5)
        have stz : ∀ (i : Nat) (x : V), (ns.map V.str)[i]? = some x → ∃ z, x = V.str z ∧ ns[i]? = some z := fun i x hx => by
          rw [List.getElem?_map] at hx
          cases e : ns[i]? with
          | none => rw [e] at hx; cases hx
          | some z => rw [e] at hx; exact ⟨z, (Option.some.inj hx).symm, rfl⟩
        clear S4 S5 hb3 hsd S3 sm
        -- has
        refine ⟨_, rfl, m, rfl, ⟨_, .inl (.inl (S15 _ _ hm))⟩, fun D1 nD1 => ?_⟩
        refine lc_list (K := K) (a := m) (xs := ns.map V.str) (fun i H' => ∃ bs : List Str, H' D1 = some (.lst (bs.map V.str)) ∧ Same H5 H' ∧ bs = (ns.take i).filter (fun z => !decide (z ∈ sheetL) && !decide (z ∈ pt.map (·.1))))
          ⟨[], upd_same, same_upd nD1, rfl⟩ (fun i H' _ ⟨_, _, sm, _⟩ => .inl (.inl (sm _ _ (S15 _ _ hm)))) ?_ ?_
        · rintro i x H6 hx ⟨bs, hD, sm6, hbs⟩
          obtain ⟨z, rfl, hz⟩ := stz i x hx
          have step : (ns.take (i + 1)).filter (fun z => !decide (z ∈ sheetL) && !decide (z ∈ pt.map (·.1))) = bs ++ (if (!decide (z ∈ sheetL) && !decide (z ∈ pt.map (·.1))) = true then [z] else []) := by
            rw [hbs, List.take_succ, List.filter_append, hz]
            show _ ++ List.filter _ [z] = _
            rw [List.filter_cons, List.filter_nil]
          have bl : bs.length ≤ 3 := by
            rw [hbs]
            refine Nat.le_trans (List.length_filter_le _ _) ?_
            rw [List.length_take]
            omega
          refine ⟨rfl, _, rfl, _, rfl, sh, sheetL.map V.str, rfl, .inl (.inl (.inl (sm6 _ _ (S15 _ _ hsh)))), rfl, strs_flat _, _, rfl, ?_⟩
          show if (!inV (.str z) (sheetL.map V.str)) = true then _ else _
          rw [inV_kn]
          by_cases h1 : z ∈ sheetL
          · refine iteF2 (by rw [decide_eq_true h1]; rfl) ⟨bs, hD, sm6, ?_⟩
            rw [step, decide_eq_true h1]
            simp
          refine iteT2 (by rw [decide_eq_false h1]; rfl) ?_
          refine ⟨_, rfl, _, _, _, _, _, _, _, _, _, _, _, _, _, _, _, _, _, b, sub, pt, rfl, sm6 _ _ hb5, hsd5.tk (TK.of sm6), pl, fun H7 D2 sm7 nD2 hD2 => ?_⟩
          · refine ⟨D2, (pt.map (·.1)).map V.str, rfl, .inl (.inl (.inl hD2)), rfl, strs_flat _, _, rfl, ?_⟩
            show if (!inV (.str z) ((pt.map (·.1)).map V.str)) = true then _ else _
            rw [inV_kn]
            have hD7 := sm7 _ _ hD
            by_cases h2 : z ∈ pt.map (·.1)
            · refine iteF2 (by rw [decide_eq_true h2]; rfl) ⟨bs, hD7, sm6.trans sm7, ?_⟩
              rw [step, decide_eq_true h2]
              simp
            · refine iteT2 (by rw [decide_eq_false h2]; rfl) ⟨_, rfl, bs.map V.str, hD7, ?_, bs ++ [z], ?_, same_put (sm6.trans sm7) nD1, ?_⟩
              · rw [List.length_map]
                exact small1000 (by omega)
              · rw [upd_same, List.map_append]
                rfl
              · rw [step, decide_eq_false h1, decide_eq_false h2]
                rfl
        · rintro H6 ⟨bs, hD, sm6, hbs⟩
          rw [List.length_map, List.take_length] at hbs
          refine ⟨Nat.zero_le _, fun l nl => ?_⟩
          have nDl : D1 ≠ l := ne_of_none hD nl
          have bok : ∀ x ∈ bs, PyData.strOk x = true := fun x hx => by
            rw [hbs] at hx
            exact hno x (List.mem_filter.mp hx).1
          refine ⟨_, _, dp_strs (.inl (.inl ((upd_ne nDl).trans hD))), dp_nil upd_same, shaped_strs bok, shaped_nil, ?_⟩
          rw [eqv_nil]
          have S17 : Same H1 (upd H6 l (.lst [])) := S15.trans (sm6.trans (same_upd nl))
          have sm7 : Same H2 (upd H6 l (.lst [])) := sm5.trans (sm6.trans (same_upd nl))
          have hb7 : (upd H6 l (.lst [])) b = some (.lst sub) := same_upd nl _ _ (sm6 _ _ hb5)
          have hsd7 : Sdl K (upd H6 l (.lst [])) sub pt := hsd5.tk (TK.of (sm6.trans (same_upd nl)))
          generalize upd H6 l (.lst []) = H7 at S17 sm7 hb7 hsd7
          refine ⟨_, rfl, r, rfl, ?_⟩
          cases r with
          | false => exact iteF ⟨_, _, _, rfl, sm7⟩
          | true =>
            refine iteT ⟨_, rfl, bs.isEmpty, rfl, ?_⟩
            cases eb : bs.isEmpty with
            | false => exact iteF ⟨_, _, _, rfl, sm7⟩
            | true =>
              have eb' := List.isEmpty_iff.mp eb
              have hin : ∀ z ∈ ns, z ∈ st.map (·.1) → z ∈ pt.map (·.1) := fun z hz hs => by
                rw [eb'] at hbs
                have := List.filter_eq_nil_iff.mp hbs.symm z hz
                by_cases h2 : z ∈ pt.map (·.1)
                · exact h2
                · have h1 : z ∉ sheetL := fun h => by
                    obtain ⟨q, hq, rfl⟩ := List.mem_map.mp hs
                    exact later_fresh st sheetL hg q hq h
                  rw [decide_eq_false h1, decide_eq_false h2] at this
                  exact absurd rfl this
              have all := back_part (ns := ns) hg er (fun p h => hpt.subset h) hin
              refine iteT ⟨_, rfl, du, rfl, ⟨_, .inl (.inl (S17 _ _ hdu))⟩, fun D3 nD3 => ?_⟩
              have hzs7 : Sdl K H7 zs (st.filter fun p => decide (p.1 ∈ backW st ns)) := hzs.tk (TK.of S17)
              have ptA := Sdl.atoms hsd7
              refine lc_list (K := K) (a := du) (xs := zs) (fun i H' => H' D3 = some (.lst []) ∧ Same H7 H') ⟨upd_same, same_upd nD3⟩ (fun i H' _ ⟨_, sm⟩ => .inl (.inl (sm _ _ (S17 _ _ hdu)))) ?_ ?_
              · rintro j y H8 hy ⟨hD3, sm8⟩
                have hj : j < (st.filter fun p => decide (p.1 ∈ backW st ns)).length := by
                  have := (List.getElem?_eq_some_iff.mp hy).1
                  have := hzs7.1
                  omega
                have hpj := List.getElem?_eq_getElem hj
                have mem := List.getElem_mem hj
                generalize (st.filter fun p => decide (p.1 ∈ backW st ns))[j] = pj at hpj mem
                have hy7 := hzs7.2 j y pj hy hpj
                have hpt' : pj ∈ pt := all pj (List.mem_filter.mp mem).1 (of_decide_eq_true (List.mem_filter.mp mem).2)
                obtain ⟨h5, h6⟩ := ptA pj hpt'
                have hsd8 : Sdl K H8 sub pt := hsd7.tk (TK.of sm8)
                refine ⟨rfl, _, rfl, _, rfl, stepD pj, pt.map stepD, dp_step (hy7.tk (TK.of sm8)), hsd8.lst (.inl (.inl (sm8 _ _ hb7))), shaped_step h5 h6, shaped_steps ptA, _, rfl, ?_⟩
                rw [mem_steps hpt' h5 h6]
                exact iteF ⟨hD3, sm8⟩
              · rintro H8 ⟨hD3, sm8⟩
                refine ⟨Nat.zero_le _, fun l2 nl2 => ?_⟩
                have n3 : D3 ≠ l2 := ne_of_none hD3 nl2
                refine ⟨_, _, dp_strs (xs := []) (.inl (.inl ((upd_ne n3).trans hD3))), dp_nil upd_same, shaped_strs (fun _ h => absurd h List.not_mem_nil), shaped_nil, _, rfl, ?_⟩
                rw [eqv_nil]
                exact iteF ⟨_, _, _, rfl, sm7.trans (sm8.trans (same_upd nl2))⟩
      · rintro σ H3 ⟨y11, y12, y13, rfl, sm⟩
        exact q1 H3 _ _ _ (S2.trans sm)
    case strange =>
      rintro σ H1 Q1 ⟨m, n, ns, h5, h9, hm, hn, hl, q1⟩
      refine ⟨_, h5, _, h9, _, rfl, m, _, rfl, .inl (.inl hm), fun q1a nq1 => ⟨by show 1 ≤ sizeLine; decide, fun q2 nq2 => ?_⟩⟩
      have n12 : q1a ≠ q2 := fun z => by rw [← z, upd_same] at nq2; cases nq2
      have c1 : cutV (ns.map V.str) none (some (n : Int)) = (ns.take n).map V.str := by rw [cut_take _ _ (by rw [List.length_map]; exact hn), List.map_take]
      have c2 : cutV (ns.map V.str) (some (n : Int)) none = (ns.drop n).map V.str := by rw [cut_drop _ _ (by rw [List.length_map]; exact hn), List.map_drop]
      have S2 : Same H1 (upd (upd H1 q1a (.lst (cutV (ns.map V.str) none (some (n : Int))))) q2 (.lst [.str "notthere"])) := (same_upd nq1).trans (same_upd nq2)
      refine ⟨q1a, q2, _, _, rfl, rfl, (upd_ne n12).trans upd_same, upd_same, ?_, fun q3 nq3 => ?_⟩
      · rw [c1, List.length_map, List.length_take]
        exact Nat.le_of_lt (small1000 (by show min n ns.length + 1 ≤ 1000; omega))
      have S3 := S2.trans (same_upd (o := .lst (cutV (ns.map V.str) none (some (n : Int)) ++ [.str "notthere"])) nq3)
      refine ⟨_, h5, _, h9, _, rfl, m, _, rfl, .inl (.inl (S3 _ _ hm)), fun q4 nq4 => ?_⟩
      have n34 : q3 ≠ q4 := fun z => by rw [← z, upd_same] at nq4; cases nq4
      have S4 := S3.trans (same_upd (o := .lst (cutV (ns.map V.str) (some (n : Int)) none)) nq4)
      refine ⟨q3, q4, _, _, rfl, rfl, (upd_ne n34).trans upd_same, upd_same, ?_, fun q5 nq5 => ⟨by show 1 ≤ sizeLine; decide, fun q6 nq6 => ?_⟩⟩
      · rw [c1, c2, List.length_append, List.length_map, List.length_map, List.length_take, List.length_drop]
        exact Nat.le_of_lt (small1000 (by show min n ns.length + 1 + _ ≤ 1000; omega))
      have n56 : q5 ≠ q6 := fun z => by rw [← z, upd_same] at nq6; cases nq6
      have S5 := S4.trans (same_upd (o := .lst ((cutV (ns.map V.str) none (some (n : Int)) ++ [.str "notthere"]) ++ cutV (ns.map V.str) (some (n : Int)) none)) nq5)
      have S6 := S5.trans (same_upd (o := .lst [.str "n0"]) nq6)
      refine ⟨q5, q6, _, _, rfl, rfl, (upd_ne n56).trans upd_same, upd_same, ?_, fun q7 nq7 => ?_⟩
      · rw [c1, c2, List.length_append, List.length_append, List.length_map, List.length_map, List.length_take, List.length_drop]
        exact Nat.le_of_lt (small1000 (by show min n ns.length + 1 + _ + 1 ≤ 1000; omega))
      refine q1 _ q7 (S6.trans (same_upd nq7)) (PySem.Spec.same_none S6 nq7) ?_
      rw [upd_same, c1, c2]
      unfold N22.putIn
      rw [List.map_append, List.map_append, List.map_append]
      rfl
    -- the sheet's names, the own ones
    refine ⟨by show 5 ≤ sizeLine; decide, fun sh nsh => ?_⟩
    have osh := St.off hSt nsh
    have S1 : Same H (upd H sh (.lst (sheetL.map V.str))) := same_upd nsh
    have hsh1 : (upd H sh (.lst (sheetL.map V.str))) sh = some (.lst (sheetL.map V.str)) := upd_same
    refine ⟨_, rfl, p, rfl, ⟨_, S1.seq hp⟩, fun D nD => ?_⟩
    have nsD : sh ≠ D := ne_of_none hsh1 nD
    have nD0 : H D = none := PySem.Spec.same_none S1 nD
    refine lc_list (K := K) (a := p) (xs := ys) (fun i H' => ∃ cs : List Str, H' D = some (.lst (cs.map V.str)) ∧ H' sh = some (.lst (sheetL.map V.str)) ∧ Same H H' ∧ cs = (st.take i).map (·.1))
      ⟨[], upd_same, (upd_ne nsD).trans hsh1, same_put S1 nD0, rfl⟩ (fun i H' _ ⟨_, _, _, sm, _⟩ => sm.seq hp) ?_ ?_
    · rintro i y H2 hy ⟨cs, hD, hsh2, sm, hcs⟩
      have hj : i < st.length := by
        have := (List.getElem?_eq_some_iff.mp hy).1
        have := hst.1
        omega
      have hpj : st[i]? = some st[i] := List.getElem?_eq_getElem hj
      generalize st[i] = pj at hpj
      obtain ⟨yp, zp, rfl, g1, g2, g3⟩ := hst.2 i y pj hy hpj
      refine ⟨yp, _, rfl, sqT_same g1 sm, rfl, _, _, rfl, _, _, rfl, rfl, rfl, _, rfl, cs.map V.str, hD, ?_, cs ++ [pj.1], ?_, (upd_ne nsD).trans hsh2, same_put sm nD0, ?_⟩
      · rw [List.length_map, hcs, List.length_map, List.length_take]
        exact small1000 (by omega)
      · rw [upd_same, List.map_append]
        rfl
      · rw [hcs, List.take_succ, hpj, List.map_append]
        rfl
    · rintro H2 ⟨cs, hD2, hsh2, S2, hcs⟩
      rw [hst.1, List.take_length] at hcs
      subst hcs
      have s2 : St H2 a w c0 T := St.same hSt S2
      have t2 : LamX.Tabs TT H2 := tabs_same hTab S2
      have oD := St.off hSt nD0
      have hp2 : SqL K H2 p ys := S2.seq hp
      have hst2 : Sdl K H2 ys st := hst.tk (TK.of S2)
      have lenSt : ∀ q ∈ st, q.2.length ≤ 20 := fun q hq => by
        have := deed_len (goes_deeds st _ hg q hq).1
        omega
      have hnd : (st.map (·.1) ++ sheetL).Nodup := by
        rw [List.nodup_append]
        refine ⟨goes_nodup st _ hg, sheet_nodup, fun x hx y hy e => ?_⟩
        obtain ⟨q, hq, rfl⟩ := List.mem_map.mp hx
        exact later_fresh st sheetL hg q hq (e ▸ hy)
      have hown : ∀ z ∈ st.map (·.1), goodN z = true := fun z hz => by
        obtain ⟨q, hq, rfl⟩ := List.mem_map.mp hz
        exact hgood q hq
      refine ⟨3, rfl, by decide, by decide, for_range (lo := 0) (n := 3) (fun i σ H' => ∃ (y4 y5 y6 y7 y8 y9 y10 y11 y12 y13 y14 : Option V), σ = [some (.ref a), some (.ref p), some (.ref sh), some (.ref D), y4, y5, y6, y7, y8, y9, y10, y11, y12, y13, y14, none, none, none] ∧ KeptN a w H2 H' ∧ St H' a w c0 (T + 110 * i) ∧ LamX.Tabs TT H')
        ⟨_, _, _, _, _, _, _, _, _, _, _, rfl, .refl, s2, t2⟩ ?_ ?_⟩
      · rintro i σ H3 hi ⟨y4, y5, y6, y7, y8, y9, y10, y11, y12, y13, y14, rfl, k3, s3, t3⟩
        have hsh3 := k3.lst hsh2 ⟨osh.1, osh.2.1⟩
        have hD3 := k3.lst hD2 ⟨oD.1, oD.2.1⟩
        refine ⟨a, w, c0, sh, D, T + 110 * i, st.map (·.1), rfl, rfl, rfl, s3, by omega, hsh3, hD3, by rw [List.length_map]; omega, fun z hz => (good_name (hown z hz)).2.1, hnd, fun H4 m ns nm hm k4 s4 om nsN nsM nsl => ?_⟩
        have k24 := k3.trans (.of k4)
        have t4 : LamX.Tabs TT H4 := tabs_kept t3 s3 k4
        have hp4 : SqL K H4 p ys := k24.seqL hp2 ⟨npa, npw⟩
        have hst4 : Sdl K H4 ys st := hst2.tk (k24.tk s2)
        have okn : ∀ z ∈ ns, nameS z = true ∧ z.length ≤ 4000 ∧ PyData.strOk z = true := fun z hz => by
          rcases nsM z hz with h | h
          · obtain ⟨h1, h2, h3⟩ := good_name (hown z h)
            exact ⟨h1, by omega, h2⟩
          · exact sheet_ok z h
        have atn : ∀ z ∈ ns, AtomV (.str z) = true := fun z hz => by
          obtain ⟨_, h2, h3⟩ := okn z hz
          show (decide (z.length ≤ 4000) && PyData.strOk z) = true
          rw [decide_eq_true h2, h3]
          rfl
        have lost : ∀ z ∈ ns, lostB st z = false := fun z hz => by
          unfold lostB
          rcases nsM z hz with h | h
          · rw [decide_eq_true h]
            rfl
          · rw [decide_eq_true h]
            simp
        have hfind : ns.find? (lostB st) = none := List.find?_eq_none.mpr fun z hz => by rw [lost z hz]; exact Bool.false_ne_true
        have hnO : namesO (some (ns.map some)) = true := N7.names_ok nsN fun z hz => (okn z hz).1
        refine ⟨_, rfl, _, rfl, p, m, ys, st, ns, rfl, hp4, .inl (.inl hm), hst4.1, by omega, by omega, fun z hz => (okn z hz).2.2, hst4.2, hg, fun H5 du zs S5 ndu hdu hzl hzs => ?_⟩
        have hzs5 : Sdl K H5 zs (st.filter fun p => decide (p.1 ∈ backW st ns)) := ⟨hzl, hzs⟩
        have hm5 := S5 _ _ hm
        have hp5 := S5.seq hp4
        have hst5 : Sdl K H5 ys st := hst4.tk (TK.of S5)
        have t5 := tabs_same t4 S5
        have s5 : St H5 a w c0 _ := St.same s4 S5
        have k25 := k24.trans (KeptN.same S5)
        have odu := St.off s4 ndu
        clear hzl hzs hp4 hst4 t4 s4 k24
        obtain ⟨b1, b2, b3, b4⟩ := both_show (ns := ns) hst5 hl7 lenSt (by omega) atn
        have fl : (st.filter fun p => decide (p.1 ∈ backW st ns)).length ≤ 7 := Nat.le_trans (List.length_filter_le _ _) hl7
        obtain ⟨f1, f2, f3, f4⟩ := Sdl.show hzs5 fl fun q hq => lenSt q (List.mem_filter.mp hq).1
        have f4' : (PyData.list ((st.filter fun p => decide (p.1 ∈ backW st ns)).map stepD)).shown.length ≤ sizeLine := by
          rw [sizeLine_eq]
          omega
        have f3' : (PyData.list ((st.filter fun p => decide (p.1 ∈ backW st ns)).map stepD)).depth ≤ 60 := by omega
        refine ⟨_, rfl, _, rfl, by show 2 ≤ sizeLine; decide, fun tp ntp => ?_⟩
        have S6 : Same H5 (upd H5 tp (.tup [.ref p, .ref m])) := same_upd ntp
        have dBoth : ∀ (H' : Hp) (q : Addr), Same H5 H' → H' q = some (.tup [.ref p, .ref m]) → Dp K H' (.ref q) (PyData.tuple [.list (st.map stepD), .list (ns.map PyData.str)]) := fun H' q S h =>
          .tup (.inl (.inl h)) (.cons ((hst5.tk (TK.of S)).lst (S.seq hp5)) (.cons (dp_strs (.inl (.inl (S _ _ hm5)))) .nil))
        refine ⟨.ref tp, _, rfl, dBoth _ tp S6 upd_same, b1, b2, b3, b4, _, _, rfl, ?_⟩
        generalize upd H5 tp (.tup [.ref p, .ref m]) = H6 at S6
        have hp6 := S6.seq hp5
        have hm6 := S6 _ _ hm5
        have hdu6 := S6 _ _ hdu
        have hst6 : Sdl K H6 ys st := hst5.tk (TK.of S6)
        have hzs6 : Sdl K H6 zs (st.filter fun p => decide (p.1 ∈ backW st ns)) := hzs5.tk (TK.of S6)
        -- found
        refine ⟨_, rfl, _, rfl, rfl, .ref p, .ref m, some (st.map sdOf), some (ns.map some), rfl, Sdl.sv hst6 (.inl hp6) (by omega), nv_names (.inl (.inl (.inl hm6))) (by omega) okn, .inr (.inr ⟨hg, hnO, p, m, ys, st, ns, rfl, .inl hp6, rfl, hst6.1, by omega, hst6.ok, rfl, .inl (.inl (.inl hm6)), by omega, .inr ⟨hfind, fun H7 l S7 nl hl => ?_⟩⟩)⟩
        have hfl7 : Sdl K H7 (pickW ys st (backW st ns)) (st.filter fun p => decide (p.1 ∈ backW st ns)) := pick_sdl _ ys st (hst6.tk (TK.of S7))
        have hzs7 : Sdl K H7 zs (st.filter fun p => decide (p.1 ∈ backW st ns)) := hzs6.tk (TK.of S7)
        have hdu7 := S7 _ _ hdu6
        refine ⟨_, rfl, .ref l, .ty "list", .type "list", .type "list", true, rfl, .ty _, .base (.lst hl), kit_ty (by decide +kernel), true, rfl, iteF ?_⟩
        refine ⟨_, rfl, .ref l, _, rfl, hfl7.lst (.inl (.inl hl)), f1, f2, f3', f4', _, rfl, .ref du, _, rfl, hzs7.lst (.inl (.inl hdu7)), f1, f2, f3', f4', rfl, _, rfl, iteNS rfl ?_⟩
        refine ⟨_, rfl, _, rfl, by show 2 ≤ sizeLine; decide, fun tq ntq => ⟨.ref tq, _, rfl, dBoth _ tq (S6.trans (S7.trans (same_upd ntq))) upd_same, b1, b2, b3, b4, _, rfl, rfl, _, rfl, iteNS rfl ?_⟩⟩
        have S8 : Same H7 (upd H7 tq (.tup [.ref p, .ref m])) := same_upd ntq
        generalize upd H7 tq (.tup [.ref p, .ref m]) = H8 at S8
        -- one more in it
        have pl : (pickW ys st (backW st ns)).length ≤ 7 := by
          have := hfl7.1
          omega
        refine ⟨_, rfl, .inl ⟨rfl, _, .inl (.inl (S8 _ _ hl))⟩, l, _, _, rfl, rfl, S8 _ _ hl, small1000 (by omega), ?_⟩
        have S9 : Same H6 (upd H8 l (.lst (pickW ys st (backW st ns) ++ [.non]))) := same_put (S7.trans S8) nl
        generalize upd H8 l (.lst (pickW ys st (backW st ns) ++ [.non])) = H9 at S9
        clear hfl7 hzs7 hdu7 S8 hl nl S7
        -- again
        have hp9 := S9.seq hp6
        refine ⟨_, rfl, p, _, rfl, .inl ⟨hp9, fun ta nta => ?_⟩⟩
        have S10 : Same H9 (upd H9 ta (.tup ys)) := same_upd nta
        have ha10 : (upd H9 ta (.tup ys)) ta = some (.tup ys) := upd_same
        generalize upd H9 ta (.tup ys) = H10 at S10 ha10
        refine ⟨_, rfl, m, _, rfl, .inl ⟨.inl (.inl (S10 _ _ (S9 _ _ hm6))), fun tb ntb => ?_⟩⟩
        have S11 : Same H10 (upd H10 tb (.tup (ns.map V.str))) := same_upd ntb
        have hb11 : (upd H10 tb (.tup (ns.map V.str))) tb = some (.tup (ns.map V.str)) := upd_same
        have ha11 := S11 _ _ ha10
        generalize upd H10 tb (.tup (ns.map V.str)) = H11 at S11 hb11 ha11
        have S611 : Same H6 H11 := S9.trans (S10.trans S11)
        have hst11 : Sdl K H11 ys st := hst6.tk (TK.of S611)
        refine ⟨.ref ta, .ref tb, some (st.map sdOf), some (ns.map some), rfl, Sdl.sv hst11 (.inr (.inl (.inl ha11))) (by omega), nv_names (.inr (.inl (.inl hb11))) (by omega) okn, .inr (.inr ⟨hg, hnO, ta, tb, ys, st, ns, rfl, .inr (.inl (.inl ha11)), rfl, hst11.1, by omega, hst11.ok, rfl, .inr (.inl (.inl hb11)), by omega, .inr ⟨hfind, fun H12 l2 S12 nl2 hl2 => ?_⟩⟩)⟩
        have hfl12 : Sdl K H12 (pickW ys st (backW st ns)) (st.filter fun p => decide (p.1 ∈ backW st ns)) := pick_sdl _ ys st (hst11.tk (TK.of S12))
        have S612 : Same H6 H12 := S611.trans S12
        have hzs12 : Sdl K H12 zs (st.filter fun p => decide (p.1 ∈ backW st ns)) := hzs6.tk (TK.of S612)
        refine ⟨.ref l2, _, rfl, hfl12.lst (.inl (.inl hl2)), f1, f2, f3', f4', _, rfl, .ref du, _, rfl, hzs12.lst (.inl (.inl (S612 _ _ hdu6))), f1, f2, f3', f4', rfl, _, rfl, iteNS rfl ?_⟩
        clear hfl12 hl2 nl2 hst11 S611 S11 S10 S9 hb11 ha11 ha10 hp9 S12
        have S512 : Same H5 H12 := S6.trans S612
        have s12 : St H12 a w c0 _ := St.same s5 S512
        have t12 := tabs_same t5 S512
        have k12 := k25.trans (KeptN.same S512)
        have hm12 := S612 _ _ hm6
        -- the place of the strange name
        refine ⟨_, rfl, _, rfl, m, _, rfl, .inl (.inl (.inl hm12)), _, 1, rfl, rfl, a, w, c0, _, _, rfl, s12, by omega, by omega, ?_, fun H13 d d0 d1 k13 s13 => ?_⟩
        · exact pow1000 (n := (ns.map V.str).length + 1) (by rw [List.length_map]; omega)
        obtain ⟨n, rfl⟩ : ∃ n : Nat, d = (n : Int) := ⟨d.toNat, by omega⟩
        have hn : n ≤ ns.length := by
          rw [List.length_map] at d1
          omega
        have hp13 : SqL K H13 p ys := seqL_kept (S612.seq hp6) k13 npa npw
        have hm13 := k13 _ _ hm12 om.1 om.2.1
        have hdu13 := k13 _ _ (S612 _ _ hdu6) odu.1 odu.2.1
        have tk13 : TK K H6 H13 := (TK.of S612).trans (TK.kept s12 k13)
        have hst13 : Sdl K H13 ys st := hst6.tk tk13
        have hzs13 : Sdl K H13 zs (st.filter fun p => decide (p.1 ∈ backW st ns)) := hzs6.tk tk13
        have t13 := tabs_kept t12 s12 k13
        have k213 := k12.trans (.of k13)
        have hsh13 := k213.lst hsh2 ⟨osh.1, osh.2.1⟩
        clear k13 tk13 s12 t12 k12 hm12 S512 S612
        -- the strange names
        refine ⟨m, n, ns, rfl, rfl, hm13, hn, nsl, fun H14 sg S14 nsg hsg => ?_⟩
        refine ⟨tabs_same t13 S14, fun H15 ext t15 => ?_⟩
        have ex15 : LamX.ExtN H13 H15 := (LamX.ExtN.of S14).trans ext
        have hp15 : SqL K H15 p ys := seqL_ext' hp13 ex15
        have hst15 : Sdl K H15 ys st := hst13.tk (tk_ext ex15)
        have hsg15 := ext _ _ hsg (fun _ z => by cases z)
        have h1 : ("notthere" : Str) ∉ ns := fun h => by
          rcases nsM _ h with h | h
          · exact (good_odd (hown _ h)).1 rfl
          · exact sheet_odd.1 h
        have h2 : ("n0" : Str) ∉ ns := fun h => by
          rcases nsM _ h with h | h
          · exact (good_odd (hown _ h)).2 rfl
          · exact sheet_odd.2 h
        have odd2 : nameS "notthere" = true ∧ ("notthere" : Str).length ≤ 4000 ∧ PyData.strOk "notthere" = true := by decide +kernel
        have odd3 : nameS "n0" = true ∧ ("n0" : Str).length ≤ 4000 ∧ PyData.strOk "n0" = true := by decide +kernel
        have okp : ∀ z ∈ N22.putIn ns n, nameS z = true ∧ z.length ≤ 4000 ∧ PyData.strOk z = true := fun z hz => by
          rcases put_mem hz with h | rfl | rfl
          · exact okn z h
          · exact odd2
          · exact odd3
        have hnO2 : namesO (some ((N22.putIn ns n).map some)) = true := N7.names_ok (put_nodup nsN h1 h2) fun z hz => (okp z hz).1
        have lostN : lostB st "notthere" = true := by
          have g1 : ("notthere" : Str) ∉ st.map (·.1) := fun h => (good_odd (hown _ h)).1 rfl
          unfold lostB
          rw [decide_eq_false g1, decide_eq_false sheet_odd.1]
          rfl
        have hpl : (N22.putIn ns n).length ≤ 90 := by
          unfold N22.putIn
          rw [List.length_append, List.length_append, List.length_append, List.length_take, List.length_drop]
          show min n ns.length + 1 + _ + 1 ≤ 90
          omega
        refine ⟨_, rfl, _, rfl, .ref p, .ref sg, some (st.map sdOf), some ((N22.putIn ns n).map some), rfl, Sdl.sv hst15 (.inl hp15) (by omega), nv_names (.inl (.inl (.inl hsg15))) hpl okp, .inr (.inr ⟨hg, hnO2, p, sg, ys, st, N22.putIn ns n, rfl, .inl hp15, rfl, hst15.1, by omega, hst15.ok, rfl, .inl (.inl (.inl hsg15)), hpl, .inl ⟨"notthere", put_find lost lostN, fun H16 dd S16 ndd hdd => ⟨exm, fun e ne => ?_⟩⟩⟩)⟩
        have nde : dd ≠ e := ne_of_none hdd ne
        have hE : (upd H16 e (ErrO (.ref CM) (some dd) e)) e = some (ErrO (.ref CM) (some dd) e) := upd_same
        have hdd17 : (upd H16 e (ErrO (.ref CM) (some dd) e)) dd = some (.xd [("name", .str "notthere")]) := (upd_ne nde).trans hdd
        have S17 : Same H15 (upd H16 e (ErrO (.ref CM) (some dd) e)) := S16.trans (same_upd ne)
        generalize upd H16 e (ErrO (.ref CM) (some dd) e) = H17 at hE hdd17 S17
        refine ⟨_, rfl, e, dd, _, .ref CM, .ref CM, true, rfl, hE, hdd17, fun u r => r, kit, true, rfl, iteF ?_⟩
        refine ⟨_, rfl, e, dd, _, .str "notthere", rfl, hE, hdd17, rfl, rfl, _, rfl, iteNS rfl ?_⟩
        have ex17 : LamX.ExtN H13 H17 := ex15.trans (LamX.ExtN.of S17)
        have low : ∀ {b : Addr} {zs : List V}, H13 b = some (.lst zs) → H17 b = some (.lst zs) := fun h => ex17 _ _ h (fun _ z => by cases z)
        refine ⟨_, _, _, _, _, _, _, _, _, _, _, p, sh, m, du, ys, zs, st, ns, rfl, seqL_ext' hp13 ex17, low hsh13, low hm13, low hdu13, hst13.tk (tk_ext ex17), hzs13.tk (tk_ext ex17), hg, hl7, nsl, fun z hz => (okn z hz).2.2, fun H18 y11 y12 y13 S18 => ?_⟩
        have ex18 : LamX.ExtN H13 H18 := ex17.trans (LamX.ExtN.of S18)
        exact ⟨_, _, _, _, _, _, _, _, _, _, _, rfl, k213.trans (.ext ex18), St.mono (St.ext s13 ex18) (by omega), tabs_same t15 (S17.trans S18)⟩
      · rintro σ H3 ⟨y4, y5, y6, y7, y8, y9, y10, y11, y12, y13, y14, rfl, k3, s3, t3⟩
        have k03 : KeptN a w H H3 := (KeptN.same S2).trans k3
        exact q H3 k03 (St.mono s3 (by omega)) t3
end
end N23

set_option Elab.async false
set_option linter.all false
set_option maxRecDepth 100000
set_option maxHeartbeats 4000000
namespace N24
open PySem PySem.Spec PyProof.Rows L2 Cau Dr27 N1 N2 N3 N4 N5 N6 N7 N8 N9 N10 N11 N12 N13 N14 N15 N16 N17 N18 N19 N20 N21 N22 N23 TxtSet RepG
abbrev sLaw : Stmt := topS 52
def lawN : List Str := ["script", "state", "words", "turn", "some", "tools", "lap", "value", "names", "odd", "steps", "name", "deed", "tool"]
theorem scL : FnScope lawN ["script"] (defScope sLaw) := ⟨rfl, rfl, rfl, by decide +kernel, rfl, by decide +kernel, by decide +kernel⟩
/-! ### True and False by identity -/
def rIsB (neg : Bool) : V → V → Hp → VK → Prop := fun x y H Q => ∃ a b : Bool, x = .bl a ∧ y = .bl b ∧ Q (.bl (if neg then !decide (a = b) else decide (a = b))) H
theorem op_isB {X : Cx} : OpR X (compareOp .Is) (rIsB false) := by
  intro pins s σ H x y v u Q I rx ry h
  obtain ⟨a, b, rfl, rfl, q⟩ := h
  cases (show v = Value.bool a from rx)
  cases (show u = Value.bool b from ry)
  exact wpAny_is_plain rfl (fin_bl I q (by cases a <;> cases b <;> rfl))
theorem op_isnB {X : Cx} : OpR X (compareOp .IsNot) (rIsB true) := by
  intro pins s σ H x y v u Q I rx ry h
  obtain ⟨a, b, rfl, rfl, q⟩ := h
  cases (show v = Value.bool a from rx)
  cases (show u = Value.bool b from ry)
  exact wpAny_isNot_plain rfl (fin_bl I q (by cases a <;> cases b <;> rfl))
/-! ### odd values stay -/
section
variable {K : PySem.W.Frag} {H H' : Hp} {v : V}
theorem seqL_ext {p : Addr} {xs : List V} (h : SqL K H p xs) (e : LamX.ExtN H H') : SqL K H' p xs := by
  rcases h with (h | ⟨o, h⟩) | h
  · exact .inl (.inl (e _ _ h (fun _ z => by cases z)))
  · exact .inl (.inr ⟨o, e _ _ h (fun _ z => by cases z)⟩)
  · exact .inr h
theorem OddV.ext (h : OddV K H v) (s : LamX.ExtN H H') : OddV K H' v := by
  cases h with
  | atom h => exact .atom h
  | dict h => exact .dict (s _ _ h (fun _ z => by cases z))
  | texts h l ok b => exact .texts (s _ _ h (fun _ z => by cases z)) l ok b
  | mixed h a b => exact .mixed (s _ _ h (fun _ z => by cases z)) a b
  | nest h g => exact .nest (s _ _ h (fun _ z => by cases z)) (s _ _ g (fun _ z => by cases z))
/-- as steps it is refused -/
theorem OddV.bad (h : OddV K H v) : ∃ o, Sv K H v o ∧ goesO o [] = false := by
  obtain ⟨o, h1, h2⟩ := h.steps
  rcases h2 with h2 | rfl
  · exact ⟨o, h1, h2⟩
  · cases h with
    | atom h =>
      rcases h1 with ⟨p, ys, ds, rfl, _⟩ | ⟨_, e⟩
      · cases h
      · cases e
    | dict h =>
      refine ⟨none, .inr ⟨.dK h, rfl⟩, rfl⟩
    | @texts p zs h l ok b =>
      cases zs with
      | nil => exact absurd b (by decide)
      | cons z r =>
        refine ⟨some ((z :: r).map fun _ => .bad), .inl ⟨p, (z :: r).map V.str, _, rfl, .inl (.inl (.inl h)), by simp, by simpa using (by have := l; simp at this; omega : r.length + 1 ≤ 200), fun i v d e1 e2 => ?_, rfl⟩, rfl⟩
        rw [List.getElem?_map] at e1 e2
        cases e : (z :: r)[i]? with
        | none => rw [e] at e1; cases e1
        | some s =>
          rw [e] at e1 e2
          cases e1
          cases e2
          have := ok s (List.mem_of_getElem? e)
          refine .inl (.atom ?_)
          show (decide (s.length ≤ 4000) && PyData.strOk s) = true
          rw [decide_eq_true this.1, this.2]
          rfl
    | @mixed p z i h a b =>
      refine ⟨some [.bad, .bad], .inl ⟨p, _, [.bad, .bad], rfl, .inl (.inl (.inl h)), rfl, by show 2 ≤ 200; decide, fun j v o e1 e2 => ?_, rfl⟩, rfl⟩
      match j, e1, e2 with
      | 0, e1, e2 => cases e1; cases e2; exact .inl (.atom a)
      | 1, e1, e2 => cases e1; cases e2; exact .inl (.atom b)
    | @nest p r z h g =>
      refine ⟨some [.bad], .inl ⟨p, _, [.bad], rfl, .inl (.inl (.inl h)), rfl, by show 1 ≤ 200; decide, fun j v o e1 e2 => ?_, rfl⟩, rfl⟩
      match j, e1, e2 with
      | 0, e1, e2 => cases e1; cases e2; exact .inl (.lst g)
/-- a list of it alone is no drawing -/
theorem OddV.one (h : OddV K H v) {l : Addr} (hl : H l = some (.lst [v])) : Sv K H (.ref l) (some [.bad]) := by
  refine .inl ⟨l, [v], [.bad], rfl, .inl (.inl (.inl hl)), rfl, by show 1 ≤ 200; decide, fun j w o e1 e2 => ?_, rfl⟩
  match j, e1, e2 with
  | 0, e1, e2 =>
    cases e1
    cases e2
    refine .inl ?_
    cases h with
    | atom h => exact .atom h
    | dict h => exact .dK h
    | texts h _ _ _ => exact NotTup.lst h
    | mixed h _ _ => exact NotTup.lst h
    | nest h _ => exact NotTup.lst h
end
end N24

set_option Elab.async false
set_option linter.all false
set_option maxRecDepth 100000
set_option maxHeartbeats 4000000
namespace N25
open PySem PySem.Spec PyProof.Rows L2 Cau Dr27 N1 N2 N3 N4 N5 N6 N7 N8 N9 N10 N11 N12 N13 N14 N15 N16 N17 N18 N19 N20 N21 N22 N23 N24 TxtSet RepG
/-! ### the tools' names, by the law's own table -/
def toolD : List (Key × V) := toolsL.map fun p => (.inr p.1, .str p.2)
theorem tool_new : mergeK [] toolD = toolD := by with_unfolding_all rfl
theorem tool_get (z : Str) : (valV toolD (.inr z)).getD (.str z) = .str (toolW z) := by
  have gen : ∀ l : List (Str × Str), valV (l.map fun p => ((.inr p.1 : Key), V.str p.2)) (.inr z) = (l.lookup z).map V.str := by
    intro l
    induction l with
    | nil => rfl
    | cons p r ih =>
      obtain ⟨a, k⟩ := p
      unfold valV at ih ⊢
      rw [List.map_cons, List.find?_cons, List.lookup_cons]
      by_cases h : z = a
      · subst h
        simp
      · have e1 : (z == a) = false := beq_eq_false_iff_ne.mpr h
        have e2 : decide ((Sum.inr a : Key) = Sum.inr z) = false := decide_eq_false fun q => h (Sum.inr.inj q).symm
        rw [e1]
        simp only [e2]
        exact ih
  have e : valV toolD (.inr z) = (toolsL.lookup z).map V.str := gen toolsL
  rw [e]
  unfold toolW
  cases toolsL.lookup z <;> rfl
theorem forms_keys : formsD.map (·.1) = (formsL.map (·.1)).map Sum.inr := by
  unfold formsD
  rw [List.map_map, List.map_map]
  rfl
theorem forms_ok : ∀ z ∈ formsL.map (·.1), PyData.strOk z = true ∧ (formOf z).isSome = true := by decide +kernel
theorem sorted_filter (f : Str → Bool) : ∀ xs : List Str, sortedS xs = true → sortedS (xs.filter f) = true
  | [], _ => rfl
  | x :: r, h => by
    obtain ⟨a, s⟩ := rising_all r x h
    have ih := sorted_filter f r s
    rw [List.filter_cons]
    split
    · have all : ∀ y ∈ r.filter f, Upto x y := fun y hy => a y (List.mem_filter.mp hy).1
      generalize r.filter f = t at ih all
      show risingS x t = true
      cases t with
      | nil => rfl
      | cons y t =>
        unfold risingS
        rw [Bool.and_eq_true]
        refine ⟨?_, ih⟩
        have := all y List.mem_cons_self
        rw [ltCps_eq]
        simpa [Upto] using this
    · exact ih
def laterL : List Str := ["o", "later"]
theorem later_ok : ∀ z ∈ laterL, nameS z = true ∧ z.length ≤ 4000 ∧ PyData.strOk z = true := by decide +kernel
theorem later_nodup : laterL.Nodup := by decide +kernel
theorem tool_ok {xs : List V} (h : deedL xs = true) : PyData.strOk (toolW (wordL xs)) = true := by
  obtain ⟨w0, r, k, rfl, hf, _, _⟩ := word_of h
  have all : ∀ p ∈ formsL, PyData.strOk (toolW p.1) = true := by decide +kernel
  exact all (w0, k) (PySem.mem_of_lookup hf)
/-! ### tuples of texts as data -/
theorem canLay_tup {xs : List Str} (h : ∀ x ∈ xs, PyData.strOk x = true) : (PyData.tuple (xs.map PyData.str)).canLay0 = true := by
  have := canLay_strs xs h
  simpa [PyData.canLay0] using this
theorem shaped_tup {xs : List Str} (h : ∀ x ∈ xs, PyData.strOk x = true) : SeqAt.shaped (.tuple (xs.map PyData.str)) = true := by
  unfold SeqAt.shaped
  rw [canLay_tup h, PyData.depth, depth_strs]
  rfl
theorem dp_tups {K : PySem.W.Frag} {H : Hp} {q : Addr} {xs : List Str} (h : H q = some (.tup (xs.map V.str))) : Dp K H (.ref q) (.tuple (xs.map PyData.str)) := .tup (.inl (.inl h)) (dpAll_strs xs)
/-! ### a changed drawing stays while the state is drawn from -/
section
variable {K : PySem.W.Frag} {a w c : Addr} {T T' : Nat} {H H' : Hp} {v : V}
theorem NotTup.kept (h : NotTup H v) (s : St H a w c T) (s' : St H' a w c T') (k : Kept a w H H') : NotTup H' v := by
  cases h with
  | atom h => exact .atom h
  | @lst p xs h =>
    by_cases e1 : p = a
    · obtain ⟨_, _, _, _, _, h1, _⟩ := s
      rw [e1, h1] at h
      cases h
    · by_cases e2 : p = w
      · obtain ⟨_, _, _, _, _, _, h2, _⟩ := s'
        rw [e2]
        exact .lst h2
      · exact .lst (k _ _ h e1 e2)
  | @dK p kvs h =>
    by_cases e1 : p = a
    · obtain ⟨_, _, _, _, _, h1, _⟩ := s'
      rw [e1]
      exact .dK h1
    · by_cases e2 : p = w
      · obtain ⟨_, _, _, _, _, _, h2, _⟩ := s
        rw [e2, h2] at h
        cases h
      · exact .dK (k _ _ h e1 e2)
theorem SdOk.kept {d : Sd} (h : SdOk K H v d) (s : St H a w c T) (s' : St H' a w c T') (k : Kept a w H H') : SdOk K H' v d := by
  have t := TK.kept (K := K) s k
  cases d with
  | bad =>
    rcases h with h | ⟨p, xs, e, h1, h2⟩
    · exact .inl (NotTup.kept h s s' k)
    · exact .inr ⟨p, xs, e, t _ _ h1, h2⟩
  | pair n d =>
    obtain ⟨p, z, e, h1, h2, h3⟩ := h
    refine ⟨p, z, e, t _ _ h1, h2, ?_⟩
    rcases h3 with ⟨q, xs, e1, g1, g2⟩ | ⟨g1, g2⟩
    · exact .inl ⟨q, xs, e1, t _ _ g1, g2⟩
    · exact .inr ⟨NotTup.kept g1 s s' k, g2⟩
theorem sv_kept {l : Addr} {ds : List Sd} (h : Sv K H (.ref l) (some ds)) (n : l ≠ a ∧ l ≠ w) (s : St H a w c T) (s' : St H' a w c T') (k : Kept a w H H') : Sv K H' (.ref l) (some ds) := by
  rcases h with ⟨p, ys, ds', e, h, l1, l2, h3, e2⟩ | ⟨_, e⟩
  · cases e
    refine .inl ⟨l, ys, ds', rfl, ?_, l1, l2, fun i y d a b => SdOk.kept (h3 i y d a b) s s' k, e2⟩
    rcases h with h | h
    · exact .inl (seqL_kept h k n.1 n.2)
    · exact .inr (TK.kept s k _ _ h)
  · cases e
end
/-- some of the words -/
def tSome : TE := fun σ H Q => ∃ (a w c wd : Addr) (T : Nat) (ws : List Str), σ[1]? = some (some (.ref a)) ∧ σ[2]? = some (some (.ref wd)) ∧ St H a w c T ∧ T + 20 ≤ 1000000 ∧ H wd = some (.lst (ws.map V.str)) ∧ ws.Perm (formsL.map (·.1)) ∧
  ∀ (H' : Hp) (m : Addr) (ns : List Str), H m = none → H' m = some (.lst (ns.map V.str)) → Kept a w H H' → St H' a w c (T + 20) → (m ≠ a ∧ m ≠ w ∧ m ≠ c) → 0 < ns.length → ns.length ≤ 11 → (∀ z ∈ ns, (formOf z).isSome = true) → Q (.ref m) H'
def tTools (K : PySem.W.Frag) : TS := fun D σ H => ∃ (x0 x1 x2 x3 x4 : V) (y5 y6 y7 y8 y9 : Option V) (p : Addr) (ys : List V) (st : List St1), σ = [some x0, some x1, some x2, some x3, some x4, y5, y6, y7, y8, y9, some (.ref p), none, none, none] ∧ H p = some (.lst ys) ∧ Sdl K H ys st ∧ goesB (st.map sdOf) sheetL = true ∧ st.length ≤ 7 ∧
  ∀ H' l, Same H H' → H l = none → H' l = some (.lst ((st.map fun p => toolW (wordL p.2)).map V.str)) → D.nx [some x0, some x1, some x2, some x3, some x4, some (.ref l), y6, y7, y8, y9, some (.ref p), none, none, none] H'
def tChest (K : PySem.W.Frag) : TS := fun D σ H => ∃ (x0 x1 x2 x3 x4 : V) (y6 y7 y8 y9 : Option V) (p l : Addr) (ys : List V) (st : List St1), σ = [some x0, some x1, some x2, some x3, some x4, some (.ref l), y6, y7, y8, y9, some (.ref p), none, none, none] ∧ H p = some (.lst ys) ∧ Sdl K H ys st ∧ goesB (st.map sdOf) sheetL = true ∧ st.length ≤ 7 ∧
  H l = some (.lst ((st.map fun p => toolW (wordL p.2)).map V.str)) ∧ ∀ H', Same H H' → D.nx σ H'
def tLaps (K : PySem.W.Frag) : TS := fun D σ H => ∃ (x0 x2 x3 x4 x5 : V) (y6 y7 y8 y9 : Option V) (a w c p : Addr) (T : Nat) (ys : List V) (st : List St1), σ = [some x0, some (.ref a), some x2, some x3, some x4, some x5, y6, y7, y8, y9, some (.ref p), none, none, none] ∧ St H a w c T ∧ T + 100 ≤ 1000000 ∧ H p = some (.lst ys) ∧ p ≠ a ∧ p ≠ w ∧ Sdl K H ys st ∧ goesB (st.map sdOf) sheetL = true ∧ st.length ≤ 7 ∧
  ∀ H' y6 y7 y8, Kept a w H H' → St H' a w c (T + 100) → D.nx [some x0, some (.ref a), some x2, some x3, some x4, some x5, y6, y7, y8, y9, some (.ref p), none, none, none] H'
def tOdds (K : PySem.W.Frag) (TT : List (Addr × Str)) : TS := fun D σ H => ∃ (x0 x1 x2 x3 x4 x5 : V) (y6 y7 y8 y9 : Option V) (p : Addr) (ys : List V) (st : List St1), σ = [some x0, some x1, some x2, some x3, some x4, some x5, y6, y7, y8, y9, some (.ref p), none, none, none] ∧ H p = some (.lst ys) ∧ Sdl K H ys st ∧ goesB (st.map sdOf) sheetL = true ∧ st.length ≤ 7 ∧ LamX.Tabs TT H ∧
  ∀ H' y9, LamX.ExtN H H' → LamX.Tabs TT H' → D.nx [some x0, some x1, some x2, some x3, some x4, some x5, y6, y7, y8, y9, some (.ref p), none, none, none] H'
/-- both tables of code objects -/
def tabsL (Pt Pn : Addr) : List (Addr × Str) := [(Pt, (("law" : Str) ++ ".<locals>.") ++ "<lambda>"), (Pn, (("_law_needed_right" : Str) ++ ".<locals>.") ++ "<lambda>")]
def spLaw (K : PySem.W.Frag) (Pt Pn : Addr) : Sp := fun vs H Q _ => ∃ (a : Addr) (ns : List Int), vs = [.ref a] ∧ SqL K H a (ns.map V.int) ∧ ns.length ≤ 63 ∧ H Pt = some (.tbl #[]) ∧ H Pn = some (.tbl #[]) ∧ ∀ H', Q (.bl true) H'
section
variable {P : Program} {w : World} {K : PySem.W.Frag} {mg : Str → Option Value} {base : Heap}
theorem ok_law {f fB fF fS fD fE fX fR fG fP fN fQ fZ fC CR CM CB CN c Pt Pn : Addr} {fdB fdF fdS fdD fdE fdX fdR fdG fdP fdN fdQ fdZ : FuncData}
    {od an odC anC : Option Addr} {osl oslC : Array (Option Value)} {dV kV doc pm ct oc kVC docC pmC ctC ocC cdvC dVC : Value}
    (lk : K.lookup f = some ⟨oc, od, .func (PySem.W.fnOf "law" "law" (defArgs sLaw) (defBody sLaw) (defScope sLaw) dV kV doc pm an (.ref c) ct), osl⟩) (hcd : PySem.W.codeIn K (.ref c) "law" = true)
    (TB : LamX.TabB base mg c Pt) (hPn : Pn ≠ Pt)
    (FB : Fun K "_law_begun" "_law_begun" sBegun fB fdB) (GB : FnOk P w K mg base CX0 1 fB fdB ["script"] (spBegun K)) (bB : Binds K fdB ["script"] []) (gB : mg "_law_begun" = some (.ref fB))
    (FF : Fun K "_law_forms" "_law_forms" sForms fF fdF) (GF : FnOk P w K mg base CX0 1 fF fdF [] spForms) (bF : Binds K fdF [] []) (gF : mg "_law_forms" = some (.ref fF))
    (FS : Fun K "_law_shuffled" "_law_shuffled" sShuf fS fdS) (GS : FnOk P w K mg base CX0 3 fS fdS ["state", "some"] (spShuf K)) (bS : Binds K fdS ["state", "some"] []) (gS : mg "_law_shuffled" = some (.ref fS))
    (FD : Fun K "_law_draw" "_law_draw" sDraw fD fdD) (GD : FnOk P w K mg base CX0 2 fD fdD ["state", "room"] spDraw) (bD : Binds K fdD ["state", "room"] []) (gD : mg "_law_draw" = some (.ref fD))
    (FE : Fun K "_law_chained_steps" "_law_chained_steps" sChain fE fdE) (GE : FnOk P w K mg base CX0 5 fE fdE ["state", "many", "words", "share"] (spChain K)) (bE : Binds K fdE ["state", "many", "words", "share"] []) (gE : mg "_law_chained_steps" = some (.ref fE))
    (FX : Fun K "chest_of" "chest_of" sChestOf fX fdX) (GX : FnOk P w K mg base (L2.CX P w) 6 fX fdX ["steps"] (spChest K)) (bX : Binds K fdX ["steps"] []) (kX : KBn K fdX ["steps"] 0 ["steps"] (fun _ ws => ws) (fun _ zs => zs)) (gX : mg "chest_of" = some (.ref fX))
    (kR : PySem.W.keepIn K (.ref fR) = true) (GR : FnG P w K mg base CX0 9 fR fdR ["state", "steps"] (spNeedR K (tabsL Pt Pn))) (bR : Binds K fdR ["state", "steps"] []) (gR : mg "_law_needed_right" = some (.ref fR))
    (FG : Fun K "_law_changed" "_law_changed" sChanged fG fdG) (GG : FnOk P w K mg base CX0 4 fG fdG ["state", "steps"] (spChanged K)) (bG : Binds K fdG ["state", "steps"] []) (gG : mg "_law_changed" = some (.ref fG))
    (FP : Fun K "_law_pick" "_law_pick" sPick fP fdP) (GP : FnOk P w K mg base CX0 3 fP fdP ["state", "some"] (spPick K)) (bP : Binds K fdP ["state", "some"] []) (gP : mg "_law_pick" = some (.ref fP))
    (FN : Fun K "needed" "needed" sNeeded fN fdN) (GN : FnOk P w K mg base (L2.CX P w) 6 fN fdN ["steps", "names"] (spNeeded K CB CN CM)) (bN : Binds K fdN ["steps", "names"] []) (gN : mg "needed" = some (.ref fN))
    (FQ : Fun K "is_sequel" "is_sequel" sIsSequel fQ fdQ) (GQ : FnOk P w K mg base (L2.CX P w) 4 fQ fdQ ["value", "names"] (spSequel K CN)) (bQ : Binds K fdQ ["value", "names"] []) (kQ : KBn K fdQ ["value", "names"] 0 ["names", "value"] (fun _ ws => ws.reverse) (fun _ zs => zs.reverse)) (gQ : mg "is_sequel" = some (.ref fQ))
    (FZ : Fun K "_law_goes_on" "_law_goes_on" sGoesOn fZ fdZ) (GZ : FnOk P w K mg base CX0 3 fZ fdZ ["value", "names"] (spSteps K)) (bZ : Binds K fdZ ["value", "names"] []) (gZ : mg "_law_goes_on" = some (.ref fZ))
    (lkC : K.lookup fC = some ⟨ocC, odC, .func (PySem.W.fnOf "_law_caught" "_law_caught" (defArgs sCaught) (defBody sCaught) (defScope sCaught) dVC kVC docC pmC anC cdvC ctC), oslC⟩) (hcdC : PySem.W.codeIn K cdvC "_law_caught" = true) (kC : PySem.W.keepIn K (.ref fC) = true)
    (bC : Binds K (PySem.W.fnOf "_law_caught" "_law_caught" (defArgs sCaught) (defBody sCaught) (defScope sCaught) dVC kVC docC pmC anC cdvC ctC) ["action"] []) (gC : mg "_law_caught" = some (.ref fC))
    (gRE : mg "RulerError" = some (.ref CR)) (gCN : mg "BadNames" = some (.ref CN)) (gCB : mg "BadDrawing" = some (.ref CB)) (exmN : PySem.W.exmOne K (.ref CN) (.ref CR) = some true) (exmB : PySem.W.exmOne K (.ref CB) (.ref CR) = some true)
    (kitN : PySem.W.kitOne K (.ref CN) (.ref CN) = some true) (kitB : PySem.W.kitOne K (.ref CB) (.ref CB) = some true) (EN : ExcC K CN) (EB : ExcC K CB)
    (mr : mg "range" = none) (mrp : mg "repr" = none) (mi : mg "isinstance" = none) (mtu : mg "tuple" = none) (mlen : mg "len" = none) (mmin : mg "min" = none) (mso : mg "sorted" = none) (mse : mg "set" = none) :
    FnG P w K mg base CX0 10 f (PySem.W.fnOf "law" "law" (defArgs sLaw) (defBody sLaw) (defScope sLaw) dV kV doc pm an (.ref c) ct) ["script"] (spLaw K Pt Pn) := by
  refine okGL lk hcd scL (fun vs H Q E h => ?_) (fun A outer s H vs Q E g hr h => ?_)
  · obtain ⟨a, ns, rfl, _⟩ := h
    rfl
  · obtain ⟨a, ns, rfl, hS, hlen, hPt, hPn', q⟩ := h
    have hu := hu_of (hr.mono (Nat.zero_le _) : Room 0 _)
    have hr6 : Room 6 _ := hr.mono (by decide)
    have hr5 : Room 5 _ := hr.mono (by decide)
    have hr4 : Room 4 _ := hr.mono (by decide)
    have hr3 : Room 3 _ := hr.mono (by decide)
    have hr2 : Room 2 _ := hr.mono (by decide)
    have hr1 : Room 1 _ := hr.mono (by decide)
    have hmT : ((Pt, (("law" : Str) ++ ".<locals>.") ++ "<lambda>") : Addr × Str) ∈ (tabsL Pt Pn) := List.mem_cons_self
    have huT : ∀ p ∈ (tabsL Pt Pn), p.1 = Pt → p.2 = (("law" : Str) ++ ".<locals>.") ++ "<lambda>" := fun p hp e => by
      rcases List.mem_cons.mp hp with rfl | hp
      · rfl
      · rw [List.mem_singleton.mp hp] at e
        exact absurd e hPn
    refine ⟨_, pss_cons (ps_set (i := 1) scL.nd rfl (.inl rfl) (pe_call GB hr1 (by rfl) gB FB.kp bB .nil pass0 (pa_cons (pv 0) pa_nil)))
      (pss_cons (ps_set (i := 2) scL.nd rfl (.inl rfl) (pe_callB (call_sortedD rfl) (by rfl) mso (by decide +kernel) (pa_cons (pe_call0 GF hr1 (by rfl) gF FF.kp bF .nil pass0) pa_nil)))
      (pss_cons (ps_for PassesOwn.never rfl (pi_range1 (by rfl) mr (pa_cons (pe_op op_add pe_int (pe_callB (call_min2 rfl) (by rfl) mmin (by decide +kernel) (pa_cons (pe_callB call_len_seq (by rfl) mlen PySem.boot_len (pa_cons (pv 0) pa_nil)) (pa_cons pe_int pa_nil)))) pa_nil)) (pg_name (i := 3) scL.nd rfl (.inl rfl))
        (pss_cons (ps_set (i := 4) scL.nd rfl (.inl rfl) (pe_weak (t' := tSome) (pe_slice sl_list (pe_call GS hr3 (by rfl) gS FS.kp bS .nil pass0 (pa_cons (pv 1) (pa_cons (pv 2) pa_nil))) po_none
            (po_some (pe_op op_add pe_int (pe_call GD hr2 (by rfl) gD FD.kp bD .nil pass0 (pa_cons (pv 1) (pa_cons pe_int pa_nil)))))) ?some))
        (pss_cons (ps_set (i := 10) scL.nd rfl (.inr rfl) (pe_call GE hr5 (by rfl) gE FE.kp bE .nil pass0 (pa_cons (pv 1) (pa_cons (pe_call GD hr2 (by rfl) gD FD.kp bD .nil pass0 (pa_cons (pv 1) (pa_cons pe_int pa_nil))) (pa_cons (pv 4) (pa_cons pe_int pa_nil))))))
        (pss_cons (ps_weak (t' := tTools K) (ps_setLc (i := 5) (own := [("name", 11), ("deed", 12)]) (g := gTup K 2 (gCons (gName 11) (gCons (gName 12) gNil))) (tt := tYes) rfl scL.nd rfl rfl (sw_true rfl rfl rfl (by decide +kernel)) (pi_list (pv 10))
            (blkOk_by (own := [("name", 11), ("deed", 12)]) (N := lawN) (sc := defScope sLaw) (by decide +kernel))
            (fun _ _ _ _ _ => pg_tup (by rfl) (pgs_cons (pg_name (i := 11) scL.nd rfl (.inl rfl)) (pgs_cons (pg_name (i := 12) scL.nd rfl (.inl rfl)) pgs_nil)))
            (fun _ _ _ _ _ => pts_nil) (fun _ _ _ _ _ => pe_dget2 hu (pe_disp (pps_cons pe_str pe_str (pps_cons pe_str pe_str (pps_cons pe_str pe_str pps_nil))) (by rfl) (by rfl) (fun z => by cases z) (by decide))
              (pe_ix (show IxR _ (rIxT K) from ix_tup) (pv 12) pe_int (fun _ _ => rfl)) (pe_ix (show IxR _ (rIxT K) from ix_tup) (pv 12) pe_int (fun _ _ => rfl)) ⟨rfl, rfl, rfl, rfl⟩)) ?tools)
        (pss_cons (ps_weak (t' := tChest K) (ps_if (pt_cmpR (op_neD hr.units) (pe_kw GX hr6 (by rfl) gX FX.kp kX passN (pk_cons (pv 10) pk_nil))
            (pe_callTy call_tuple_of (by rfl) mtu (by decide +kernel) (pa_cons (pe_lc (own := [("tool", 13)]) (g := gName 13) rfl scL.nd (pi_list (pe_callB (cr_sortT rfl) (by rfl) mso (by decide +kernel) (pa_cons (pe_callTy (cr_setT rfl) (by rfl) mse (by decide +kernel) (pa_cons (pv 5) pa_nil)) pa_nil)))
              (blkOk_by (own := [("tool", 13)]) (N := lawN) (sc := defScope sLaw) (by decide +kernel)) (fun _ _ _ _ _ => pg_name (i := 13) scL.nd rfl (.inl rfl)) (fun _ _ _ _ _ => pts_one (pt_cmpR op_ne (pv 13) pe_str (nomark _))) (fun _ _ _ _ _ => pv 13)) pa_nil)) (nomark _)) (pss_one (ps_ret pe_bl)) pss_nil) ?chest)
        (pss_cons (ps_if (pt_not (pt_val (pe_callG GR g hr (by rfl) gR kR bR pass0 (pa_cons (pv 1) (pa_cons (pv 10) pa_nil))))) (pss_one (ps_ret pe_bl)) pss_nil)
        (pss_cons (ps_weak (t' := tLaps K) (ps_for PassesOwn.never rfl (pi_range1 (by rfl) mr (pa_cons pe_int pa_nil)) (pg_name (i := 6) scL.nd rfl (.inl rfl))
          (pss_cons (ps_par (i := 7) (j := 8) rfl scL.nd rfl rfl (by decide) rfl rfl (pa_cons (pe_call GG hr4 (by rfl) gG FG.kp bG .nil pass0 (pa_cons (pv 1) (pa_cons (pv 10) pa_nil)))
              (pa_cons (pe_call GP hr3 (by rfl) gP FP.kp bP .nil pass0 (pa_cons (pv 1) (pa_cons (pe_lst (pa_cons (pe_lst (pa_cons pe_str (pa_cons pe_str (pa_cons pe_str (pa_cons pe_str (pa_cons pe_str pa_nil)))))) (pa_cons (pe_lst (pa_cons pe_str (pa_cons pe_str pa_nil))) pa_nil))) pa_nil))) pa_nil)) (by rfl))
          (pss_one (ps_if (pt_cmpR op_ne (pe_callB (call_repr g hr) (by rfl) mrp (by decide +kernel) (pa_cons (pe_kw GQ hr4 (by rfl) gQ FQ.kp kQ passN (pk_cons (pv 8) (pk_cons (pv 7) pk_nil))) pa_nil))
              (pe_callB (call_repr g hr) (by rfl) mrp (by decide +kernel) (pa_cons (pe_call GZ hr3 (by rfl) gZ FZ.kp bZ .nil pass0 (pa_cons (pv 7) (pa_cons (pv 8) pa_nil))) pa_nil)) (nomark _)) (pss_one (ps_ret pe_bl)) pss_nil)))) ?laps)
        (pss_one (ps_weak (t' := tOdds K (tabsL Pt Pn)) (ps_for PassesOwn.never rfl (pi_list (pe_lst (pa_cons pe_non (pa_cons pe_str (pa_cons (pe_disp (pps_cons pe_str pe_int pps_nil) (by rfl) (by rfl) (fun z => by cases z) (by decide))
              (pa_cons (pe_lst (pa_cons pe_str (pa_cons pe_str pa_nil))) (pa_cons (pe_lst (pa_cons pe_str (pa_cons pe_int pa_nil))) (pa_cons (pe_lst (pa_cons pe_str pa_nil)) (pa_cons (pe_lst (pa_cons (pe_lst (pa_cons pe_str pa_nil)) pa_nil)) pa_nil))))))))) (pg_name (i := 9) scL.nd rfl (.inr rfl))
          (pss_cons (ps_if (pt_not (pt_val (pe_callB (call_isErr EN) (by rfl) mi (by decide +kernel) (pa_cons
            (pe_cau lkC hcdC kC bC gC gRE TB rfl hmT huT (hr.mono (by decide) : Room (6 + 2) _) (by rfl) (show LamX.LamS (defScope sLaw) _ from LamX.lamS_by (by decide +kernel)) rfl (fun _ _ _ _ _ => rfl)
              (fun A o s H E f c' hrl => pe_call GN hrl (by rfl) gN FN.kp bN .nil (passes_call (takes_of rfl rfl rfl rfl) (fun _ _ _ _ h => h)) (pa_cons (pv 10) (pa_cons (pv 9) pa_nil))))
            (pa_cons (pe_glob (v := .ref CN) (by rfl) gCN rfl) pa_nil))))) (pss_one (ps_ret pe_bl)) pss_nil)
          (pss_cons (ps_if (pt_not (pt_val (pe_callB (call_isErr EN) (by rfl) mi (by decide +kernel) (pa_cons
            (pe_cau lkC hcdC kC bC gC gRE TB rfl hmT huT (hr.mono (by decide) : Room (4 + 2) _) (by rfl) (show LamX.LamS (defScope sLaw) _ from LamX.lamS_by (by decide +kernel)) rfl (fun _ _ _ _ _ => rfl)
              (fun A o s H E f c' hrl => pe_call GQ hrl (by rfl) gQ FQ.kp bQ .nil (passes_call (takes_of rfl rfl rfl rfl) (fun _ _ _ _ h => h)) (pa_cons (pv 10) (pa_cons (pv 9) pa_nil))))
            (pa_cons (pe_glob (v := .ref CN) (by rfl) gCN rfl) pa_nil))))) (pss_one (ps_ret pe_bl)) pss_nil)
          (pss_cons (ps_if (pt_not (pt_val (pe_callB (call_isErr EB) (by rfl) mi (by decide +kernel) (pa_cons
            (pe_cau lkC hcdC kC bC gC gRE TB rfl hmT huT (hr.mono (by decide) : Room (6 + 2) _) (by rfl) (show LamX.LamS (defScope sLaw) _ from LamX.lamS_by (by decide +kernel)) rfl (fun _ _ _ _ _ => rfl)
              (fun A o s H E f c' hrl => pe_call GN hrl (by rfl) gN FN.kp bN .nil (passes_call (takes_of rfl rfl rfl rfl) (fun _ _ _ _ h => h)) (pa_cons (pe_lst (pa_cons (pv 9) pa_nil)) (pa_cons (pv 9) pa_nil))))
            (pa_cons (pe_glob (v := .ref CB) (by rfl) gCB rfl) pa_nil))))) (pss_one (ps_ret pe_bl)) pss_nil)
          (pss_one (ps_if (pt_cmpR op_isnB (pe_call GQ hr4 (by rfl) gQ FQ.kp bQ .nil passN (pa_cons (pv 9) (pa_cons (pe_lst pa_nil) pa_nil))) pe_bl (nomark _)) (pss_one (ps_ret pe_bl)) pss_nil)))))) ?odds)))))))))
      (pss_one (ps_ret (pe_and (pe_cmpR op_isB (pe_call GQ hr4 (by rfl) gQ FQ.kp bQ .nil passN (pa_cons (pe_lst pa_nil) (pa_cons (pe_lst pa_nil) pa_nil))) pe_bl (nomark _))
        (pe_one (pe_cmpR (op_eqD hr.units) (pe_call GX hr6 (by rfl) gX FX.kp bX .nil passN (pa_cons (pe_tup pa_nil) pa_nil)) (pe_tup pa_nil) (nomark _)))))))), ?_⟩
    case some =>
      rintro σ H1 Q1 ⟨a, w, c, wd, T, ws, h1, h2, hs, hT, hw, perm, q1⟩
      have wl : ws.length = 11 := perm.length_eq
      refine ⟨_, h1, _, h2, a, w, c, wd, T, ws, rfl, hs, by omega, .inl (.inl hw), by omega, fun z hz => (forms_ok z (perm.mem_iff.mp hz)).1, fun H2 l ys perm2 nl hl k2 s2 ol => ?_⟩
      have yl : ys.length = 11 := perm2.length_eq.trans wl
      refine ⟨_, h1, a, w, c, _, 4, rfl, s2, by omega, by decide, pow1000 (n := 4) (by decide), fun H3 d d0 d1 k3 s3 => ?_⟩
      obtain ⟨n, rfl⟩ : ∃ n : Nat, d = (n : Int) := ⟨d.toNat, by omega⟩
      have hl3 : H3 l = some (.lst (ys.map V.str)) := k3 _ _ hl ol.1 ol.2.1
      refine ⟨2, _, rfl, rfl, _, rfl, l, _, rfl, .inl (.inl hl3), fun m nm => ?_⟩
      have om := St.off s3 nm
      have k13 := k2.trans k3
      have e2 : (2 : Int) + (n : Int) = ((2 + n : Nat) : Int) := by omega
      refine q1 _ m (ys.take (2 + n)) (kept_none k13 nm ⟨om.1, om.2.1⟩) ?_ (k13.trans (Kept.of (same_upd nm))) (St.put (St.mono s3 (by omega)) om) om ?_ ?_ (fun z hz => ?_)
      · rw [upd_same, e2, cut_take _ _ (by rw [List.length_map]; omega), List.map_take]
      · rw [List.length_take]
        omega
      · rw [List.length_take]
        omega
      · exact (forms_ok z (perm.mem_iff.mp (perm2.mem_iff.mp (List.mem_of_mem_take hz)))).2
    case tools =>
      rintro D σ H1 ⟨x0, x1, x2, x3, x4, y5, y6, y7, y8, y9, p, ys, st, rfl, hp, hst, hg, hl7, q1⟩
      have deeds := goes_deeds st _ hg
      refine ⟨_, rfl, p, rfl, ⟨_, .inl (.inl hp)⟩, fun R nR => ?_⟩
      refine lc_list (K := K) (a := p) (xs := ys) (fun i H' => ∃ bs : List Str, H' R = some (.lst (bs.map V.str)) ∧ Same H1 H' ∧ bs = (st.take i).map (fun p => toolW (wordL p.2)))
        ⟨[], upd_same, same_upd nR, rfl⟩ (fun i H' _ ⟨_, _, sm, _⟩ => .inl (.inl (sm _ _ hp))) ?_ ?_
      · rintro i y H2 hy ⟨bs, hR, sm, hbs⟩
        have hj : i < st.length := by
          have := (List.getElem?_eq_some_iff.mp hy).1
          have := hst.1
          omega
        have hpj : st[i]? = some st[i] := List.getElem?_eq_getElem hj
        have dl := deeds _ (List.getElem_mem hj)
        generalize st[i] = pj at hpj dl
        obtain ⟨yp, zp, rfl, g1, g2, g3⟩ := (hst.2 i y pj hy hpj).tk (TK.of sm)
        obtain ⟨w0, r, k, e, hf, _, hw⟩ := word_of dl.1
        refine ⟨yp, _, rfl, g1, rfl, _, _, rfl, _, _, rfl, rfl, rfl, fun d nd => ⟨upd_same, toolD, rfl, by show 3 ≤ 15; decide, ?_⟩⟩
        rw [upd_upd, tool_new]
        have g2' : SqT K (upd H2 d (.dK toolD)) zp (.str w0 :: r) := e ▸ sqT_same g2 (same_upd nd)
        have hd : (upd H2 d (.dK toolD)) d = some (.dK toolD) := upd_same
        have smd : Same H2 (upd H2 d (.dK toolD)) := same_upd nd
        generalize upd H2 d (.dK toolD) = H3 at g2' hd smd
        refine ⟨d, rfl, .inl ⟨_, .inl hd⟩, _, rfl, zp, _, 0, _, rfl, rfl, g2', atI_nat (j := 0) rfl, _, rfl, zp, _, 0, _, rfl, rfl, g2', atI_nat (j := 0) rfl, _, DGet.k (k := (.inr w0 : Key)) hd, ?_⟩
        rw [tool_get]
        refine ⟨bs.map V.str, smd _ _ hR, ?_, bs ++ [toolW w0], ?_, same_put (sm.trans smd) nR, ?_⟩
        · rw [List.length_map, hbs, List.length_map, List.length_take]
          exact small1000 (by omega)
        · rw [upd_same, List.map_append]
          rfl
        · rw [hbs, List.take_succ, hpj, List.map_append]
          show _ = _ ++ [toolW (wordL pj.2)]
          rw [hw]
      · rintro H2 ⟨bs, hR, sm, hbs⟩
        rw [hst.1, List.take_length] at hbs
        exact q1 H2 R sm nR (hbs ▸ hR)
    case chest =>
      rintro D σ H1 ⟨x0, x1, x2, x3, x4, y6, y7, y8, y9, p, l, ys, st, rfl, hp, hst, hg, hl7, hl, q1⟩
      refine ⟨_, rfl, rfl, .ref p, st, rfl, Sdl.sv hst (.inl (.inl (.inl hp))) (by omega), hg, by omega, fun H2 q zs S2 nq hq srt nd mem zl => ?_⟩
      generalize hbs : (st.map fun p => toolW (wordL p.2)) = bs at hl mem
      have bl : bs.length ≤ 7 := by
        rw [← hbs, List.length_map]
        exact hl7
      refine ⟨_, rfl, l, bs, rfl, .inl (.inl (.inl (S2 _ _ hl))), by omega, fun a L na ndL memL => ?_⟩
      have hLl : L.length ≤ 7 := Nat.le_trans (nodup_le _ _ ndL fun x hx => (memL x).mp hx) bl
      refine ⟨a, L, rfl, upd_same, by omega, fun zs2 l2 pm srt2 nl2 => ?_⟩
      refine ⟨l2, rfl, ⟨_, .inl (.inl upd_same)⟩, fun R nR => ?_⟩
      have n2R : l2 ≠ R := fun z => by rw [← z, upd_same] at nR; cases nR
      have z2l : zs2.length ≤ 7 := by
        rw [pm.length_eq]
        exact hLl
      refine lc_list (K := K) (a := l2) (xs := zs2.map V.str) (fun i H' => ∃ cs : List Str, H' R = some (.lst (cs.map V.str)) ∧ cs = (zs2.take i).filter (fun t => !decide (t = ("" : Str))) ∧ H' l2 = some (.lst (zs2.map V.str)) ∧ Same H2 H') ⟨[], upd_same, rfl, (upd_ne n2R).trans upd_same, (same_upd na).trans ((same_upd nl2).trans (same_upd nR))⟩ (fun i H' _ ⟨_, _, _, hl2, _⟩ => .inl (.inl hl2)) ?_ ?_
      · rintro i x H4 hx ⟨cs, hR, hcs, hl4, sm2⟩
        have nR0 : H2 R = none := PySem.Spec.same_none ((same_upd na).trans (same_upd nl2)) nR
        obtain ⟨z, rfl, hz⟩ : ∃ z, x = V.str z ∧ zs2[i]? = some z := by
          rw [List.getElem?_map] at hx
          cases e : zs2[i]? with
          | none => rw [e] at hx; cases hx
          | some z => rw [e] at hx; exact ⟨z, (Option.some.inj hx).symm, rfl⟩
        have hcl : cs.length ≤ 7 := by
          rw [hcs]
          refine Nat.le_trans (List.length_filter_le _ _) ?_
          rw [List.length_take]
          omega
        have step : (zs2.take (i + 1)).filter (fun t => !decide (t = ("" : Str))) = cs ++ (if z = ("" : Str) then [] else [z]) := by
          rw [hcs, List.take_succ, List.filter_append, hz]
          by_cases e : z = ("" : Str) <;> simp [e]
        refine ⟨rfl, _, rfl, rfl, _, rfl, ?_⟩
        show if (!decide (V.str z = V.str "")) = true then _ else _
        by_cases e : z = ("" : Str)
        · refine iteF2 (by rw [e]; simp) ⟨cs, hR, ?_, hl4, sm2⟩
          rw [step, if_pos e, List.append_nil]
        · refine iteT2 (by simp [e]) ⟨_, rfl, _, hR, ?_, cs ++ [z], by rw [upd_same, List.map_append]; rfl, ?_, (upd_ne n2R).trans hl4, same_put sm2 nR0⟩
          · rw [List.length_map]
            exact small1000 (by omega)
          · rw [step, if_neg e]
      · rintro H4 ⟨cs, hR, hcs, _, sm2⟩
        rw [List.length_map, List.take_length] at hcs
        refine ⟨R, _, rfl, .inl ⟨.inl (.inl hR), fun t2 nt2 => ?_⟩⟩
        have one : zs = cs := by
          refine sorted_one zs cs srt (hcs ▸ sorted_filter _ zs2 srt2) nd (hcs ▸ (pm.nodup_iff.mpr ndL).filter _) fun t => ?_
          rw [mem t, hcs, List.mem_filter, pm.mem_iff, memL t]
          constructor
          · rintro ⟨a1, a2⟩
            exact ⟨a2, by simp [a1]⟩
          · rintro ⟨a1, a2⟩
            exact ⟨by simpa using a2, a1⟩
        have okc : ∀ x ∈ cs, PyData.strOk x = true := fun x hx => by
          have hm := ((mem x).mp (one ▸ hx)).2
          rw [← hbs] at hm
          obtain ⟨q0, hq0, rfl⟩ := List.mem_map.mp hm
          exact tool_ok (goes_deeds st _ hg q0 hq0).1
        have S4 : Same H2 (upd H4 t2 (.tup (cs.map V.str))) := sm2.trans (same_upd nt2)
        refine ⟨_, _, dp_tups (xs := cs) (S4 _ _ (one ▸ hq)), dp_tups (xs := cs) upd_same, shaped_tup okc, shaped_tup okc, _, rfl, ?_⟩
        rw [SeqAt.eqv_refl _ (canLay_tup okc)]
        exact iteF (q1 _ (S2.trans S4))
    case laps =>
      rintro D σ H1 ⟨x0, x2, x3, x4, x5, y6, y7, y8, y9, a, w, c, p, T, ys, st, rfl, hs, hT, hp, npa, npw, hst, hg, hl7, q1⟩
      refine ⟨6, rfl, by decide, by decide, for_range (lo := 0) (n := 6) (fun i σ H' => ∃ y6 y7 y8 : Option V, σ = [some x0, some (.ref a), some x2, some x3, some x4, some x5, y6, y7, y8, y9, some (.ref p), none, none, none] ∧ Kept a w H1 H' ∧ St H' a w c (T + 12 * i))
        ⟨_, _, _, rfl, fun _ _ e _ _ => e, hs⟩ ?_ ?_⟩
      · rintro i σ H2 hi ⟨y6, y7, y8, rfl, k2, s2⟩
        have hp2 : SqL K H2 p ys := .inl (.inl (k2 _ _ hp npa npw))
        have hst2 : Sdl K H2 ys st := hst.tk (TK.kept hs k2)
        have lens : ∀ q ∈ st, 3 ≤ q.2.length ∧ q.2.length ≤ 20 := fun q hq => by
          have := deed_len (goes_deeds st _ hg q hq).1
          omega
        refine ⟨_, rfl, _, rfl, a, w, c, p, _, ys, st, rfl, s2, by omega, hp2, npa, npw, hst2.1, by omega, hst2.2, lens, fun H3 l ds nl sv k3 s3 ol => ?_⟩
        refine ⟨_, rfl, by show 5 ≤ sizeLine; decide, fun l1 n1 => ⟨by show 2 ≤ sizeLine; decide, fun l2 n2 => ⟨by show 2 ≤ sizeLine; decide, fun ll nll => ?_⟩⟩⟩
        have S1 : Same H3 (upd H3 l1 (.lst [.str "o", .str "u", .str "uu", .str "v", .str "vv"])) := same_upd n1
        have S2 := same_upd (o := .lst [.str "o", .str "later"]) n2
        have S3 := same_upd (o := .lst [.ref l1, .ref l2]) nll
        have S13 := S1.trans (S2.trans S3)
        have o1 := St.off s3 n1
        have o2 := St.off (St.same s3 S1) n2
        have oll := St.off (St.same s3 (S1.trans S2)) nll
        have h1 := S3 _ _ (S2 _ _ (show (upd H3 l1 (.lst [.str "o", .str "u", .str "uu", .str "v", .str "vv"])) l1 = some (.lst (sheetL.map V.str)) from upd_same))
        have h2 := S3 _ _ (show (upd (upd H3 l1 (.lst [.str "o", .str "u", .str "uu", .str "v", .str "vv"])) l2 (.lst [.str "o", .str "later"])) l2 = some (.lst (laterL.map V.str)) from upd_same)
        refine ⟨a, w, c, ll, _, _, rfl, St.same s3 S13, by omega, .inl (.inl upd_same), oll.1, oll.2.1, by show 0 < 2; decide, by show 2 ≤ 1000; decide, fun H4 x hx k4 s4 => ?_⟩
        have sv4 : Sv K H4 (.ref l) (some ds) := sv_kept (sv.same S13) ⟨ol.1, ol.2.1⟩ (St.same s3 S13) s4 k4
        obtain ⟨nm, ns, rfl, hn, nl5, okn, ndn⟩ : ∃ (nm : Addr) (ns : List Str), x = .ref nm ∧ H4 nm = some (.lst (ns.map V.str)) ∧ ns.length ≤ 5 ∧ (∀ z ∈ ns, nameS z = true ∧ z.length ≤ 4000 ∧ PyData.strOk z = true) ∧ ns.Nodup := by
          simp only [List.mem_cons, List.not_mem_nil, or_false] at hx
          rcases hx with rfl | rfl
          · exact ⟨l1, sheetL, rfl, k4 _ _ h1 o1.1 o1.2.1, by decide, sheet_ok, sheet_nodup⟩
          · exact ⟨l2, laterL, rfl, k4 _ _ h2 o2.1 o2.2.1, by decide, later_ok, later_nodup⟩
        refine ⟨_, _, rfl, ?_⟩
        generalize er : goesB ds ns = r
        have er' : goesO (some ds) ns = r := er
        refine ⟨_, rfl, _, rfl, rfl, .ref l, .ref nm, some ds, rfl, .inr ⟨sv4, nm, ns, rfl, .inl (.inl (.inl hn)), by omega, okn, ndn, fun H5 S5 => ?_⟩⟩
        rw [er']
        obtain ⟨w1, w2, w3, w4⟩ := show_bool r
        refine ⟨.bl r, .bool r, rfl, .bl r, w1, w2, w3, w4, ?_⟩
        refine ⟨_, rfl, _, rfl, .ref l, some ds, nm, ns, rfl, sv4.same S5, .inl (.inl (.inl (S5 _ _ hn))), by omega, fun H6 S6 => ?_⟩
        rw [er']
        refine ⟨.bl r, .bool r, rfl, .bl r, w1, w2, w3, w4, rfl, _, rfl, iteNS rfl ?_⟩
        have S56 := S5.trans S6
        exact ⟨_, _, _, rfl, k2.trans (k3.trans ((Kept.of S13).trans (k4.trans (Kept.of S56)))), St.mono (St.same s4 S56) (by omega)⟩
      · rintro σ H2 ⟨y6, y7, y8, rfl, k2, s2⟩
        exact q1 H2 _ _ _ k2 (St.mono s2 (by omega))
    case odds =>
      rintro D σ H1 ⟨x0, x1, x2, x3, x4, x5, y6, y7, y8, y9, p, ys, st, rfl, hp, hst, hg, hl7, tabs, q1⟩
      intro p1 n1
      refine ⟨upd_same, [(.inr "a", .int 1)], rfl, by show 1 ≤ 15; decide, ?_⟩
      rw [upd_upd]
      have S1 : Same H1 (upd H1 p1 (.dK (mergeK [] [((.inr "a" : Key), V.int 1)]))) := same_upd n1
      have h1 : (upd H1 p1 (.dK (mergeK [] [((.inr "a" : Key), V.int 1)]))) p1 = some (.dK (mergeK [] [((.inr "a" : Key), V.int 1)])) := upd_same
      generalize upd H1 p1 (.dK (mergeK [] [((.inr "a" : Key), V.int 1)])) = H2 at S1 h1
      refine ⟨by show 2 ≤ sizeLine; decide, fun p2 n2 => ?_⟩
      have S2 : Same H2 (upd H2 p2 (.lst [.str "a", .str "a"])) := same_upd n2
      have h2 : (upd H2 p2 (.lst [.str "a", .str "a"])) p2 = some (.lst ((["a", "a"] : List Str).map V.str)) := upd_same
      generalize upd H2 p2 (.lst [.str "a", .str "a"]) = H3 at S2 h2
      refine ⟨by show 2 ≤ sizeLine; decide, fun p3 n3 => ?_⟩
      have S3 : Same H3 (upd H3 p3 (.lst [.str "a", .int 5])) := same_upd n3
      have h3 : (upd H3 p3 (.lst [.str "a", .int 5])) p3 = some (.lst [.str "a", .int 5]) := upd_same
      generalize upd H3 p3 (.lst [.str "a", .int 5]) = H4 at S3 h3
      refine ⟨by show 1 ≤ sizeLine; decide, fun p4 n4 => ?_⟩
      have S4 : Same H4 (upd H4 p4 (.lst [.str "A"])) := same_upd n4
      have h4 : (upd H4 p4 (.lst [.str "A"])) p4 = some (.lst ((["A"] : List Str).map V.str)) := upd_same
      generalize upd H4 p4 (.lst [.str "A"]) = H5 at S4 h4
      refine ⟨by show 1 ≤ sizeLine; decide, fun p5 n5 => ?_⟩
      have S5 : Same H5 (upd H5 p5 (.lst [.str "a"])) := same_upd n5
      have h5 : (upd H5 p5 (.lst [.str "a"])) p5 = some (.lst [.str "a"]) := upd_same
      generalize upd H5 p5 (.lst [.str "a"]) = H6 at S5 h5
      refine ⟨by show 1 ≤ sizeLine; decide, fun p6 n6 => ?_⟩
      have S6 : Same H6 (upd H6 p6 (.lst [.ref p5])) := same_upd n6
      have h6 : (upd H6 p6 (.lst [.ref p5])) p6 = some (.lst [.ref p5]) := upd_same
      generalize upd H6 p6 (.lst [.ref p5]) = H7 at S6 h6
      refine ⟨by show 7 ≤ sizeLine; decide, fun ll nll => ?_⟩
      have S7 : Same H7 (upd H7 ll (.lst [.non, .str "a", .ref p1, .ref p2, .ref p3, .ref p4, .ref p6])) := same_upd nll
      have h7 : (upd H7 ll (.lst [.non, .str "a", .ref p1, .ref p2, .ref p3, .ref p4, .ref p6])) ll = some (.lst [.non, .str "a", .ref p1, .ref p2, .ref p3, .ref p4, .ref p6]) := upd_same
      generalize upd H7 ll (.lst [.non, .str "a", .ref p1, .ref p2, .ref p3, .ref p4, .ref p6]) = H8 at S7 h7
      have SA : Same H1 H8 := S1.trans (S2.trans (S3.trans (S4.trans (S5.trans (S6.trans S7)))))
      have odd : ∀ x ∈ [V.non, .str "a", .ref p1, .ref p2, .ref p3, .ref p4, .ref p6], OddV K H8 x := fun x hx => by
        simp only [List.mem_cons, List.not_mem_nil, or_false] at hx
        rcases hx with rfl | rfl | rfl | rfl | rfl | rfl | rfl
        · exact .atom rfl
        · exact .atom (by decide +kernel)
        · exact .dict (S7 _ _ (S6 _ _ (S5 _ _ (S4 _ _ (S3 _ _ (S2 _ _ h1))))))
        · exact .texts (S7 _ _ (S6 _ _ (S5 _ _ (S4 _ _ (S3 _ _ h2))))) (by decide) (by decide +kernel) (by decide +kernel)
        · exact .mixed (S7 _ _ (S6 _ _ (S5 _ _ (S4 _ _ h3)))) (by decide +kernel) (by decide +kernel)
        · exact .texts (S7 _ _ (S6 _ _ (S5 _ _ h4))) (by decide) (by decide +kernel) (by decide +kernel)
        · exact .nest (S7 _ _ h6) (S7 _ _ (S6 _ _ h5))
      clear h1 h2 h3 h4 h5 h6 S1 S2 S3 S4 S5 S6 S7 n1 n2 n3 n4 n5 n6 nll
      refine ⟨ll, rfl, ⟨_, .inl (.inl h7)⟩, for_list (K := K) (a := ll) (xs := [V.non, .str "a", .ref p1, .ref p2, .ref p3, .ref p4, .ref p6]) (fun i σ H' => ∃ y9 : Option V, σ = [some x0, some x1, some x2, some x3, some x4, some x5, y6, y7, y8, y9, some (.ref p), none, none, none] ∧ LamX.ExtN H8 H' ∧ LamX.Tabs (tabsL Pt Pn) H')
        ⟨_, rfl, .refl _, tabs_same tabs SA⟩ (fun i σ H' _ ⟨_, _, e, _⟩ => .inl (.inl (e _ _ h7 fun _ z => by cases z))) ?_ ?_⟩
      · rintro i x σ H9 hx ⟨y9, rfl, e9, t9⟩
        have ox : OddV K H9 x := N24.OddV.ext (odd x (List.mem_of_getElem? hx)) e9
        have low : ∀ {H' : Hp}, LamX.ExtN H9 H' → H' p = some (.lst ys) ∧ Sdl K H' ys st := fun {H'} e => ⟨(e9.trans e) _ _ (SA _ _ hp) (fun _ z => by cases z), (hst.tk (TK.of SA)).tk (tk_ext (e9.trans e))⟩
        -- the names
        refine ⟨t9, fun Ha ea ta => ?_⟩
        obtain ⟨hpa, hsta⟩ := low ea
        obtain ⟨o, hn, hno⟩ := (N24.OddV.ext ox ea).names
        refine ⟨_, rfl, _, rfl, .ref p, x, some (st.map sdOf), o, rfl, Sdl.sv hsta (.inl (.inl (.inl hpa))) (by omega), hn, .inr (.inl ⟨hg, hno, fun Hb Sb => ⟨exmN, fun e ne => ?_⟩⟩)⟩
        refine ⟨e, .ref CN, .ref CN, true, rfl, upd_same, fun u r => r, kitN, true, rfl, iteF ?_⟩
        have eb : LamX.ExtN H9 (upd Hb e (ErrO (.ref CN) none e)) := ea.trans (LamX.ExtN.of (Sb.trans (same_upd ne)))
        have tb := tabs_same ta (Sb.trans (same_upd (o := ErrO (.ref CN) none e) ne))
        generalize upd Hb e (ErrO (.ref CN) none e) = Hc at eb tb
        refine ⟨tb, fun Hd ed td => ?_⟩
        have ed' := eb.trans ed
        obtain ⟨hpd, hstd⟩ := low ed'
        obtain ⟨o2, hn2, hno2⟩ := (N24.OddV.ext ox ed').names
        refine ⟨_, rfl, _, rfl, .ref p, x, none, rfl, .inl ⟨o2, hn2, hno2, fun He Se => ⟨exmN, fun e2 ne2 => ?_⟩⟩⟩
        refine ⟨e2, .ref CN, .ref CN, true, rfl, upd_same, fun u r => r, kitN, true, rfl, iteF ?_⟩
        have ef : LamX.ExtN H9 (upd He e2 (ErrO (.ref CN) none e2)) := ed'.trans (LamX.ExtN.of (Se.trans (same_upd ne2)))
        have tf := tabs_same td (Se.trans (same_upd (o := ErrO (.ref CN) none e2) ne2))
        generalize upd He e2 (ErrO (.ref CN) none e2) = Hf at ef tf
        -- the steps
        refine ⟨tf, fun Hg eg tg => ?_⟩
        have eg' := ef.trans eg
        obtain ⟨o3, hn3, _⟩ := (N24.OddV.ext ox eg').names
        refine ⟨_, rfl, by show 1 ≤ sizeLine; decide, fun l1 nl1 => ?_⟩
        have Sh : Same Hg (upd Hg l1 (.lst [x])) := same_upd nl1
        have hl1 : (upd Hg l1 (.lst [x])) l1 = some (.lst [x]) := upd_same
        generalize upd Hg l1 (.lst [x]) = Hh at Sh hl1
        have oh : OddV K Hh x := (N24.OddV.ext ox eg').same Sh
        obtain ⟨o4, hn4, _⟩ := oh.names
        refine ⟨_, rfl, .ref l1, x, some [.bad], o4, rfl, N24.OddV.one oh hl1, hn4, .inl ⟨rfl, fun Hi Si => ⟨exmB, fun e3 ne3 => ?_⟩⟩⟩
        refine ⟨e3, .ref CB, .ref CB, true, rfl, upd_same, fun u r => r, kitB, true, rfl, iteF ?_⟩
        have ei : LamX.ExtN H9 (upd Hi e3 (ErrO (.ref CB) none e3)) := eg'.trans (LamX.ExtN.of (Sh.trans (Si.trans (same_upd ne3))))
        have ti := tabs_same tg (Sh.trans (Si.trans (same_upd (o := ErrO (.ref CB) none e3) ne3)))
        generalize upd Hi e3 (ErrO (.ref CB) none e3) = Hj at ei ti
        -- no sequel
        refine ⟨_, rfl, Nat.zero_le _, fun l2 nl2 => ?_⟩
        have Sk : Same Hj (upd Hj l2 (.lst [])) := same_upd nl2
        have hl2 : (upd Hj l2 (.lst [])) l2 = some (.lst (([] : List Str).map V.str)) := upd_same
        generalize upd Hj l2 (.lst []) = Hk at Sk hl2
        obtain ⟨o5, hs5, hg5⟩ := N24.OddV.bad ((N24.OddV.ext ox ei).same Sk)
        refine ⟨x, .ref l2, o5, rfl, .inr ⟨hs5, l2, [], rfl, .inl (.inl (.inl hl2)), by decide, fun z h => absurd h List.not_mem_nil, List.nodup_nil, fun Hl Sl => ?_⟩⟩
        rw [hg5]
        refine ⟨false, false, rfl, rfl, _, rfl, iteF ?_⟩
        exact ⟨_, rfl, e9.trans (ei.trans (LamX.ExtN.of (Sk.trans Sl))), tabs_same ti (Sk.trans Sl)⟩
      · rintro σ H9 ⟨y9, rfl, e9, t9⟩
        exact q1 H9 _ ((LamX.ExtN.of SA).trans e9) t9
    refine ⟨_, rfl, a, ns, rfl, hS, hlen, fun H1 sa sw sc S1 nsa nsw nsc _ _ _ s1 => ?_⟩
    refine ⟨rfl, fun d nd => ?_⟩
    have Sd : Same H1 (upd H1 d (.dK formsD)) := same_upd nd
    have hd : (upd H1 d (.dK formsD)) d = some (.dK formsD) := upd_same
    generalize upd H1 d (.dK formsD) = H2 at Sd hd
    refine ⟨d, formsD, formsL.map (·.1), rfl, .inl hd, forms_keys, by decide, fun ws wd perm srt nwd => ?_⟩
    have Sw : Same H2 (upd H2 wd (.lst (ws.map V.str))) := same_upd nwd
    have hw : (upd H2 wd (.lst (ws.map V.str))) wd = some (.lst (ws.map V.str)) := upd_same
    have owd := St.off (St.same s1 Sd) nwd
    generalize upd H2 wd (.lst (ws.map V.str)) = H3 at Sw hw
    have S3 : Same H H3 := S1.trans (Sd.trans Sw)
    have s3 : St H3 sa sw sc 0 := St.same s1 (Sd.trans Sw)
    have t3 : LamX.Tabs (tabsL Pt Pn) H3 := fun p hp => by
      rcases List.mem_cons.mp hp with rfl | hp
      · exact LamX.TabS.nil (S3 _ _ hPt)
      · rw [List.mem_singleton.mp hp]
        exact LamX.TabS.nil (S3 _ _ hPn')
    refine ⟨.ref a, rfl, a, _, rfl, .inl (S3.seq hS), _, _, rfl, 1, _, rfl, rfl, ?_⟩
    obtain ⟨m, hm, hm0, hm1⟩ : ∃ m : Int, (1 + if (2 : Int) < (((ns.map V.int).length : Nat) : Int) then 2 else (((ns.map V.int).length : Nat) : Int)) = m ∧ 1 ≤ m ∧ m ≤ 3 := by
      refine ⟨_, rfl, ?_, ?_⟩ <;> split <;> omega
    refine ⟨_, rfl, by show (-4611686018427387904 : Int) ≤ _; rw [hm]; omega, by show _ < (4611686018427387904 : Int); rw [hm]; omega, ?_⟩
    rw [hm]
    refine for_range (lo := 0) (n := m.toNat) (fun i σ H' => ∃ y3 y4 y5 y6 y7 y8 y9 y10 : Option V, σ = [some (.ref a), some (.ref sa), some (.ref wd), y3, y4, y5, y6, y7, y8, y9, y10, none, none, none] ∧ H' wd = some (.lst (ws.map V.str)) ∧ St H' sa sw sc (3000 * i) ∧ LamX.Tabs (tabsL Pt Pn) H')
      ⟨_, _, _, _, _, _, _, _, rfl, hw, s3, t3⟩ ?_ ?_
    · rintro i σ H4 hi ⟨y3, y4, y5, y6, y7, y8, y9, y10, rfl, hw4, s4, t4⟩
      have hi3 : i < 3 := by omega
      refine ⟨sa, sw, sc, wd, 3000 * i, ws, rfl, rfl, s4, by omega, hw4, perm, fun H5 mm ns2 nmm hmm k5 s5 om l0 l11 fo => ?_⟩
      refine ⟨_, rfl, _, rfl, sa, sw, sc, _, 7, rfl, s5, by omega, by decide, pow1000 (n := 7) (by decide), fun H6 dd d0 d1 k6 s6 => ?_⟩
      obtain ⟨n, rfl⟩ : ∃ n : Nat, dd = (n : Int) := ⟨dd.toNat, by omega⟩
      have hmm6 := k6 _ _ hmm om.1 om.2.1
      refine ⟨_, rfl, sa, sw, sc, mm, _, n, 3, ns2, rfl, s6, by omega, by omega, .inl (.inl hmm6), om.1, om.2.1, l0, by omega, fo, fun H7 l ys st nl hl e1 e2 hst hg good k7 s7 ol => ?_⟩
      have k47 := k5.trans (k6.trans k7)
      have t7 := tabs_kept t4 s4 k47
      have hst7 : Sdl K H7 ys st := ⟨by omega, hst⟩
      have hl7 : st.length ≤ 7 := by omega
      refine ⟨_, _, _, _, _, y5, y6, y7, y8, y9, l, ys, st, rfl, hl, hst7, hg, hl7, fun H8 tl S8 ntl htl => ?_⟩
      refine ⟨_, _, _, _, _, y6, y7, y8, y9, l, tl, ys, st, rfl, S8 _ _ hl, hst7.tk (TK.of S8), hg, hl7, htl, fun H9 S9 => ?_⟩
      have S79 := S8.trans S9
      have hl9 := S79 _ _ hl
      have hst9 : Sdl K H9 ys st := hst7.tk (TK.of S79)
      have s9 : St H9 sa sw sc _ := St.same s7 S79
      refine ⟨_, rfl, _, rfl, sa, sw, sc, l, _, ys, st, rfl, s9, by omega, .inl (.inl hl9), ol.1, ol.2.1, hst9, hg, good, hl7, tabs_same t7 S79, fun H10 k10 s10 t10 => ⟨true, rfl, iteF ?_⟩⟩
      have hl10 := k10.lst hl9 ⟨ol.1, ol.2.1⟩
      have hst10 : Sdl K H10 ys st := hst9.tk (k10.tk s9)
      refine ⟨_, _, _, _, _, y6, y7, y8, y9, sa, sw, sc, l, _, ys, st, rfl, s10, by omega, hl10, ol.1, ol.2.1, hst10, hg, hl7, fun H11 y6 y7 y8 k11 s11 => ?_⟩
      have t11 := tabs_kept t10 s10 k11
      refine ⟨_, _, _, _, _, _, y6, y7, y8, y9, l, ys, st, rfl, k11 _ _ hl10 ol.1 ol.2.1, hst10.tk (TK.kept s10 k11), hg, hl7, t11, fun H12 y9 e12 t12 => ?_⟩
      have hw12 : H12 wd = some (.lst (ws.map V.str)) := by
        have w7 := k47 _ _ hw4 owd.1 owd.2.1
        have w10 := k10.lst (S79 _ _ w7) ⟨owd.1, owd.2.1⟩
        exact e12 _ _ (k11 _ _ w10 owd.1 owd.2.1) (fun _ z => by cases z)
      exact ⟨_, _, _, _, _, _, _, _, rfl, hw12, St.mono (St.ext s11 e12) (by omega), t12⟩
    · rintro σ H4 ⟨y3, y4, y5, y6, y7, y8, y9, y10, rfl, hw4, s4, t4⟩
      refine ⟨Nat.zero_le _, fun l1 n1 => ⟨Nat.zero_le _, fun l2 n2 => ?_⟩⟩
      have S1' : Same H4 (upd H4 l1 (.lst [])) := same_upd n1
      have h1 : (upd (upd H4 l1 (.lst [])) l2 (.lst [])) l1 = some (.lst []) := same_upd n2 _ _ upd_same
      have h2 : (upd (upd H4 l1 (.lst [])) l2 (.lst [])) l2 = some (.lst (([] : List Str).map V.str)) := upd_same
      refine ⟨.ref l1, .ref l2, some [], rfl, .inr ⟨.inl ⟨l1, [], [], rfl, .inl (.inl (.inl h1)), rfl, by decide, (fun i y d h _ => by cases h), rfl⟩, l2, [], rfl, .inl (.inl (.inl h2)), by decide, fun z h => absurd h List.not_mem_nil, List.nodup_nil, fun H5 S5 => ?_⟩⟩
      refine ⟨true, true, rfl, rfl, true, rfl, ?_⟩
      refine ⟨Nat.zero_le _, fun q1a nq1 => ?_⟩
      have hq1 : (upd H5 q1a (.tup [])) q1a = some (.tup []) := upd_same
      refine ⟨.ref q1a, [], rfl, .inl ⟨q1a, [], [], rfl, .inr (.inl (.inl hq1)), rfl, by decide, (fun i y d h _ => by cases h), rfl⟩, rfl, by decide, fun H6 q2 zs S6 nq2 hq2 srt nd mem zl => ?_⟩
      have z0 : zs = [] := by
        cases zs with
        | nil => rfl
        | cons z r => exact absurd ((mem z).mp List.mem_cons_self).2 List.not_mem_nil
      subst z0
      refine ⟨Nat.zero_le _, fun q3 nq3 => ?_⟩
      refine ⟨_, _, dp_tups (xs := []) (same_upd nq3 _ _ hq2), dp_tups (xs := []) upd_same, by decide, by decide, ?_⟩
      exact q _
end
end N25

set_option Elab.async false
set_option linter.all false
set_option maxRecDepth 100000
set_option maxHeartbeats 2000000
/-! Tables that the top has written. -/
namespace N26
open PySem PySem.Spec PyProof.Rows L2 Cau Dr27 N1 N2 N3 N4 N7
def txV : Value → Option Str
  | .str x _ => some x
  | _ => none
def nuV : Value → Option Int
  | .int i _ => some i
  | _ => none
theorem txV_some {v : Value} {x : Str} (h : txV v = some x) : ∃ t, v = .str x t := by
  cases v <;> try (cases h)
  exact ⟨_, rfl⟩
theorem nuV_some {v : Value} {x : Int} (h : nuV v = some x) : ∃ t, v = .int x t := by
  cases v <;> try (cases h)
  exact ⟨_, rfl⟩
theorem str_is {x z : Str} {t : Tok} : (Value.str x t).isStr z = (x == z) := by
  rw [PySem.W.isStr_of]
  rfl
/-- a look-up in entries whose keys are texts -/
theorem look_tab {β : Type} (g : Value → Option β) (z : Str) : ∀ (l : List DictEntry) (ps : List (Str × β)), (l.map fun e => (txV e.key, g e.val)) = (ps.map fun p => (some p.1, some p.2)) →
    (ps.lookup z = none → l.find? (·.key.isStr z) = none ∧ l.any (·.refKey) = false) ∧ ∀ b, ps.lookup z = some b → ∃ e, l.find? (·.key.isStr z) = some e ∧ g e.val = some b
  | [], [], _ => ⟨fun _ => ⟨rfl, rfl⟩, fun b h => by cases h⟩
  | [], p :: ps, h => by cases h
  | e :: l, [], h => by cases h
  | e :: l, p :: ps, h => by
    rw [List.map_cons, List.map_cons, List.cons.injEq, Prod.mk.injEq] at h
    obtain ⟨⟨hk, hv⟩, hr⟩ := h
    obtain ⟨t, et⟩ := txV_some hk
    have ih := look_tab g z l ps hr
    obtain ⟨y, b⟩ := p
    have ei : e.key.isStr z = (y == z) := by rw [et]; exact str_is
    rw [List.find?_cons, ei, List.lookup_cons]
    by_cases hz : y = z
    · subst hz
      have e1 : (y == y) = true := beq_self_eq_true _
      rw [e1]
      exact ⟨(fun h => by cases h), fun b' h => ⟨e, rfl, (by cases h; exact hv)⟩⟩
    · have e1 : (y == z) = false := beq_eq_false_iff_ne.mpr hz
      have e2 : (z == y) = false := beq_eq_false_iff_ne.mpr (Ne.symm hz)
      rw [e1, e2]
      refine ⟨fun h => ⟨(ih.1 h).1, ?_⟩, ih.2⟩
      rw [List.any_cons, (ih.1 h).2, Bool.or_false]
      unfold DictEntry.refKey
      rw [et]
section
variable {K : PySem.W.Frag} {w : World} {d : Addr} {es : Array DictEntry} {n : Nat}
theorem forms_of (hl : K.lookup d = some ⟨.type "dict", none, .dict es n, #[]⟩) (lit : PySem.W.KeysLit w.params es.toList) (low : (d == sysModules) = false) (tab : (es.toList.map fun e => (txV e.key, nuV e.val)) = (formsL.map fun p => (some p.1, some (p.2 : Int)))) : FormsK K w d := by
  have tab' : (es.toList.map fun e => (txV e.key, nuV e.val)) = ((formsL.map fun p => (p.1, (p.2 : Int))).map fun p => (some p.1, some p.2)) := by
    rw [tab, List.map_map]
    rfl
  have lk : ∀ z, (formsL.map fun p => (p.1, (p.2 : Int))).lookup z = (formOf z).map fun k => (k : Int) := by
    intro z
    unfold formOf
    generalize formsL = l
    induction l with
    | nil => rfl
    | cons p r ih =>
      rw [List.map_cons, List.lookup_cons, List.lookup_cons]
      cases z == p.1 <;> simp [ih]
  refine ⟨⟨es, n, hl, lit, low⟩, fun z h => ?_, fun z k h => ?_⟩
  · have q := (look_tab nuV z _ _ tab').1 (by rw [lk, h]; rfl)
    unfold PySem.W.nsIn
    simp only [hl, q.1, q.2]
    rfl
  · obtain ⟨e, q1, q2⟩ := (look_tab nuV z _ _ tab').2 (k : Int) (by rw [lk, h]; rfl)
    obtain ⟨t, et⟩ := nuV_some q2
    refine ⟨t, ?_⟩
    unfold PySem.W.nsIn
    simp only [hl, q1, et]
theorem tools_of (hl : K.lookup d = some ⟨.type "dict", none, .dict es n, #[]⟩) (lit : PySem.W.KeysLit w.params es.toList) (low : (d == sysModules) = false) (tab : (es.toList.map fun e => (txV e.key, txV e.val)) = (toolsL.map fun p => (some p.1, some p.2))) : ToolsK K w d := by
  refine ⟨⟨es, n, hl, lit, low⟩, fun z h => ?_, fun z k h => ?_⟩
  · have q := (look_tab txV z _ _ tab).1 h
    unfold PySem.W.nsIn
    simp only [hl, q.1, q.2]
    rfl
  · obtain ⟨e, q1, q2⟩ := (look_tab txV z _ _ tab).2 k h
    obtain ⟨t, et⟩ := txV_some q2
    refine ⟨t, ?_⟩
    unfold PySem.W.nsIn
    simp only [hl, q1, et]
theorem words_of {od : Option Addr} {us : Array Value} {m : Nat} {sl : Array (Option Value)} {ws : List Str} (hl : K.lookup d = some ⟨.type "tuple", od, .seq us m, sl⟩) (hv : Vals (ws.map V.str) us.toList) (hs : ws.length ≤ 1000) : WordsK K d ws := fun H => by
  refine .inr ⟨_, us, m, hl, rfl, rfl, ?_, hv⟩
  have e := hv.length
  rw [List.length_map] at e
  have e2 : us.toList.length = us.size := by simp
  have := small1000 hs
  omega
theorem vals_rev : ∀ {xs : List V} {us : List Value}, Vals xs us → Vals xs.reverse us.reverse
  | _, _, .nil => .nil
  | _, _, .cons r t => by
    rw [List.reverse_cons, List.reverse_cons]
    exact Vals.append (vals_rev t) (.cons r .nil)
end
/-- the statements within a class -/
def clsBody : Stmt → List Stmt
  | .ClassDef _ _ _ b _ _ _ _ _ _ _ => b
  | _ => []
end N26

set_option Elab.async false
set_option linter.all false
set_option maxRecDepth 100000
set_option maxHeartbeats 4000000
namespace N27
open PySem PySem.Spec PyProof.Rows L2 Cau Dr27 N1 N2 N3 N4 N5 N6 N7 N8 N9 N10 N11 N12 N13 N14 N15 N16 N17 N21 N22 N23 N24 N25
abbrev sInit : Stmt := (N26.clsBody (topS 5)).getD 0 (.Pass ⟨0, 0, 0, 0⟩)
/-! ### what the top has written, and the law's own head -/
theorem all_mk {l : PySem.W.OpenLaw} {w : World} {K : PySem.W.Frag} {h : Heap} {mg : Str → Option Value} {fa : Addr} (X : K.In h) (G : h.Ns mainGlobals mg) (hfa : mg "law" = some (.ref fa))
    (own : ∀ x ∈ (["_law_needed_right", "law"] : List Str), ∀ c P : Addr, PySem.W.tabIn K x = some (c, P) → PySem.W.CodeHd h c P ∧ h.get? P = some { cls := .none, data := .fields #[] })
    {f0 : Addr} {od0 an0 : Option Addr} {sl0 : Array (Option Value)} {oc0 kV0 dc0 pm0 ct0 cd0 : Value}
    {f1 : Addr} {od1 an1 : Option Addr} {sl1 : Array (Option Value)} {oc1 kV1 dc1 pm1 ct1 cd1 : Value}
    {f2 : Addr} {od2 an2 : Option Addr} {sl2 : Array (Option Value)} {oc2 kV2 dc2 pm2 ct2 cd2 : Value}
    {f3 : Addr} {od3 an3 : Option Addr} {sl3 : Array (Option Value)} {oc3 kV3 dc3 pm3 ct3 cd3 : Value}
    {f4 : Addr} {od4 an4 : Option Addr} {sl4 : Array (Option Value)} {oc4 kV4 dc4 pm4 ct4 cd4 : Value}
    {f5 : Addr} {od5 an5 : Option Addr} {sl5 : Array (Option Value)} {oc5 kV5 dc5 pm5 ct5 cd5 : Value}
    {f6 : Addr} {od6 an6 : Option Addr} {sl6 : Array (Option Value)} {oc6 kV6 dc6 pm6 ct6 cd6 : Value}
    {f7 : Addr} {od7 an7 : Option Addr} {sl7 : Array (Option Value)} {oc7 kV7 dc7 pm7 ct7 cd7 : Value}
    {f8 : Addr} {od8 an8 : Option Addr} {sl8 : Array (Option Value)} {oc8 kV8 dc8 pm8 ct8 cd8 : Value}
    {f9 : Addr} {od9 an9 : Option Addr} {sl9 : Array (Option Value)} {oc9 kV9 dc9 pm9 ct9 cd9 : Value}
    {f10 : Addr} {od10 an10 : Option Addr} {sl10 : Array (Option Value)} {oc10 kV10 dc10 pm10 ct10 cd10 : Value}
    {f11 : Addr} {od11 an11 : Option Addr} {sl11 : Array (Option Value)} {oc11 kV11 dc11 pm11 ct11 cd11 : Value}
    {f12 : Addr} {od12 an12 : Option Addr} {sl12 : Array (Option Value)} {oc12 kV12 dc12 pm12 ct12 cd12 : Value}
    {f13 : Addr} {od13 an13 : Option Addr} {sl13 : Array (Option Value)} {oc13 kV13 dc13 pm13 ct13 cd13 : Value}
    {f14 : Addr} {od14 an14 : Option Addr} {sl14 : Array (Option Value)} {oc14 kV14 dc14 pm14 ct14 cd14 : Value}
    {f15 : Addr} {od15 an15 : Option Addr} {sl15 : Array (Option Value)} {oc15 kV15 dc15 pm15 ct15 cd15 : Value}
    {f16 : Addr} {od16 an16 : Option Addr} {sl16 : Array (Option Value)} {oc16 kV16 dc16 pm16 ct16 cd16 : Value}
    {f17 : Addr} {od17 an17 : Option Addr} {sl17 : Array (Option Value)} {oc17 kV17 dc17 pm17 ct17 cd17 : Value}
    {f18 : Addr} {od18 an18 : Option Addr} {sl18 : Array (Option Value)} {oc18 kV18 dc18 pm18 ct18 cd18 : Value}
    {f19 : Addr} {od19 an19 : Option Addr} {sl19 : Array (Option Value)} {oc19 kV19 dc19 pm19 ct19 cd19 : Value}
    {f20 : Addr} {od20 an20 : Option Addr} {sl20 : Array (Option Value)} {oc20 kV20 dc20 pm20 ct20 cd20 : Value}
    {f21 : Addr} {od21 an21 : Option Addr} {sl21 : Array (Option Value)} {oc21 kV21 dc21 pm21 ct21 cd21 : Value}
    {f22 : Addr} {od22 an22 : Option Addr} {sl22 : Array (Option Value)} {oc22 kV22 dc22 pm22 ct22 cd22 : Value}
    {f23 : Addr} {od23 an23 : Option Addr} {sl23 : Array (Option Value)} {oc23 kV23 dc23 pm23 ct23 cd23 : Value}
    {f24 : Addr} {od24 an24 : Option Addr} {sl24 : Array (Option Value)} {oc24 kV24 dc24 pm24 ct24 cd24 : Value}
    {f25 : Addr} {od25 an25 : Option Addr} {sl25 : Array (Option Value)} {oc25 kV25 dc25 pm25 ct25 cd25 : Value}
    {f26 : Addr} {od26 an26 : Option Addr} {sl26 : Array (Option Value)} {oc26 kV26 dc26 pm26 ct26 cd26 : Value}
    {f27 : Addr} {od27 an27 : Option Addr} {sl27 : Array (Option Value)} {oc27 kV27 dc27 pm27 ct27 cd27 : Value}
    {f28 : Addr} {od28 an28 : Option Addr} {sl28 : Array (Option Value)} {oc28 kV28 dc28 pm28 ct28 cd28 : Value}
    {f29 : Addr} {od29 an29 : Option Addr} {sl29 : Array (Option Value)} {oc29 kV29 dc29 pm29 ct29 cd29 : Value}
    {f30 : Addr} {od30 an30 : Option Addr} {sl30 : Array (Option Value)} {oc30 kV30 dc30 pm30 ct30 cd30 : Value}
    {f31 : Addr} {od31 an31 : Option Addr} {sl31 : Array (Option Value)} {oc31 kV31 dc31 pm31 ct31 cd31 : Value}
    {f32 : Addr} {od32 an32 : Option Addr} {sl32 : Array (Option Value)} {oc32 kV32 dc32 pm32 ct32 : Value}
    {cO32 Pt32 : Addr} {co32 : Value} {cdd32 : Option Addr} {cvs32 : Array Value} {csl32 : Array (Option Value)}
    {f33 : Addr} {od33 an33 : Option Addr} {sl33 : Array (Option Value)} {oc33 kV33 dc33 pm33 ct33 cd33 : Value}
    {f34 : Addr} {od34 an34 : Option Addr} {sl34 : Array (Option Value)} {oc34 kV34 dc34 pm34 ct34 cd34 : Value}
    {f35 : Addr} {od35 an35 : Option Addr} {sl35 : Array (Option Value)} {oc35 kV35 dc35 pm35 ct35 : Value}
    {cO35 Pt35 : Addr} {co35 : Value} {cdd35 : Option Addr} {cvs35 : Array Value} {csl35 : Array (Option Value)}
    {CM NM : Addr} {nmM qM : Str} {bsM bmM subM : List Value} {snM : List Str} {abM : Bool} {colM : Option Bool} {ddM : Option Addr} {m0M m1M m2M m3M m5M : Option Value}
    {fI cdI ccI : Addr} {ocI kVI dcI pmI ctI clI cclI : Value} {odI anI cldI cddI : Option Addr} {slI cslI ccsI : Array (Option Value)} {vsI : Array Value} {fileI : Str} {tfI : Tok}
    {d1 d2 d3 d4 : Addr} {es1 es3 : Array DictEntry} {n1 n3 mm2 mm4 : Nat} {us2 us4 : Array Value} {od_2 od_4 : Option Addr} {sl_2 sl_4 : Array (Option Value)}
    {CR : Addr}
    {CD : Addr}
    {CB : Addr}
    {CN : Addr}
    {t1 : Tok}
    {t2 : Tok}
    (a0 : PySem.W.nsIn K mainGlobals "is_whole" = some (some (.ref f0)))
    (l0 : K.lookup f0 = some ⟨oc0, od0, .func (PySem.W.fnOf "is_whole" "is_whole" (defArgs sIsWhole) (defBody sIsWhole) (defScope sIsWhole) .none kV0 dc0 pm0 an0 cd0 ct0), sl0⟩)
    (c0 : PySem.W.codeIn K cd0 "is_whole" = true)
    (k0 : PySem.W.keepIn K (.ref f0) = true)
    (a1 : PySem.W.nsIn K mainGlobals "is_tuple_of" = some (some (.ref f1)))
    (l1 : K.lookup f1 = some ⟨oc1, od1, .func (PySem.W.fnOf "is_tuple_of" "is_tuple_of" (defArgs sTupleOf) (defBody sTupleOf) (defScope sTupleOf) .none kV1 dc1 pm1 an1 cd1 ct1), sl1⟩)
    (c1 : PySem.W.codeIn K cd1 "is_tuple_of" = true)
    (k1 : PySem.W.keepIn K (.ref f1) = true)
    (a2 : PySem.W.nsIn K mainGlobals "is_list" = some (some (.ref f2)))
    (l2 : K.lookup f2 = some ⟨oc2, od2, .func (PySem.W.fnOf "is_list" "is_list" (defArgs sIsList) (defBody sIsList) (defScope sIsList) .none kV2 dc2 pm2 an2 cd2 ct2), sl2⟩)
    (c2 : PySem.W.codeIn K cd2 "is_list" = true)
    (k2 : PySem.W.keepIn K (.ref f2) = true)
    (a3 : PySem.W.nsIn K mainGlobals "is_name" = some (some (.ref f3)))
    (l3 : K.lookup f3 = some ⟨oc3, od3, .func (PySem.W.fnOf "is_name" "is_name" (defArgs sIsName) (defBody sIsName) (defScope sIsName) .none kV3 dc3 pm3 an3 cd3 ct3), sl3⟩)
    (c3 : PySem.W.codeIn K cd3 "is_name" = true)
    (k3 : PySem.W.keepIn K (.ref f3) = true)
    (a4 : PySem.W.nsIn K mainGlobals "are_different_names" = some (some (.ref f4)))
    (l4 : K.lookup f4 = some ⟨oc4, od4, .func (PySem.W.fnOf "are_different_names" "are_different_names" (defArgs sDiff) (defBody sDiff) (defScope sDiff) .none kV4 dc4 pm4 an4 cd4 ct4), sl4⟩)
    (c4 : PySem.W.codeIn K cd4 "are_different_names" = true)
    (k4 : PySem.W.keepIn K (.ref f4) = true)
    (a5 : PySem.W.nsIn K mainGlobals "is_deed" = some (some (.ref f5)))
    (l5 : K.lookup f5 = some ⟨oc5, od5, .func (PySem.W.fnOf "is_deed" "is_deed" (defArgs sIsDeed) (defBody sIsDeed) (defScope sIsDeed) .none kV5 dc5 pm5 an5 cd5 ct5), sl5⟩)
    (c5 : PySem.W.codeIn K cd5 "is_deed" = true)
    (k5 : PySem.W.keepIn K (.ref f5) = true)
    (a6 : PySem.W.nsIn K mainGlobals "check_deed" = some (some (.ref f6)))
    (l6 : K.lookup f6 = some ⟨oc6, od6, .func (PySem.W.fnOf "check_deed" "check_deed" (defArgs sCheckDeed) (defBody sCheckDeed) (defScope sCheckDeed) .none kV6 dc6 pm6 an6 cd6 ct6), sl6⟩)
    (c6 : PySem.W.codeIn K cd6 "check_deed" = true)
    (k6 : PySem.W.keepIn K (.ref f6) = true)
    (a7 : PySem.W.nsIn K mainGlobals "are_steps" = some (some (.ref f7)))
    (l7 : K.lookup f7 = some ⟨oc7, od7, .func (PySem.W.fnOf "are_steps" "are_steps" (defArgs sAreSteps) (defBody sAreSteps) (defScope sAreSteps) .none kV7 dc7 pm7 an7 cd7 ct7), sl7⟩)
    (c7 : PySem.W.codeIn K cd7 "are_steps" = true)
    (k7 : PySem.W.keepIn K (.ref f7) = true)
    (a8 : PySem.W.nsIn K mainGlobals "is_drawing" = some (some (.ref f8)))
    (l8 : K.lookup f8 = some ⟨oc8, od8, .func (PySem.W.fnOf "is_drawing" "is_drawing" (defArgs sIsDrawing) (defBody sIsDrawing) (defScope sIsDrawing) .none kV8 dc8 pm8 an8 cd8 ct8), sl8⟩)
    (c8 : PySem.W.codeIn K cd8 "is_drawing" = true)
    (k8 : PySem.W.keepIn K (.ref f8) = true)
    (a9 : PySem.W.nsIn K mainGlobals "deed_names" = some (some (.ref f9)))
    (l9 : K.lookup f9 = some ⟨oc9, od9, .func (PySem.W.fnOf "deed_names" "deed_names" (defArgs sDeedNames) (defBody sDeedNames) (defScope sDeedNames) .none kV9 dc9 pm9 an9 cd9 ct9), sl9⟩)
    (c9 : PySem.W.codeIn K cd9 "deed_names" = true)
    (k9 : PySem.W.keepIn K (.ref f9) = true)
    (a10 : PySem.W.nsIn K mainGlobals "tool_of" = some (some (.ref f10)))
    (l10 : K.lookup f10 = some ⟨oc10, od10, .func (PySem.W.fnOf "tool_of" "tool_of" (defArgs sToolOf) (defBody sToolOf) (defScope sToolOf) .none kV10 dc10 pm10 an10 cd10 ct10), sl10⟩)
    (c10 : PySem.W.codeIn K cd10 "tool_of" = true)
    (k10 : PySem.W.keepIn K (.ref f10) = true)
    (a11 : PySem.W.nsIn K mainGlobals "check_drawing" = some (some (.ref f11)))
    (l11 : K.lookup f11 = some ⟨oc11, od11, .func (PySem.W.fnOf "check_drawing" "check_drawing" (defArgs sCheckDrawing) (defBody sCheckDrawing) (defScope sCheckDrawing) .none kV11 dc11 pm11 an11 cd11 ct11), sl11⟩)
    (c11 : PySem.W.codeIn K cd11 "check_drawing" = true)
    (k11 : PySem.W.keepIn K (.ref f11) = true)
    (a12 : PySem.W.nsIn K mainGlobals "check_names" = some (some (.ref f12)))
    (l12 : K.lookup f12 = some ⟨oc12, od12, .func (PySem.W.fnOf "check_names" "check_names" (defArgs sCheckNames) (defBody sCheckNames) (defScope sCheckNames) .none kV12 dc12 pm12 an12 cd12 ct12), sl12⟩)
    (c12 : PySem.W.codeIn K cd12 "check_names" = true)
    (k12 : PySem.W.keepIn K (.ref f12) = true)
    (a13 : PySem.W.nsIn K mainGlobals "is_sequel" = some (some (.ref f13)))
    (l13 : K.lookup f13 = some ⟨oc13, od13, .func (PySem.W.fnOf "is_sequel" "is_sequel" (defArgs sIsSequel) (defBody sIsSequel) (defScope sIsSequel) .none kV13 dc13 pm13 an13 cd13 ct13), sl13⟩)
    (c13 : PySem.W.codeIn K cd13 "is_sequel" = true)
    (k13 : PySem.W.keepIn K (.ref f13) = true)
    (a14 : PySem.W.nsIn K mainGlobals "chest_of" = some (some (.ref f14)))
    (l14 : K.lookup f14 = some ⟨oc14, od14, .func (PySem.W.fnOf "chest_of" "chest_of" (defArgs sChestOf) (defBody sChestOf) (defScope sChestOf) .none kV14 dc14 pm14 an14 cd14 ct14), sl14⟩)
    (c14 : PySem.W.codeIn K cd14 "chest_of" = true)
    (k14 : PySem.W.keepIn K (.ref f14) = true)
    (a15 : PySem.W.nsIn K mainGlobals "needed" = some (some (.ref f15)))
    (l15 : K.lookup f15 = some ⟨oc15, od15, .func (PySem.W.fnOf "needed" "needed" (defArgs sNeeded) (defBody sNeeded) (defScope sNeeded) .none kV15 dc15 pm15 an15 cd15 ct15), sl15⟩)
    (c15 : PySem.W.codeIn K cd15 "needed" = true)
    (k15 : PySem.W.keepIn K (.ref f15) = true)
    (a16 : PySem.W.nsIn K mainGlobals "_law_begun" = some (some (.ref f16)))
    (l16 : K.lookup f16 = some ⟨oc16, od16, .func (PySem.W.fnOf "_law_begun" "_law_begun" (defArgs sBegun) (defBody sBegun) (defScope sBegun) .none kV16 dc16 pm16 an16 cd16 ct16), sl16⟩)
    (c16 : PySem.W.codeIn K cd16 "_law_begun" = true)
    (k16 : PySem.W.keepIn K (.ref f16) = true)
    (a17 : PySem.W.nsIn K mainGlobals "_law_stirred" = some (some (.ref f17)))
    (l17 : K.lookup f17 = some ⟨oc17, od17, .func (PySem.W.fnOf "_law_stirred" "_law_stirred" (defArgs sStirred) (defBody sStirred) (defScope sStirred) .none kV17 dc17 pm17 an17 cd17 ct17), sl17⟩)
    (c17 : PySem.W.codeIn K cd17 "_law_stirred" = true)
    (k17 : PySem.W.keepIn K (.ref f17) = true)
    (a18 : PySem.W.nsIn K mainGlobals "_law_draw" = some (some (.ref f18)))
    (l18 : K.lookup f18 = some ⟨oc18, od18, .func (PySem.W.fnOf "_law_draw" "_law_draw" (defArgs sDraw) (defBody sDraw) (defScope sDraw) .none kV18 dc18 pm18 an18 cd18 ct18), sl18⟩)
    (c18 : PySem.W.codeIn K cd18 "_law_draw" = true)
    (k18 : PySem.W.keepIn K (.ref f18) = true)
    (a19 : PySem.W.nsIn K mainGlobals "_law_pick" = some (some (.ref f19)))
    (l19 : K.lookup f19 = some ⟨oc19, od19, .func (PySem.W.fnOf "_law_pick" "_law_pick" (defArgs sPick) (defBody sPick) (defScope sPick) .none kV19 dc19 pm19 an19 cd19 ct19), sl19⟩)
    (c19 : PySem.W.codeIn K cd19 "_law_pick" = true)
    (k19 : PySem.W.keepIn K (.ref f19) = true)
    (a20 : PySem.W.nsIn K mainGlobals "_law_shuffled" = some (some (.ref f20)))
    (l20 : K.lookup f20 = some ⟨oc20, od20, .func (PySem.W.fnOf "_law_shuffled" "_law_shuffled" (defArgs sShuf) (defBody sShuf) (defScope sShuf) .none kV20 dc20 pm20 an20 cd20 ct20), sl20⟩)
    (c20 : PySem.W.codeIn K cd20 "_law_shuffled" = true)
    (k20 : PySem.W.keepIn K (.ref f20) = true)
    (a21 : PySem.W.nsIn K mainGlobals "_law_name" = some (some (.ref f21)))
    (l21 : K.lookup f21 = some ⟨oc21, od21, .func (PySem.W.fnOf "_law_name" "_law_name" (defArgs sNm) (defBody sNm) (defScope sNm) .none kV21 dc21 pm21 an21 cd21 ct21), sl21⟩)
    (c21 : PySem.W.codeIn K cd21 "_law_name" = true)
    (k21 : PySem.W.keepIn K (.ref f21) = true)
    (a22 : PySem.W.nsIn K mainGlobals "_law_caught" = some (some (.ref f22)))
    (l22 : K.lookup f22 = some ⟨oc22, od22, .func (PySem.W.fnOf "_law_caught" "_law_caught" (defArgs sCaught) (defBody sCaught) (defScope sCaught) .none kV22 dc22 pm22 an22 cd22 ct22), sl22⟩)
    (c22 : PySem.W.codeIn K cd22 "_law_caught" = true)
    (k22 : PySem.W.keepIn K (.ref f22) = true)
    (a23 : PySem.W.nsIn K mainGlobals "_law_deed_names" = some (some (.ref f23)))
    (l23 : K.lookup f23 = some ⟨oc23, od23, .func (PySem.W.fnOf "_law_deed_names" "_law_deed_names" (defArgs sLDeedNames) (defBody sLDeedNames) (defScope sLDeedNames) .none kV23 dc23 pm23 an23 cd23 ct23), sl23⟩)
    (c23 : PySem.W.codeIn K cd23 "_law_deed_names" = true)
    (k23 : PySem.W.keepIn K (.ref f23) = true)
    (a24 : PySem.W.nsIn K mainGlobals "_law_chained_steps" = some (some (.ref f24)))
    (l24 : K.lookup f24 = some ⟨oc24, od24, .func (PySem.W.fnOf "_law_chained_steps" "_law_chained_steps" (defArgs sChain) (defBody sChain) (defScope sChain) .none kV24 dc24 pm24 an24 cd24 ct24), sl24⟩)
    (c24 : PySem.W.codeIn K cd24 "_law_chained_steps" = true)
    (k24 : PySem.W.keepIn K (.ref f24) = true)
    (a25 : PySem.W.nsIn K mainGlobals "_law_forms" = some (some (.ref f25)))
    (l25 : K.lookup f25 = some ⟨oc25, od25, .func (PySem.W.fnOf "_law_forms" "_law_forms" (defArgs sForms) (defBody sForms) (defScope sForms) .none kV25 dc25 pm25 an25 cd25 ct25), sl25⟩)
    (c25 : PySem.W.codeIn K cd25 "_law_forms" = true)
    (k25 : PySem.W.keepIn K (.ref f25) = true)
    (a26 : PySem.W.nsIn K mainGlobals "_law_has_way" = some (some (.ref f26)))
    (l26 : K.lookup f26 = some ⟨oc26, od26, .func (PySem.W.fnOf "_law_has_way" "_law_has_way" (defArgs sHasWay) (defBody sHasWay) (defScope sHasWay) .none kV26 dc26 pm26 an26 cd26 ct26), sl26⟩)
    (c26 : PySem.W.codeIn K cd26 "_law_has_way" = true)
    (k26 : PySem.W.keepIn K (.ref f26) = true)
    (a27 : PySem.W.nsIn K mainGlobals "_law_deed" = some (some (.ref f27)))
    (l27 : K.lookup f27 = some ⟨oc27, od27, .func (PySem.W.fnOf "_law_deed" "_law_deed" (defArgs sDrawn) (defBody sDrawn) (defScope sDrawn) .none kV27 dc27 pm27 an27 cd27 ct27), sl27⟩)
    (c27 : PySem.W.codeIn K cd27 "_law_deed" = true)
    (k27 : PySem.W.keepIn K (.ref f27) = true)
    (a28 : PySem.W.nsIn K mainGlobals "_law_goes_on" = some (some (.ref f28)))
    (l28 : K.lookup f28 = some ⟨oc28, od28, .func (PySem.W.fnOf "_law_goes_on" "_law_goes_on" (defArgs sGoesOn) (defBody sGoesOn) (defScope sGoesOn) .none kV28 dc28 pm28 an28 cd28 ct28), sl28⟩)
    (c28 : PySem.W.codeIn K cd28 "_law_goes_on" = true)
    (k28 : PySem.W.keepIn K (.ref f28) = true)
    (a29 : PySem.W.nsIn K mainGlobals "_law_is_name" = some (some (.ref f29)))
    (l29 : K.lookup f29 = some ⟨oc29, od29, .func (PySem.W.fnOf "_law_is_name" "_law_is_name" (defArgs sLName) (defBody sLName) (defScope sLName) .none kV29 dc29 pm29 an29 cd29 ct29), sl29⟩)
    (c29 : PySem.W.codeIn K cd29 "_law_is_name" = true)
    (k29 : PySem.W.keepIn K (.ref f29) = true)
    (a30 : PySem.W.nsIn K mainGlobals "_law_is_deed" = some (some (.ref f30)))
    (l30 : K.lookup f30 = some ⟨oc30, od30, .func (PySem.W.fnOf "_law_is_deed" "_law_is_deed" (defArgs sLDeed) (defBody sLDeed) (defScope sLDeed) .none kV30 dc30 pm30 an30 cd30 ct30), sl30⟩)
    (c30 : PySem.W.codeIn K cd30 "_law_is_deed" = true)
    (k30 : PySem.W.keepIn K (.ref f30) = true)
    (a31 : PySem.W.nsIn K mainGlobals "_law_hung" = some (some (.ref f31)))
    (l31 : K.lookup f31 = some ⟨oc31, od31, .func (PySem.W.fnOf "_law_hung" "_law_hung" (defArgs sHung) (defBody sHung) (defScope sHung) .none kV31 dc31 pm31 an31 cd31 ct31), sl31⟩)
    (c31 : PySem.W.codeIn K cd31 "_law_hung" = true)
    (k31 : PySem.W.keepIn K (.ref f31) = true)
    (a32 : PySem.W.nsIn K mainGlobals "_law_needed_right" = some (some (.ref f32)))
    (l32 : K.lookup f32 = some ⟨oc32, od32, .func (PySem.W.fnOf "_law_needed_right" "_law_needed_right" (defArgs sNeedR) (defBody sNeedR) (defScope sNeedR) .none kV32 dc32 pm32 an32 (.ref cO32) ct32), sl32⟩)
    (c32 : PySem.W.codeIn K (.ref cO32) "_law_needed_right" = true)
    (k32 : PySem.W.keepIn K (.ref f32) = true)
    (co32 : K.lookup cO32 = some ⟨co32, cdd32, .fields cvs32, csl32⟩)
    (cp32 : cvs32[11]? = some (.ref Pt32))
    (cn32 : K.lookup Pt32 = none)
    (a33 : PySem.W.nsIn K mainGlobals "_law_parts" = some (some (.ref f33)))
    (l33 : K.lookup f33 = some ⟨oc33, od33, .func (PySem.W.fnOf "_law_parts" "_law_parts" (defArgs sParts) (defBody sParts) (defScope sParts) .none kV33 dc33 pm33 an33 cd33 ct33), sl33⟩)
    (c33 : PySem.W.codeIn K cd33 "_law_parts" = true)
    (k33 : PySem.W.keepIn K (.ref f33) = true)
    (a34 : PySem.W.nsIn K mainGlobals "_law_changed" = some (some (.ref f34)))
    (l34 : K.lookup f34 = some ⟨oc34, od34, .func (PySem.W.fnOf "_law_changed" "_law_changed" (defArgs sChanged) (defBody sChanged) (defScope sChanged) .none kV34 dc34 pm34 an34 cd34 ct34), sl34⟩)
    (c34 : PySem.W.codeIn K cd34 "_law_changed" = true)
    (k34 : PySem.W.keepIn K (.ref f34) = true)
    (a35 : PySem.W.nsIn K mainGlobals "law" = some (some (.ref f35)))
    (l35 : K.lookup f35 = some ⟨oc35, od35, .func (PySem.W.fnOf "law" "law" (defArgs sLaw) (defBody sLaw) (defScope sLaw) .none kV35 dc35 pm35 an35 (.ref cO35) ct35), sl35⟩)
    (c35 : PySem.W.codeIn K (.ref cO35) "law" = true)
    (k35 : PySem.W.keepIn K (.ref f35) = true)
    (co35 : K.lookup cO35 = some ⟨co35, cdd35, .fields cvs35, csl35⟩)
    (cp35 : cvs35[11]? = some (.ref Pt35))
    (cn35 : K.lookup Pt35 = none)
    (gCR : PySem.W.nsIn K mainGlobals "RulerError" = some (some (.ref CR)))
    (eCR : PySem.W.excIn K CR [.type "ValueError", .type "Exception", .type "BaseException", .type "object"] "ValueError.__new__" = true)
    (kpCR : PySem.W.keepIn K (.ref CR) = true)
    (sbCR : PySem.W.subIn K (.ref CR) (.type "BaseException") = some true)
    (tyCR : PySem.W.typeIn K (.ref CR) = some (.type "type"))
    (gaCR : PySem.W.findIn K (.ref CR) "__getattribute__" = some (some (.builtin "BaseException.__getattribute__")))
    (gtCR : PySem.W.findIn K (.ref CR) "__getattr__" = some none)
    (hdCR : PySem.W.hasDictIn K CR = true)
    (clCR : PySem.W.findIn K (.ref CR) "__class__" = some (some (.builtin "object.__class__")))
    (mrCR : PySem.W.mroIn K CR (.type "object") = some true)
    (gCD : PySem.W.nsIn K mainGlobals "BadDeed" = some (some (.ref CD)))
    (eCD : PySem.W.excIn K CD [.type "ValueError", .type "Exception", .type "BaseException", .type "object"] "ValueError.__new__" = true)
    (kpCD : PySem.W.keepIn K (.ref CD) = true)
    (sbCD : PySem.W.subIn K (.ref CD) (.type "BaseException") = some true)
    (tyCD : PySem.W.typeIn K (.ref CD) = some (.type "type"))
    (gaCD : PySem.W.findIn K (.ref CD) "__getattribute__" = some (some (.builtin "BaseException.__getattribute__")))
    (gtCD : PySem.W.findIn K (.ref CD) "__getattr__" = some none)
    (hdCD : PySem.W.hasDictIn K CD = true)
    (clCD : PySem.W.findIn K (.ref CD) "__class__" = some (some (.builtin "object.__class__")))
    (mrCD : PySem.W.mroIn K CD (.type "object") = some true)
    (gCB : PySem.W.nsIn K mainGlobals "BadDrawing" = some (some (.ref CB)))
    (eCB : PySem.W.excIn K CB [.type "ValueError", .type "Exception", .type "BaseException", .type "object"] "ValueError.__new__" = true)
    (kpCB : PySem.W.keepIn K (.ref CB) = true)
    (sbCB : PySem.W.subIn K (.ref CB) (.type "BaseException") = some true)
    (tyCB : PySem.W.typeIn K (.ref CB) = some (.type "type"))
    (gaCB : PySem.W.findIn K (.ref CB) "__getattribute__" = some (some (.builtin "BaseException.__getattribute__")))
    (gtCB : PySem.W.findIn K (.ref CB) "__getattr__" = some none)
    (hdCB : PySem.W.hasDictIn K CB = true)
    (clCB : PySem.W.findIn K (.ref CB) "__class__" = some (some (.builtin "object.__class__")))
    (mrCB : PySem.W.mroIn K CB (.type "object") = some true)
    (gCN : PySem.W.nsIn K mainGlobals "BadNames" = some (some (.ref CN)))
    (eCN : PySem.W.excIn K CN [.type "ValueError", .type "Exception", .type "BaseException", .type "object"] "ValueError.__new__" = true)
    (kpCN : PySem.W.keepIn K (.ref CN) = true)
    (sbCN : PySem.W.subIn K (.ref CN) (.type "BaseException") = some true)
    (tyCN : PySem.W.typeIn K (.ref CN) = some (.type "type"))
    (gaCN : PySem.W.findIn K (.ref CN) "__getattribute__" = some (some (.builtin "BaseException.__getattribute__")))
    (gtCN : PySem.W.findIn K (.ref CN) "__getattr__" = some none)
    (hdCN : PySem.W.hasDictIn K CN = true)
    (clCN : PySem.W.findIn K (.ref CN) "__class__" = some (some (.builtin "object.__class__")))
    (mrCN : PySem.W.mroIn K CN (.type "object") = some true)
    (sn : PySem.W.specialIn K (.builtin "object.__class__") "__get__" = some (some (.builtin "getset_descriptor.__get__")))
    (tk : PySem.W.takesIn K (.builtin "object.__class__") = some true)
    (sCB : PySem.W.subIn K (.ref CB) (.ref CR) = some true)
    (sCN : PySem.W.subIn K (.ref CN) (.ref CR) = some true)
    (gCM : PySem.W.nsIn K mainGlobals "NoName" = some (some (.ref CM)))
    (xCM : K.lookup CM = some (excClassObj nmM qM CM NM bsM bmM true snM subM abM colM ddM m0M m1M m2M m3M m5M "ValueError.__new__"))
    (rvM : PySem.HandSPX.refsVE bmM = true)
    (kpCM : PySem.W.keepIn K (.ref CM) = true)
    (sbCM : PySem.W.subIn K (.ref CM) (.type "BaseException") = some true)
    (tyCM : PySem.W.typeIn K (.ref CM) = some (.type "type"))
    (gaCM : PySem.W.findIn K (.ref CM) "__getattribute__" = some (some (.builtin "BaseException.__getattribute__")))
    (gtCM : PySem.W.findIn K (.ref CM) "__getattr__" = some none)
    (hdCM : PySem.W.hasDictIn K CM = true)
    (clCM : PySem.W.findIn K (.ref CM) "__class__" = some (some (.builtin "object.__class__")))
    (mrCM : PySem.W.mroIn K CM (.type "object") = some true)
    (saCM : PySem.W.findIn K (.ref CM) "__setattr__" = some (some (.builtin "object.__setattr__")))
    (iM : PySem.W.findIn K (.ref CM) "__init__" = some (some (.ref fI)))
    (tI : PySem.W.typeIn K (.ref fI) = some (.type "function"))
    (lI : K.lookup fI = some ⟨ocI, odI, .func (PySem.W.ksFn "__init__" "NoName.__init__" (defArgs sInit) (defBody sInit) (defScope sInit) .none kVI dcI pmI anI (.ref cdI) ctI ccI), slI⟩)
    (cI : PySem.W.codeIn K (.ref cdI) "NoName.__init__" = true)
    (cellI : K.lookup ccI = some ⟨clI, cldI, .cell (some (.ref CM)), cslI⟩)
    (coI : K.lookup cdI = some ⟨cclI, cddI, .fields vsI, ccsI⟩)
    (viI : vsI[2]? = some (.str fileI tfI))
    (hfI : ((l.prog.main.file : Str) == fileI) = true)
    (icM : PySem.W.isClsIn K CM = true)
    (suM : PySem.W.mroIn K CM (.ref CM) = some true)
    (opM : PySem.W.nsIn K PySem.cStatics "thirdparty.any" = some none)
    (waM : PySem.W.ks_superIn K CM CM "__init__" = some (some (.builtin "ValueError.__init__")))
    (ivM : PySem.W.subIn K (.ref CM) (.type "ValueError") = some true)
    (topM : (l.prog.main.scope.names.lookup ("super" : Str)).isSome = false)
    (frM : PySem.W.findIn K (.ref CM) "name" = some none)
    (sCM : PySem.W.subIn K (.ref CM) (.ref CR) = some true)
    (gD1 : PySem.W.nsIn K mainGlobals "NAME_COUNTS" = some (some (.ref d1)))
    (hD1 : K.lookup d1 = some ⟨.type "dict", none, .dict es1 n1, #[]⟩)
    (litD1 : PySem.W.KeysLit w.params es1.toList)
    (lowD1 : (d1 == sysModules) = false)
    (tabD1 : (es1.toList.map fun e => (N26.txV e.key, N26.nuV e.val)) = (formsL.map fun p => (some p.1, some (p.2 : Int))))
    (gD3 : PySem.W.nsIn K mainGlobals "TOOLS_OF_OTHER_WORDS" = some (some (.ref d3)))
    (hD3 : K.lookup d3 = some ⟨.type "dict", none, .dict es3 n3, #[]⟩)
    (litD3 : PySem.W.KeysLit w.params es3.toList)
    (lowD3 : (d3 == sysModules) = false)
    (tabD3 : (es3.toList.map fun e => (N26.txV e.key, N26.txV e.val)) = (toolsL.map fun p => (some p.1, some p.2)))
    (gD2 : PySem.W.nsIn K mainGlobals "WORDS_WITH_WAYS" = some (some (.ref d2)))
    (hD2 : K.lookup d2 = some ⟨.type "tuple", od_2, .seq us2 mm2, sl_2⟩)
    (vD2 : Vals (waysL.map V.str) us2.toList)
    (gD4 : PySem.W.nsIn K mainGlobals "SHEET_NAMES" = some (some (.ref d4)))
    (hD4 : K.lookup d4 = some ⟨.type "tuple", od_4, .seq us4 mm4, sl_4⟩)
    (vD4 : Vals (sheetL.map V.str) us4.toList)
    (nPt : Pt32 ≠ Pt35)
    (n_t1 : PySem.W.nsIn K mainGlobals "LETTERS" = some (some (.str "abcdefghijklmnopqrstuvwxyz" t1)))
    (n_t2 : PySem.W.nsIn K mainGlobals "DIGITS" = some (some (.str "0123456789" t2)))
    (z_isinstance : PySem.W.nsIn K mainGlobals "isinstance" = some none)
    (z_int : PySem.W.nsIn K mainGlobals "int" = some none)
    (z_bool : PySem.W.nsIn K mainGlobals "bool" = some none)
    (z_str : PySem.W.nsIn K mainGlobals "str" = some none)
    (z_len : PySem.W.nsIn K mainGlobals "len" = some none)
    (z_all : PySem.W.nsIn K mainGlobals "all" = some none)
    (z_tuple : PySem.W.nsIn K mainGlobals "tuple" = some none)
    (z_list : PySem.W.nsIn K mainGlobals "list" = some none)
    (z_set : PySem.W.nsIn K mainGlobals "set" = some none)
    (z_sorted : PySem.W.nsIn K mainGlobals "sorted" = some none)
    (z_reversed : PySem.W.nsIn K mainGlobals "reversed" = some none)
    (z_abs : PySem.W.nsIn K mainGlobals "abs" = some none)
    (z_range : PySem.W.nsIn K mainGlobals "range" = some none)
    (z_max : PySem.W.nsIn K mainGlobals "max" = some none)
    (z_repr : PySem.W.nsIn K mainGlobals "repr" = some none)
    (z_dict : PySem.W.nsIn K mainGlobals "dict" = some none)
    (z_min : PySem.W.nsIn K mainGlobals "min" = some none)
    (z_super : PySem.W.nsIn K mainGlobals "super" = some none)
    : RepG.LawG l w K L2.CX0 10 63 "script" mg fa h := by
  have e := hfa.symm.trans (PySem.W.mg_of X G a35)
  cases e
  have F0 := fun_mk (st := sIsWhole) l0 c0 k0
  have b0 := F0.binds (ps := ["value"]) fun _ _ _ _ _ _ us hl => match us, hl with | [_], _ => rfl
  have F1 := fun_mk (st := sTupleOf) l1 c1 k1
  have b1 := F1.binds (ps := ["value", "size"]) fun _ _ _ _ _ _ us hl => match us, hl with | [_, _], _ => rfl
  have F2 := fun_mk (st := sIsList) l2 c2 k2
  have b2 := F2.binds (ps := ["value"]) fun _ _ _ _ _ _ us hl => match us, hl with | [_], _ => rfl
  have F3 := fun_mk (st := sIsName) l3 c3 k3
  have b3 := F3.binds (ps := ["value"]) fun _ _ _ _ _ _ us hl => match us, hl with | [_], _ => rfl
  have F4 := fun_mk (st := sDiff) l4 c4 k4
  have b4 := F4.binds (ps := ["value"]) fun _ _ _ _ _ _ us hl => match us, hl with | [_], _ => rfl
  have F5 := fun_mk (st := sIsDeed) l5 c5 k5
  have b5 := F5.binds (ps := ["value"]) fun _ _ _ _ _ _ us hl => match us, hl with | [_], _ => rfl
  have F6 := fun_mk (st := sCheckDeed) l6 c6 k6
  have b6 := F6.binds (ps := ["value"]) fun _ _ _ _ _ _ us hl => match us, hl with | [_], _ => rfl
  have F7 := fun_mk (st := sAreSteps) l7 c7 k7
  have b7 := F7.binds (ps := ["value", "names"]) fun _ _ _ _ _ _ us hl => match us, hl with | [_, _], _ => rfl
  have F8 := fun_mk (st := sIsDrawing) l8 c8 k8
  have b8 := F8.binds (ps := ["value"]) fun _ _ _ _ _ _ us hl => match us, hl with | [_], _ => rfl
  have F9 := fun_mk (st := sDeedNames) l9 c9 k9
  have b9 := F9.binds (ps := ["deed"]) fun _ _ _ _ _ _ us hl => match us, hl with | [_], _ => rfl
  have F10 := fun_mk (st := sToolOf) l10 c10 k10
  have b10 := F10.binds (ps := ["deed"]) fun _ _ _ _ _ _ us hl => match us, hl with | [_], _ => rfl
  have F11 := fun_mk (st := sCheckDrawing) l11 c11 k11
  have b11 := F11.binds (ps := ["value"]) fun _ _ _ _ _ _ us hl => match us, hl with | [_], _ => rfl
  have F12 := fun_mk (st := sCheckNames) l12 c12 k12
  have b12 := F12.binds (ps := ["value"]) fun _ _ _ _ _ _ us hl => match us, hl with | [_], _ => rfl
  have F13 := fun_mk (st := sIsSequel) l13 c13 k13
  have b13 := F13.binds (ps := ["value", "names"]) fun _ _ _ _ _ _ us hl => match us, hl with | [_, _], _ => rfl
  have F14 := fun_mk (st := sChestOf) l14 c14 k14
  have b14 := F14.binds (ps := ["steps"]) fun _ _ _ _ _ _ us hl => match us, hl with | [_], _ => rfl
  have F15 := fun_mk (st := sNeeded) l15 c15 k15
  have b15 := F15.binds (ps := ["steps", "names"]) fun _ _ _ _ _ _ us hl => match us, hl with | [_, _], _ => rfl
  have F16 := fun_mk (st := sBegun) l16 c16 k16
  have b16 := F16.binds (ps := ["script"]) fun _ _ _ _ _ _ us hl => match us, hl with | [_], _ => rfl
  have F17 := fun_mk (st := sStirred) l17 c17 k17
  have b17 := F17.binds (ps := ["state"]) fun _ _ _ _ _ _ us hl => match us, hl with | [_], _ => rfl
  have F18 := fun_mk (st := sDraw) l18 c18 k18
  have b18 := F18.binds (ps := ["state", "room"]) fun _ _ _ _ _ _ us hl => match us, hl with | [_, _], _ => rfl
  have F19 := fun_mk (st := sPick) l19 c19 k19
  have b19 := F19.binds (ps := ["state", "some"]) fun _ _ _ _ _ _ us hl => match us, hl with | [_, _], _ => rfl
  have F20 := fun_mk (st := sShuf) l20 c20 k20
  have b20 := F20.binds (ps := ["state", "some"]) fun _ _ _ _ _ _ us hl => match us, hl with | [_, _], _ => rfl
  have F21 := fun_mk (st := sNm) l21 c21 k21
  have b21 := F21.binds (ps := ["state", "barred"]) fun _ _ _ _ _ _ us hl => match us, hl with | [_, _], _ => rfl
  have F22 := fun_mk (st := sCaught) l22 c22 k22
  have b22 := F22.binds (ps := ["action"]) fun _ _ _ _ _ _ us hl => match us, hl with | [_], _ => rfl
  have F23 := fun_mk (st := sLDeedNames) l23 c23 k23
  have b23 := F23.binds (ps := ["deed"]) fun _ _ _ _ _ _ us hl => match us, hl with | [_], _ => rfl
  have F24 := fun_mk (st := sChain) l24 c24 k24
  have b24 := F24.binds (ps := ["state", "many", "words", "share"]) fun _ _ _ _ _ _ us hl => match us, hl with | [_, _, _, _], _ => rfl
  have F25 := fun_mk (st := sForms) l25 c25 k25
  have b25 := F25.binds (ps := []) fun _ _ _ _ _ _ us hl => match us, hl with | [], _ => rfl
  have F26 := fun_mk (st := sHasWay) l26 c26 k26
  have b26 := F26.binds (ps := ["word"]) fun _ _ _ _ _ _ us hl => match us, hl with | [_], _ => rfl
  have F27 := fun_mk (st := sDrawn) l27 c27 k27
  have b27 := F27.binds (ps := ["state", "word", "names"]) fun _ _ _ _ _ _ us hl => match us, hl with | [_, _, _], _ => rfl
  have F28 := fun_mk (st := sGoesOn) l28 c28 k28
  have b28 := F28.binds (ps := ["value", "names"]) fun _ _ _ _ _ _ us hl => match us, hl with | [_, _], _ => rfl
  have F29 := fun_mk (st := sLName) l29 c29 k29
  have b29 := F29.binds (ps := ["value"]) fun _ _ _ _ _ _ us hl => match us, hl with | [_], _ => rfl
  have F30 := fun_mk (st := sLDeed) l30 c30 k30
  have b30 := F30.binds (ps := ["value"]) fun _ _ _ _ _ _ us hl => match us, hl with | [_], _ => rfl
  have F31 := fun_mk (st := sHung) l31 c31 k31
  have b31 := F31.binds (ps := ["steps", "names"]) fun _ _ _ _ _ _ us hl => match us, hl with | [_, _], _ => rfl
  have F32 := fun_mk (st := sNeedR) l32 c32 k32
  have b32 := F32.binds (ps := ["state", "steps"]) fun _ _ _ _ _ _ us hl => match us, hl with | [_, _], _ => rfl
  have tb32 : PySem.W.tabIn K "_law_needed_right" = some (cO32, Pt32) := by
    unfold PySem.W.tabIn
    simp only [a32, l32, co32, cp32, PySem.W.fnOf]
  have F33 := fun_mk (st := sParts) l33 c33 k33
  have b33 := F33.binds (ps := ["steps"]) fun _ _ _ _ _ _ us hl => match us, hl with | [_], _ => rfl
  have F34 := fun_mk (st := sChanged) l34 c34 k34
  have b34 := F34.binds (ps := ["state", "steps"]) fun _ _ _ _ _ _ us hl => match us, hl with | [_, _], _ => rfl
  have F35 := fun_mk (st := sLaw) l35 c35 k35
  have b35 := F35.binds (ps := ["script"]) fun _ _ _ _ _ _ us hl => match us, hl with | [_], _ => rfl
  have tb35 : PySem.W.tabIn K "law" = some (cO35, Pt35) := by
    unfold PySem.W.tabIn
    simp only [a35, l35, co35, cp35, PySem.W.fnOf]
  have exm_ := fun {C : Addr} (s : PySem.W.subIn K (.ref C) (.ref CR) = some true) => (PySem.W.exm_ref sbCR hdCR tyCR s : PySem.W.exmOne K (.ref C) (.ref CR) = some true)
  have kit_ : ∀ C : Addr, PySem.W.kitOne K (.ref C) (.ref C) = some true := fun C => by unfold PySem.W.kitOne; rw [if_pos (beq_self_eq_true _)]
  have mg_ := fun {x : Str} {v : Value} (e : PySem.W.nsIn K mainGlobals x = some (some v)) => PySem.W.mg_of X G e
  have m0_ := fun {x : Str} (e : PySem.W.nsIn K mainGlobals x = some none) => PySem.W.mg_none_of X G e
  refine ⟨PySem.W.fnOf "law" "law" (defArgs sLaw) (defBody sLaw) (defScope sLaw) .none kV35 dc35 pm35 an35 (.ref cO35) ct35, [(cO35, Pt35), (cO32, Pt32)], spLaw K Pt35 Pt32, fun p hp => ?_, fun s u => .of_eq rfl, fun H a ns hl hT hS => ?_, fun base hb hn hTB => ?_⟩
  · rcases List.mem_cons.mp hp with rfl | hp
    · exact ⟨(own "law" (List.mem_cons_of_mem _ (List.mem_singleton.mpr rfl)) cO35 Pt35 tb35).2, cn35, (own "law" (List.mem_cons_of_mem _ (List.mem_singleton.mpr rfl)) cO35 Pt35 tb35).1⟩
    · cases List.mem_singleton.mp hp
      exact ⟨(own "_law_needed_right" List.mem_cons_self cO32 Pt32 tb32).2, cn32, (own "_law_needed_right" List.mem_cons_self cO32 Pt32 tb32).1⟩
  · exact ⟨a, ns, rfl, hS, hl, hT _ List.mem_cons_self, hT _ (List.mem_cons_of_mem _ (List.mem_singleton.mpr rfl)), fun _ => rfl⟩
  · have TD : N6.TxtE K mg "BadDeed" CD := ⟨mg_ gCD, eCD, kpCD, sbCD, tyCD⟩
    have TB : N6.TxtE K mg "BadDrawing" CB := ⟨mg_ gCB, eCB, kpCB, sbCB, tyCB⟩
    have TN : N6.TxtE K mg "BadNames" CN := ⟨mg_ gCN, eCN, kpCN, sbCN, tyCN⟩
    have OX : OexC K CM := ⟨⟨nmM, qM, NM, bsM, bmM, snM, subM, abM, colM, ddM, m0M, m1M, m2M, m3M, m5M, xCM, rvM⟩, saCM, sbCM, tyCM, kpCM⟩
    have SC : SupInit.SupC l.prog K mg CM "name" := ⟨OX, Option.isSome_iff_exists.mp icM, suM, m0_ z_super, opM, waM, ivM, topM, frM⟩
    have EM : ExcC K CM := ⟨gaCM, gtCM, sbCM, hdCM, clCM, sn, tk, mrCM⟩
    have EN : ExcC K CN := ⟨gaCN, gtCN, sbCN, hdCN, clCN, sn, tk, mrCN⟩
    have EB : ExcC K CB := ⟨gaCB, gtCB, sbCB, hdCB, clCB, sn, tk, mrCB⟩
    have FK : FormsK K w d1 := N26.forms_of hD1 litD1 lowD1 tabD1
    have TK_ : ToolsK K w d3 := N26.tools_of hD3 litD3 lowD3 tabD3
    have WK2 : WordsK K d2 waysL := N26.words_of hD2 vD2 (by decide)
    have WK4 : WordsK K d4 sheetL := N26.words_of hD4 vD4 (by decide)
    have GI : FnOk l.prog w K mg base CX0 1 fI _ ["self", "name"] (SupInit.spSup CM "name") := SupInit.ok_sup (st := sInit) lI cI rfl rfl SC ⟨by decide, by decide, by decide⟩ (by decide) (by decide) cellI rfl rfl coI viI hfI (fun _ => rfl) (fun _ => rfl)
    have bI : L2.Binds K (PySem.W.ksFn "__init__" "NoName.__init__" (defArgs sInit) (defBody sInit) (defScope sInit) .none kVI dcI pmI anI (.ref cdI) ctI ccI) ["self", "name"] [] := L2.Binds.all fun us hl => match us, hl with | [_, _], _ => rfl
    have gName := ok_name (mg := mg) (base := base) (P := l.prog) (w := w) F3 (m0_ z_isinstance) (m0_ z_str) (m0_ z_len) (m0_ z_all) (mg_ n_t1) (mg_ n_t2)
    have gWhole := N2.ok_whole (mg := mg) (base := base) (P := l.prog) (w := w) F0 (m0_ z_isinstance) (m0_ z_int) (m0_ z_bool)
    have gTup := N2.ok_tupleOf (mg := mg) (base := base) (P := l.prog) (w := w) F1 (m0_ z_isinstance) (m0_ z_tuple) (m0_ z_len)
    have gLis := N2.ok_isList (mg := mg) (base := base) (P := l.prog) (w := w) F2 (m0_ z_isinstance) (m0_ z_tuple) (m0_ z_list)
    have gDeed := N2.ok_deed (mg := mg) (base := base) (P := l.prog) (w := w) F5 F3 gName b3 (mg_ a3) F0 gWhole b0 (mg_ a0) FK (mg_ gD1) WK2 (mg_ gD2) (m0_ z_isinstance) (m0_ z_tuple) (m0_ z_str) (m0_ z_len) (m0_ z_all)
    have gDN := N3.ok_dn (mg := mg) (base := base) (P := l.prog) (w := w) F9 FK (mg_ gD1)
    have gSteps := N4.ok_steps (mg := mg) (base := base) (P := l.prog) (w := w) F7 F2 gLis b2 (mg_ a2) F1 gTup b1 (mg_ a1) F3 gName b3 (mg_ a3) F5 gDeed b5 (mg_ a5) F9 gDN b9 (mg_ a9) (m0_ z_all)
    have gDiff := N6.ok_diff (mg := mg) (base := base) (P := l.prog) (w := w) F4 F2 gLis b2 (mg_ a2) F3 gName b3 (mg_ a3) (m0_ z_all) (m0_ z_len) (m0_ z_set)
    have gDraw := N7.ok_drawing (mg := mg) (base := base) (P := l.prog) (w := w) F8 F7 gSteps b7 (mg_ a7) WK4 (mg_ gD4)
    have gCkB := N7.ok_checkDrawing (mg := mg) (base := base) (P := l.prog) (w := w) F11 F8 gDraw b8 (mg_ a8) TB
    have gCkD := N7.ok_checkDeed (mg := mg) (base := base) (P := l.prog) (w := w) F6 F5 gDeed b5 (mg_ a5) TD
    have gCkN := N7.ok_checkNames (mg := mg) (base := base) (P := l.prog) (w := w) F12 F4 gDiff b4 (mg_ a4) TN
    have gSeq := N7.ok_sequel (mg := mg) (base := base) (P := l.prog) (w := w) F13 F12 gCkN b12 (mg_ a12) F7 gSteps b7 (mg_ a7)
    have gTool := N7.ok_tool (mg := mg) (base := base) (P := l.prog) (w := w) F10 F6 gCkD b6 (mg_ a6) TK_ (mg_ gD3)
    have gChest := N8.ok_chest (mg := mg) (base := base) (P := l.prog) (w := w) F14 F11 gCkB b11 (mg_ a11) F10 gTool b10 (mg_ a10) (m0_ z_tuple) (m0_ z_sorted) (m0_ z_set)
    have gNeed := N9.ok_needed (mg := mg) (base := base) (P := l.prog) (w := w) F15 F11 gCkB b11 (mg_ a11) F12 gCkN b12 (mg_ a12) F9 gDN b9 (mg_ a9) OX iM tI GI bI (mg_ gCM) WK4 (mg_ gD4) (m0_ z_list) (m0_ z_reversed)
    have gBeg := ok_begun (mg := mg) (base := base) (P := l.prog) (w := w) F16 (m0_ z_abs)
    have gDr := ok_draw (mg := mg) (base := base) (P := l.prog) (w := w) F18 F17 b17 (mg_ a17) (m0_ z_int)
    have gPick := N10.ok_pick (mg := mg) (base := base) (P := l.prog) (w := w) F19 F18 gDr b18 (mg_ a18) (m0_ z_len)
    have gShuf := N10.ok_shuf (mg := mg) (base := base) (P := l.prog) (w := w) F20 F18 gDr b18 (mg_ a18) (m0_ z_len) (m0_ z_list)
    have gNm := N11.ok_nm (mg := mg) (base := base) (P := l.prog) (w := w) F21 F19 gPick b19 (mg_ a19)
    have gForms := N3.ok_forms (mg := mg) (base := base) (P := l.prog) (w := w) F25
    have gHW := N3.ok_hasWay (mg := mg) (base := base) (P := l.prog) (w := w) F26
    have gDrawn := N12.ok_drawn (mg := mg) (base := base) (P := l.prog) (w := w) F27 F20 gShuf b20 (mg_ a20) F18 gDr b18 (mg_ a18) F19 gPick b19 (mg_ a19) F25 gForms b25 (mg_ a25) F26 gHW b26 (mg_ a26) (m0_ z_range) (m0_ z_len) (m0_ z_tuple)
    have gChain := N13.ok_chain (mg := mg) (base := base) (P := l.prog) (w := w) F24 F18 gDr b18 (mg_ a18) F19 gPick b19 (mg_ a19) F27 gDrawn b27 (mg_ a27) F21 gNm b21 (mg_ a21) (m0_ z_range) (m0_ z_len) (m0_ z_max)
    have gLDN := N3.ok_ldn (mg := mg) (base := base) (P := l.prog) (w := w) F23 F25 b25 (mg_ a25) (m0_ z_list)
    have gLN := ok_lname (mg := mg) (base := base) (P := l.prog) (w := w) F29 (m0_ z_isinstance) (m0_ z_str) (m0_ z_len)
    have gLD := N3.ok_ldeed (mg := mg) (base := base) (P := l.prog) (w := w) F30 F29 gLN b29 (mg_ a29) F25 b25 (mg_ a25) F26 b26 (mg_ a26) (m0_ z_isinstance) (m0_ z_tuple) (m0_ z_str) (m0_ z_len) (m0_ z_int) (m0_ z_repr)
    have gGoes := N5.ok_goes (mg := mg) (base := base) (P := l.prog) (w := w) F28 F29 gLN b29 (mg_ a29) F30 gLD b30 (mg_ a30) F23 gLDN b23 (mg_ a23) (m0_ z_isinstance) (m0_ z_tuple) (m0_ z_list) (m0_ z_len)
    have gHung := N15.ok_hung (mg := mg) (base := base) (P := l.prog) (w := w) F31 F23 gLDN b23 (mg_ a23) (m0_ z_dict) (m0_ z_list) (m0_ z_range) (m0_ z_len)
    have gParts := N16.ok_parts (mg := mg) (base := base) (P := l.prog) (w := w) F33
    have gChg := N17.ok_changed (mg := mg) (base := base) (P := l.prog) (w := w) F34 F18 gDr b18 (mg_ a18) F19 gPick b19 (mg_ a19) (m0_ z_list) (m0_ z_len)
    have kNeed : KBn K (PySem.W.fnOf "needed" "needed" (defArgs sNeeded) (defBody sNeeded) (defScope sNeeded) .none kV15 dc15 pm15 an15 cd15 ct15) ["steps", "names"] 0 ["names", "steps"] (fun _ ws => ws.reverse) (fun _ zs => zs.reverse) := ⟨fun s us ws _ h0 h1 => match us, ws, h0, h1 with | [], [_, _], _, _ => .of_eq rfl, fun _ r => N26.vals_rev r⟩
    have kSeq : KBn K (PySem.W.fnOf "is_sequel" "is_sequel" (defArgs sIsSequel) (defBody sIsSequel) (defScope sIsSequel) .none kV13 dc13 pm13 an13 cd13 ct13) ["value", "names"] 0 ["names", "value"] (fun _ ws => ws.reverse) (fun _ zs => zs.reverse) := ⟨fun s us ws _ h0 h1 => match us, ws, h0, h1 with | [], [_, _], _, _ => .of_eq rfl, fun _ r => N26.vals_rev r⟩
    have kChest : KBn K (PySem.W.fnOf "chest_of" "chest_of" (defArgs sChestOf) (defBody sChestOf) (defScope sChestOf) .none kV14 dc14 pm14 an14 cd14 ct14) ["steps"] 0 ["steps"] (fun _ ws => ws) (fun _ zs => zs) := ⟨fun s us ws _ h0 h1 => match us, ws, h0, h1 with | [], [_], _, _ => .of_eq rfl, fun _ r => r⟩
    have memR : ((Pt32, (("_law_needed_right" : Str) ++ ".<locals>.") ++ "<lambda>") : Addr × Str) ∈ tabsL Pt35 Pt32 := List.mem_cons_of_mem _ (List.mem_singleton.mpr rfl)
    have onlyR : ∀ p ∈ tabsL Pt35 Pt32, p.1 = Pt32 → p.2 = (("_law_needed_right" : Str) ++ ".<locals>.") ++ "<lambda>" := fun p hp e => by
      rcases List.mem_cons.mp hp with rfl | hp
      · exact absurd e.symm nPt
      · rw [List.mem_singleton.mp hp]
    have gR := ok_needR (base := base) (P := l.prog) (w := w) l32 c32 (hTB _ (List.mem_cons_of_mem _ (List.mem_singleton.mpr rfl))) memR onlyR F20 gShuf b20 (mg_ a20) F18 gDr b18 (mg_ a18) F31 gHung b31 (mg_ a31) F15 gNeed b15 kNeed (mg_ a15) F33 gParts b33 (mg_ a33) F28 gGoes b28 (mg_ a28) F13 gSeq b13 (mg_ a13) l22 c22 k22 b22 (mg_ a22) (mg_ gCR) (mg_ gCM) (exm_ sCM) (kit_ CM) EM frM (m0_ z_range) (m0_ z_repr) (m0_ z_isinstance) (m0_ z_list) (m0_ z_tuple) (m0_ z_len)
    exact ok_law l35 c35 (hTB _ List.mem_cons_self) nPt F16 gBeg b16 (mg_ a16) F25 gForms b25 (mg_ a25) F20 gShuf b20 (mg_ a20) F18 gDr b18 (mg_ a18) F24 gChain b24 (mg_ a24) F14 gChest b14 kChest (mg_ a14) k32 gR b32 (mg_ a32) F34 gChg b34 (mg_ a34) F19 gPick b19 (mg_ a19) F15 gNeed b15 (mg_ a15) F13 gSeq b13 kSeq (mg_ a13) F28 gGoes b28 (mg_ a28) l22 c22 k22 b22 (mg_ a22) (mg_ gCR) (mg_ gCN) (mg_ gCB) (exm_ sCN) (exm_ sCB) (kit_ CN) (kit_ CB) EN EB (m0_ z_range) (m0_ z_repr) (m0_ z_isinstance) (m0_ z_tuple) (m0_ z_len) (m0_ z_min) (m0_ z_sorted) (m0_ z_set)
end N27
open PySem PySem.W PyProof.Rows
set_option maxRecDepth 100000 in
set_option maxHeartbeats 0 in
theorem PySem.Challenge.cw_rulerchest_k27_what_a_name_hangs_on_holds : PySem.Challenge.rw_rulerchest_k27_what_a_name_hangs_on.Holds := by
  w_on; o_law; k_head; (case hw => w_witness2)
  k_fill
  refine RepG.walk_G (l := PySem.Challenge.rw_rulerchest_k27_what_a_name_hangs_on) (n := 63) (k := 10) (x := "script") (CX := fun _ => L2.CX0) (xs := (["_law_needed_right", "law"] : List Str)) rfl (by decide) rfl ⟨rfl, by decide, by decide⟩ (by decide +kernel) (fun w h Y => PySem.W.km_in_of Y) ?F (fun _ _ _ _ _ z => z)
  case F =>
    intro w mg fa h Y KX G hmg own
    refine' N27.all_mk KX G hmg own ?a0 ?l0 ?c0 ?k0 ?a1 ?l1 ?c1 ?k1 ?a2 ?l2 ?c2 ?k2 ?a3 ?l3 ?c3 ?k3 ?a4 ?l4 ?c4 ?k4 ?a5 ?l5 ?c5 ?k5 ?a6 ?l6 ?c6 ?k6 ?a7 ?l7 ?c7 ?k7 ?a8 ?l8 ?c8 ?k8 ?a9 ?l9 ?c9 ?k9 ?a10 ?l10 ?c10 ?k10 ?a11 ?l11 ?c11 ?k11 ?a12 ?l12 ?c12 ?k12 ?a13 ?l13 ?c13 ?k13 ?a14 ?l14 ?c14 ?k14 ?a15 ?l15 ?c15 ?k15 ?a16 ?l16 ?c16 ?k16 ?a17 ?l17 ?c17 ?k17 ?a18 ?l18 ?c18 ?k18 ?a19 ?l19 ?c19 ?k19 ?a20 ?l20 ?c20 ?k20 ?a21 ?l21 ?c21 ?k21 ?a22 ?l22 ?c22 ?k22 ?a23 ?l23 ?c23 ?k23 ?a24 ?l24 ?c24 ?k24 ?a25 ?l25 ?c25 ?k25 ?a26 ?l26 ?c26 ?k26 ?a27 ?l27 ?c27 ?k27 ?a28 ?l28 ?c28 ?k28 ?a29 ?l29 ?c29 ?k29 ?a30 ?l30 ?c30 ?k30 ?a31 ?l31 ?c31 ?k31 ?a32 ?l32 ?c32 ?k32 ?co32 ?cp32 ?cn32 ?a33 ?l33 ?c33 ?k33 ?a34 ?l34 ?c34 ?k34 ?a35 ?l35 ?c35 ?k35 ?co35 ?cp35 ?cn35 ?gCR ?eCR ?kpCR ?sbCR ?tyCR ?gaCR ?gtCR ?hdCR ?clCR ?mrCR ?gCD ?eCD ?kpCD ?sbCD ?tyCD ?gaCD ?gtCD ?hdCD ?clCD ?mrCD ?gCB ?eCB ?kpCB ?sbCB ?tyCB ?gaCB ?gtCB ?hdCB ?clCB ?mrCB ?gCN ?eCN ?kpCN ?sbCN ?tyCN ?gaCN ?gtCN ?hdCN ?clCN ?mrCN ?sn ?tk ?sCB ?sCN ?gCM ?xCM ?rvM ?kpCM ?sbCM ?tyCM ?gaCM ?gtCM ?hdCM ?clCM ?mrCM ?saCM ?iM ?tI ?lI ?cI ?cellI ?coI ?viI ?hfI ?icM ?suM ?opM ?waM ?ivM ?topM ?frM ?sCM ?gD1 ?hD1 ?litD1 ?lowD1 ?tabD1 ?gD3 ?hD3 ?litD3 ?lowD3 ?tabD3 ?gD2 ?hD2 ?vD2 ?gD4 ?hD4 ?vD4 ?nPt ?n_t1 ?n_t2 ?z_isinstance ?z_int ?z_bool ?z_str ?z_len ?z_all ?z_tuple ?z_list ?z_set ?z_sorted ?z_reversed ?z_abs ?z_range ?z_max ?z_repr ?z_dict ?z_min ?z_super
    (case a0 => k_is)
    (case l0 => k_is)
    (case c0 => k_is)
    (case k0 => k_is)
    (case a1 => k_is)
    (case l1 => k_is)
    (case c1 => k_is)
    (case k1 => k_is)
    (case a2 => k_is)
    (case l2 => k_is)
    (case c2 => k_is)
    (case k2 => k_is)
    (case a3 => k_is)
    (case l3 => k_is)
    (case c3 => k_is)
    (case k3 => k_is)
    (case a4 => k_is)
    (case l4 => k_is)
    (case c4 => k_is)
    (case k4 => k_is)
    (case a5 => k_is)
    (case l5 => k_is)
    (case c5 => k_is)
    (case k5 => k_is)
    (case a6 => k_is)
    (case l6 => k_is)
    (case c6 => k_is)
    (case k6 => k_is)
    (case a7 => k_is)
    (case l7 => k_is)
    (case c7 => k_is)
    (case k7 => k_is)
    (case a8 => k_is)
    (case l8 => k_is)
    (case c8 => k_is)
    (case k8 => k_is)
    (case a9 => k_is)
    (case l9 => k_is)
    (case c9 => k_is)
    (case k9 => k_is)
    (case a10 => k_is)
    (case l10 => k_is)
    (case c10 => k_is)
    (case k10 => k_is)
    (case a11 => k_is)
    (case l11 => k_is)
    (case c11 => k_is)
    (case k11 => k_is)
    (case a12 => k_is)
    (case l12 => k_is)
    (case c12 => k_is)
    (case k12 => k_is)
    (case a13 => k_is)
    (case l13 => k_is)
    (case c13 => k_is)
    (case k13 => k_is)
    (case a14 => k_is)
    (case l14 => k_is)
    (case c14 => k_is)
    (case k14 => k_is)
    (case a15 => k_is)
    (case l15 => k_is)
    (case c15 => k_is)
    (case k15 => k_is)
    (case a16 => k_is)
    (case l16 => k_is)
    (case c16 => k_is)
    (case k16 => k_is)
    (case a17 => k_is)
    (case l17 => k_is)
    (case c17 => k_is)
    (case k17 => k_is)
    (case a18 => k_is)
    (case l18 => k_is)
    (case c18 => k_is)
    (case k18 => k_is)
    (case a19 => k_is)
    (case l19 => k_is)
    (case c19 => k_is)
    (case k19 => k_is)
    (case a20 => k_is)
    (case l20 => k_is)
    (case c20 => k_is)
    (case k20 => k_is)
    (case a21 => k_is)
    (case l21 => k_is)
    (case c21 => k_is)
    (case k21 => k_is)
    (case a22 => k_is)
    (case l22 => k_is)
    (case c22 => k_is)
    (case k22 => k_is)
    (case a23 => k_is)
    (case l23 => k_is)
    (case c23 => k_is)
    (case k23 => k_is)
    (case a24 => k_is)
    (case l24 => k_is)
    (case c24 => k_is)
    (case k24 => k_is)
    (case a25 => k_is)
    (case l25 => k_is)
    (case c25 => k_is)
    (case k25 => k_is)
    (case a26 => k_is)
    (case l26 => k_is)
    (case c26 => k_is)
    (case k26 => k_is)
    (case a27 => k_is)
    (case l27 => k_is)
    (case c27 => k_is)
    (case k27 => k_is)
    (case a28 => k_is)
    (case l28 => k_is)
    (case c28 => k_is)
    (case k28 => k_is)
    (case a29 => k_is)
    (case l29 => k_is)
    (case c29 => k_is)
    (case k29 => k_is)
    (case a30 => k_is)
    (case l30 => k_is)
    (case c30 => k_is)
    (case k30 => k_is)
    (case a31 => k_is)
    (case l31 => k_is)
    (case c31 => k_is)
    (case k31 => k_is)
    (case a32 => k_is)
    (case l32 => k_is)
    (case c32 => k_is)
    (case k32 => k_is)
    (case co32 => k_is)
    (case cp32 => exact rfl)
    (case cn32 => kernel_rfl)
    (case a33 => k_is)
    (case l33 => k_is)
    (case c33 => k_is)
    (case k33 => k_is)
    (case a34 => k_is)
    (case l34 => k_is)
    (case c34 => k_is)
    (case k34 => k_is)
    (case a35 => k_is)
    (case l35 => k_is)
    (case c35 => k_is)
    (case k35 => k_is)
    (case co35 => k_is)
    (case cp35 => exact rfl)
    (case cn35 => kernel_rfl)
    (case gCR => k_is)
    (case eCR => k_exc)
    (case kpCR => k_is)
    (case sbCR => k_is)
    (case tyCR => k_is)
    (case gaCR => k_is)
    (case gtCR => k_is)
    (case hdCR => k_is)
    (case clCR => k_is)
    (case mrCR => k_is)
    (case gCD => k_is)
    (case eCD => k_exc)
    (case kpCD => k_is)
    (case sbCD => k_is)
    (case tyCD => k_is)
    (case gaCD => k_is)
    (case gtCD => k_is)
    (case hdCD => k_is)
    (case clCD => k_is)
    (case mrCD => k_is)
    (case gCB => k_is)
    (case eCB => k_exc)
    (case kpCB => k_is)
    (case sbCB => k_is)
    (case tyCB => k_is)
    (case gaCB => k_is)
    (case gtCB => k_is)
    (case hdCB => k_is)
    (case clCB => k_is)
    (case mrCB => k_is)
    (case gCN => k_is)
    (case eCN => k_exc)
    (case kpCN => k_is)
    (case sbCN => k_is)
    (case tyCN => k_is)
    (case gaCN => k_is)
    (case gtCN => k_is)
    (case hdCN => k_is)
    (case clCN => k_is)
    (case mrCN => k_is)
    (case sn => k_is)
    (case tk => k_is)
    (case sCB => k_is)
    (case sCN => k_is)
    (case gCM => k_is)
    (case xCM => k_is)
    (case rvM => rfl)
    (case kpCM => k_is)
    (case sbCM => k_is)
    (case tyCM => k_is)
    (case gaCM => k_is)
    (case gtCM => k_is)
    (case hdCM => k_is)
    (case clCM => k_is)
    (case mrCM => k_is)
    (case saCM => k_is)
    (case iM => k_is)
    (case tI => k_is)
    (case lI => k_is)
    (case cI => k_is)
    (case cellI => k_is)
    (case coI => k_is)
    (case viI => exact rfl)
    (case hfI => decide +kernel)
    (case icM => k_is)
    (case suM => k_is)
    (case opM => k_is)
    (case waM => first | kernel_rfl | rfl)
    (case ivM => k_is)
    (case topM => rfl)
    (case frM => k_is)
    (case sCM => k_is)
    (case gD1 => k_is)
    (case hD1 => k_is)
    (case litD1 => exact ⟨⟨_, _, rfl, rfl⟩, ⟨⟨_, _, rfl, rfl⟩, ⟨⟨_, _, rfl, rfl⟩, ⟨⟨_, _, rfl, rfl⟩, ⟨⟨_, _, rfl, rfl⟩, ⟨⟨_, _, rfl, rfl⟩, ⟨⟨_, _, rfl, rfl⟩, ⟨⟨_, _, rfl, rfl⟩, ⟨⟨_, _, rfl, rfl⟩, ⟨⟨_, _, rfl, rfl⟩, ⟨⟨_, _, rfl, rfl⟩, True.intro⟩⟩⟩⟩⟩⟩⟩⟩⟩⟩⟩)
    (case lowD1 => rfl)
    (case tabD1 => rfl)
    (case gD3 => k_is)
    (case hD3 => k_is)
    (case litD3 => exact ⟨⟨_, _, rfl, rfl⟩, ⟨⟨_, _, rfl, rfl⟩, ⟨⟨_, _, rfl, rfl⟩, True.intro⟩⟩⟩)
    (case lowD3 => rfl)
    (case tabD3 => rfl)
    (case gD2 => k_is)
    (case hD2 => k_is)
    (case vD2 => exact .cons ⟨_, rfl⟩ (.cons ⟨_, rfl⟩ (.cons ⟨_, rfl⟩ (.cons ⟨_, rfl⟩ (.cons ⟨_, rfl⟩ (.nil))))))
    (case gD4 => k_is)
    (case hD4 => k_is)
    (case vD4 => exact .cons ⟨_, rfl⟩ (.cons ⟨_, rfl⟩ (.cons ⟨_, rfl⟩ (.cons ⟨_, rfl⟩ (.cons ⟨_, rfl⟩ (.nil))))))
    (case nPt => decide)
    (case n_t1 => k_is)
    (case n_t2 => k_is)
    (case z_isinstance => k_is)
    (case z_int => k_is)
    (case z_bool => k_is)
    (case z_str => k_is)
    (case z_len => k_is)
    (case z_all => k_is)
    (case z_tuple => k_is)
    (case z_list => k_is)
    (case z_set => k_is)
    (case z_sorted => k_is)
    (case z_reversed => k_is)
    (case z_abs => k_is)
    (case z_range => k_is)
    (case z_max => k_is)
    (case z_repr => k_is)
    (case z_dict => k_is)
    (case z_min => k_is)
    (case z_super => k_is)
