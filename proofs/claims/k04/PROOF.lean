import PyProof.Rows.All
import Wide.All
import OpenK.AllK
import Wide.FinOn
import HandS.Iter
import HandS.Call
import HandS.ForMost
import HandS.Evl
import HandS.IsInst
import HandS.Walk
import HandS.Style
import PySem.Challenge.RW_moorwalk_k04_beside
set_option Elab.async false
set_option linter.all false
set_option maxRecDepth 100000
set_option maxHeartbeats 4000000
namespace MW
open PySem PySem.Spec PyProof.Rows L2

/-! enumerate over a text -/
def ItS (x : Str) : It where
  go := fun i _ => i < x.cps.size
  yld := fun i H v H' => ∃ T c, v = .ref T ∧ H T = none ∧ x.cps[i]? = some c ∧ H' = upd H T (.tup [.int (i : Nat), .str ⟨#[c]⟩])
  stop := fun i _ => x.cps.size ≤ i
theorem drawsS {prog : Program} {w : World} {A : Around} (hh : A.handled = none) (it : Addr) (x : Str) (t : Tok) :
    Draws prog w A it [it] x.cps.size (fun i v => ∃ c u, x.cps[i]? = some c ∧ v = .str ⟨#[c]⟩ u) (fun i h => h.IsStrIter it (strIterType x) x t i) := by
  unfold strIterType
  split
  · exact Draws.strAscii hh it x t
  · exact Draws.strWide hh it x t
theorem turn_enS {P : Program} {w : World} {K : PySem.W.Frag} {elts : List Expr} {kk : Nat} {tpos : Pos} (x : Str) (t : Tok) (e it : Addr) :
    Turn P w K (.Tuple elts kk tpos) (ItS x) [e, it] e
      (fun i h => (∃ old, IsEnum h e it ((i : Nat) : Int) old) ∧ h.IsStrIter it (strIterType x) x t i ∧ e ≠ it ∧ i ≤ x.cps.size) where
  mem := by simp
  obj := by
    intro i h st b hb
    obtain ⟨⟨old, he⟩, ⟨o, ho, hc, hd⟩, _, _⟩ := st
    rcases (show b = e ∨ b = it by simpa using hb) with z | z <;> subst z
    · exact ⟨_, he, fun v q => nomatch q⟩
    · exact ⟨o, ho, fun v q => by rw [hd] at q; cases q⟩
  keep := by
    intro i h h' st k
    obtain ⟨⟨old, he⟩, ⟨o, ho, r⟩, hne, hsz⟩ := st
    exact ⟨⟨old, k e (by simp) _ he⟩, ⟨o, k it (by simp) o ho, r⟩, hne, hsz⟩
  item := by
    intro X hP hw hK hc i pins s σ H E I hf st hg
    subst hP; subst hw; subst hK
    obtain ⟨⟨old, he⟩, hit, hne, _⟩ := st
    have hel : e < s.heap.objs.size := Heap.lt_size he
    have hil : it < s.heap.objs.size := by
      obtain ⟨_, q, _⟩ := hit
      exact Heap.lt_size q
    refine wpAny_pyNext_enum_itemD (drawsS (A := X.A.in1) (I.ok.hd hc) it x t) he hit hg hne (by simpa using hne) ?_
    intro v h' tk hv ho hit' hT hsz hk
    obtain ⟨c, u, hcx, rfl⟩ := hv
    refine ⟨_, rfl, wpAny_letOwnedTupleGo_enum (s := { s with heap := h', toks := tk + 1 }) ho ?_⟩
    intro h'' he' sb
    have hT2 := (sb.2 s.heap.objs.size (Nat.ne_of_gt hel)).trans hT
    have new : ObjOk X.prog X.w (upd H s.heap.objs.size (.tup [.int (i : Nat), .str ⟨#[c]⟩])) h'' s.heap.objs.size (.tup [.int (i : Nat), .str ⟨#[c]⟩]) :=
      ⟨by show 2 ≤ sizeLine; decide, [.int i tk, .str ⟨#[c]⟩ u], .cons ⟨_, rfl⟩ (.cons ⟨_, rfl⟩ .nil), ⟨_, hT2, rfl, _, rfl⟩⟩
    have I1 : Inv X pins σ (upd H s.heap.objs.size (.tup [.int (i : Nat), .str ⟨#[c]⟩])) { s with heap := h'', toks := tk + 1 } := by
      refine I.turnedNew (ch := [e, it]) (fun b ob hb q => ?_) hf (Nat.le_refl _) new
      have h1 : b ≠ e := fun z => hb (by simp [z])
      have h2 : b ≠ it := fun z => hb (by simp [z])
      exact (sb.2 b h1).trans (hk b ob h1 h2 q)
    refine ⟨.ref s.heap.objs.size, _, I1, rfl, ⟨_, c, rfl, I.hok.fresh (Nat.le_refl _), hcx, rfl⟩, ⟨⟨.str ⟨#[c]⟩ u, ?_⟩, ?_, hne, hg⟩, ?_⟩
    · have e1 : ((i + 1 : Nat) : Int) = (i : Int) + 1 := by omega
      rw [e1]
      exact he'
    · obtain ⟨o, q, r⟩ := hit'
      exact ⟨o, (sb.2 it (Ne.symm hne)).trans q, r⟩
    · intro b hb
      have hb' : b < s.heap.objs.size := by
        rcases (show b = e ∨ b = it by simpa using hb) with z | z <;> subst z <;> assumption
      rw [upd_ne (Nat.ne_of_lt hb')]
      exact (hf b hb).1
  done := by
    intro X hP hw hK hc i pins s σ H E I hf st hg
    subst hP; subst hw; subst hK
    obtain ⟨⟨old, he⟩, hit, hne, hle⟩ := st
    obtain ⟨f0, f1, f2, f3, f4, f5⟩ := hf it (by simp)
    have e : i = x.cps.size := Nat.le_antisymm hle hg
    subst e
    refine wpAny_pyNext_enum_endD (drawsS (A := X.A.in1) (I.ok.hd hc) it x t) he hit ?_
    intro h' eb
    exact ⟨rfl, I.turned (t' := s.toks) (fun b o hb q => eb b o hb q) f0 f1 f3 f4 f5⟩
  self := fun A i s Q E st h => by
    obtain ⟨⟨_, he⟩, _⟩ := st
    exact wpAny_pyIter_enum he h

/-- enumerate(text) as what a for walks -/
def iEnS (ta : TA) : TI := fun σ H R => ta σ H fun vs H1 => ∃ x, vs = [.str x] ∧ R (ItS x) H1
theorem pi_enS {X : Cx} {e : Expr} {ta : TA} {p pos tpos : Pos} {elts : List Expr} {kk : Nat} (hg : Gl X "enumerate") (hm : X.mg "enumerate" = none) (ha : PA X [e] ta)
    (hs : starEach [e] X.env = [(false, eval e X.env)] := by rfl) : PI X (.Tuple elts kk tpos) (.Call (.Name "enumerate" p) [e] [] pos) (iEnS ta) := by
  constructor
  intro pins s σ H R I h
  refine Call_ (ld_blt I hg hm boot_enumerate (PyProof.Rows.callWith_type1 (thn (ha.run pos pins s σ H _ I h) ?_) hs rfl))
  intro us s1 ⟨vs, H1, I1, r1, x, ex, q⟩
  subst ex
  obtain ⟨u, rfl, t, rfl⟩ := vals1 r1
  refine call_enumerate_str ?_
  intro h' he hit hsz hk
  refine wpAny_pyIter_enum he ?_
  have I2 : Inv X pins σ H1 { s1 with heap := h' } := I1.kept (t' := s1.toks) hk
  refine ⟨s1.heap.objs.size + 1, [s1.heap.objs.size + 1, s1.heap.objs.size], _, _, H1, rfl, I2, turn_enS x t (s1.heap.objs.size + 1) s1.heap.objs.size, ⟨⟨.none, he⟩, hit, Nat.succ_ne_self _, Nat.zero_le _⟩, ?_, q⟩
  intro b hb
  have hle : s1.heap.objs.size ≤ b := by
    rcases (show b = s1.heap.objs.size + 1 ∨ b = s1.heap.objs.size by simpa using hb) with z | z
    · exact z ▸ Nat.le_succ _
    · exact Nat.le_of_eq z.symm
  exact I1.fpOk hle (I1.hok.fresh hle)
end MW

namespace MW
open PySem PySem.Spec PyProof.Rows L2

theorem args_min4 (a b c d : Value) : argsOk "min" ⟨[a, b, c, d], []⟩ := by
  unfold argsOk
  kernel_rfl
section
variable {prog : Program} {w : World} {A : Around} {E : Value → Shared → Prop} {s : Shared}
theorem call_min_four {a b c d : Value} {Q : Value → Shared → Prop}
    (h : wpAny (model prog w) A.in1 (pyIter (.ref s.heap.objs.size)) (fun it s2 => ∃ I fp wr n P St bt, it = .ref I ∧ Walks prog w A.in1 I fp wr n P St ∧
      St 0 s2.heap ∧ (∀ b ∈ fp, b < s2.heap.objs.size) ∧ 0 < n ∧ CmpOf prog w A.in1 .Lt P bt ∧
      ∀ v h' tk, P (argBest bt (n - 1)) v → (∀ b o, b ∉ wr → s2.heap.get? b = some o → h'.get? b = some o) → Q v { s2 with heap := h', toks := tk }) E
      { s with heap := s.heap.push { cls := .type "tuple", data := .seq #[a, b, c, d] } }) :
    wpAny (model prog w) A (call (.builtin "min") [a, b, c, d]) Q E s := by
  have loopName : (toString "min" ++ toString ".loop" : String) = "min.loop" := by decide
  refine call_function_tree F.kind_min F.plain_min F.entry_min (args_min4 a b c d) ?_
  show wpAny _ A.in1 (Builtin.Builtins.bindParams "min" ["key", "default"] 0 ⟨[], []⟩ >>= _) _ _ s
  have bp : Builtin.Builtins.bindParams "min" ["key", "default"] 0 ⟨[], []⟩ = pure [none, none] := rfl
  refine wpAny_bind (wpAny_of_eq bp ?_)
  show wpAny _ A.in1 (newTuple [a, b, c, d] >>= _) _ _ s
  refine wpAny_bind (wpAny_newObj_type ?_)
  refine wpAny_bind (wpAny_mono h ?_ fun _ _ e => e)
  rintro it s2 ⟨I, fp, wr, n, P, St, bt, rfl, W, hst, hfp, hn, hcmp, hQ⟩
  refine wpAny_bind (wpAny_newObj_type ?_)
  have fresh : s2.heap.objs.size ∉ fp := fun hm => absurd (hfp _ hm) (Nat.lt_irrefl _)
  rw [loopName]
  refine wpAny_pure ⟨plainId_quiet F.plain_min_loop _, ?_⟩
  refine codeAny_min_loop_first W bt hcmp s2.heap.objs.size fresh hn (W.frame _ _ _ hst fun b _ o e => Heap.get?_push_of_some _ e) (Heap.get?_push_size _ rfl) ?_
  intro v h' tk hP hk
  refine hQ v h' tk hP ?_
  intro b o hbw e
  exact hk b o hbw (Nat.ne_of_lt (Heap.lt_size e)) (Heap.get?_push_of_some _ e)
def min4 (a b c d : Int) : Int := min (min a b) (min c d)
theorem min_four_ints {a b c d : Int} {t u x y : Tok} {Q : Value → Shared → Prop} (hh : A.handled = none)
    (h : ∀ h' tk z, (∀ e o, s.heap.get? e = some o → h'.get? e = some o) → Q (.int (min4 a b c d) z) { s with heap := h', toks := tk }) :
    wpAny (model prog w) A (call (.builtin "min") [.int a t, .int b u, .int c x, .int d y]) Q E s := by
  have hT : (s.heap.push { cls := .type "tuple", data := .seq #[.int a t, .int b u, .int c x, .int d y] }).IsTuple s.heap.objs.size (intItems #[(a, t), (b, u), (c, x), (d, y)]) :=
    ⟨_, Heap.get?_push_size _ rfl, rfl, 0, by simp [intItems]⟩
  refine call_min_four (wpAny_pyIter_tuple hT ?_)
  have grown : (s.heap.push { cls := .type "tuple", data := .seq #[.int a t, .int b u, .int c x, .int d y] }).objs.size = s.heap.objs.size + 1 := Heap.size_push ..
  have apart : (s.heap.push { cls := .type "tuple", data := .seq #[.int a t, .int b u, .int c x, .int d y] }).objs.size ≠ s.heap.objs.size := by
    rw [grown]
    exact Nat.succ_ne_self _
  refine ⟨_, [_, s.heap.objs.size], [_], _, _, _, _, rfl, Walks.tuple (A := A.in1) hh _ s.heap.objs.size (Ne.symm apart) (intItems #[(a, t), (b, u), (c, x), (d, y)]), ⟨⟨_, Heap.get?_push_size _ rfl, rfl, rfl⟩, hT.push _⟩, ?_, by simp [intItems],
    CmpOf.ints_lt (numAt #[(a, t), (b, u), (c, x), (d, y)]) (fun _ _ => intItems_at), ?_⟩
  · intro e he
    show e < ((s.heap.push _).push _).objs.size
    rw [Heap.size_push, grown]
    simp only [List.mem_cons, List.not_mem_nil, or_false] at he
    rcases he with z | z
    · rw [z, grown]
      exact Nat.lt_succ_self _
    · rw [z]
      exact Nat.lt_succ_of_lt (Nat.lt_succ_self _)
  · intro v h' tk hP hk
    have old : ∀ e o, s.heap.get? e = some o → h'.get? e = some o := by
      intro e o q
      refine hk e o ?_ (Heap.get?_push_of_some _ (Heap.get?_push_of_some _ q))
      intro hm
      have z := List.mem_singleton.mp hm
      have l := Heap.lt_size q
      rw [z, grown] at l
      exact Nat.lt_irrefl _ (Nat.lt_of_succ_lt l)
    have hv : ∃ z, v = Value.int (min4 a b c d) z := by
      have hP' : (intItems #[(a, t), (b, u), (c, x), (d, y)])[argBest (fun i j => decide (numAt #[(a, t), (b, u), (c, x), (d, y)] i < numAt #[(a, t), (b, u), (c, x), (d, y)] j)) 3]? = some v := by
        have e3 : (intItems #[(a, t), (b, u), (c, x), (d, y)]).size - 1 = 3 := by simp [intItems]
        rw [← e3]
        exact hP
      simp only [argBest] at hP'
      revert hP'
      simp only [numAt]
      by_cases h1 : b < a
      · by_cases h2 : c < b
        · by_cases h3 : d < c
          · simp [h1, h2, h3, intItems]
            intro q
            exact ⟨y, by rw [← q]; unfold min4; congr 1; omega⟩
          · simp [h1, h2, h3, intItems]
            intro q
            exact ⟨x, by rw [← q]; unfold min4; congr 1; omega⟩
        · by_cases h3 : d < b
          · simp [h1, h2, h3, intItems]
            intro q
            exact ⟨y, by rw [← q]; unfold min4; congr 1; omega⟩
          · simp [h1, h2, h3, intItems]
            intro q
            exact ⟨u, by rw [← q]; unfold min4; congr 1; omega⟩
      · by_cases h2 : c < a
        · by_cases h3 : d < c
          · simp [h1, h2, h3, intItems]
            intro q
            exact ⟨y, by rw [← q]; unfold min4; congr 1; omega⟩
          · simp [h1, h2, h3, intItems]
            intro q
            exact ⟨x, by rw [← q]; unfold min4; congr 1; omega⟩
        · by_cases h3 : d < a
          · simp [h1, h2, h3, intItems]
            intro q
            exact ⟨y, by rw [← q]; unfold min4; congr 1; omega⟩
          · simp [h1, h2, h3, intItems]
            intro q
            exact ⟨t, by rw [← q]; unfold min4; congr 1; omega⟩
    obtain ⟨z, rfl⟩ := hv
    exact h h' tk z old
end
theorem call_min4 {X : Cx} (hc : X.calm = true) : CallR X (.builtin "min") (fun xs H Q => ∃ i j k l, xs = [.int i, .int j, .int k, .int l] ∧ Q (.int (min4 i j k l)) H) := by
  intro pins s σ H xs us Q I r h
  obtain ⟨i, j, k, l, rfl, q⟩ := h
  match us, r with
  | [_, _, _, _], .cons ⟨t1, e1⟩ (.cons ⟨t2, e2⟩ (.cons ⟨t3, e3⟩ (.cons ⟨t4, e4⟩ .nil))) =>
    subst e1; subst e2; subst e3; subst e4
    refine min_four_ints (I.ok.hd hc) ?_
    intro h' tk z old
    exact ⟨.int (min4 i j k l), H, I.kept old, ⟨z, rfl⟩, q⟩
end MW

namespace MW
open PySem PySem.Spec PyProof.Rows L2 Evl

/-! built-ins that the module does not bind -/
structure Bl (mg : Str → Option Value) : Prop where
  len : mg "len" = none
  list : mg "list" = none
  isinstance : mg "isinstance" = none
  str : mg "str" = none
  int : mg "int" = none
  bool : mg "bool" = none
  tuple : mg "tuple" = none
  enumerate : mg "enumerate" = none
  range : mg "range" = none
  min : mg "min" = none
  max : mg "max" = none
  all : mg "all" = none
  any : mg "any" = none
  zip : mg "zip" = none
  reversed : mg "reversed" = none
  sorted : mg "sorted" = none
  set : mg "set" = none
  sum : mg "sum" = none

/-! a def of the module, by its promise -/
structure Cal (P : Program) (w : World) (K : PySem.W.Frag) (mg : Str → Option Value) (base : Heap) (x : Str) (k : Nat) (ps : List Str) (sp : Sp) : Prop where
  ex : ∃ f fd, FnOk P w K mg base CX0 k f fd ps sp ∧ mg x = some (.ref f) ∧ PySem.W.keepIn K (.ref f) = true ∧ Binds K fd ps []
/-- where a def stands -/
structure At (K : PySem.W.Frag) (mg : Str → Option Value) (x : Str) (ps : List Str) (st : Stmt) (f : Addr) (fd : FuncData) : Prop where
  fn : Fun K x x st f fd
  mg : mg x = some (.ref f)
  bd : Binds K fd ps []
section
variable {P : Program} {w : World} {K : PySem.W.Frag} {mg : Str → Option Value} {base : Heap} {x : Str} {k : Nat} {ps N : List Str} {sp : Sp} {st : Stmt} {f : Addr} {fd : FuncData}
theorem At.ok (F : At K mg x ps st f fd) (S : FnScope N ps (defScope st)) (len : ∀ vs H Q E, sp vs H Q E → vs.length = ps.length)
    (hbody : ∀ (cdv : Value) (A : Around) (outer : List Env) (s : Shared) (H : Hp) (vs : List V) (Q : VK) (E : XK), Room k (A.deeper (envOfC x (defScope st) s.heap.objs.size f cdv)) → sp vs H Q E →
      ∃ t, PSs (cxOf CX0 P w K mg base N x (defScope st) f cdv A outer s H E).nox (defBody st) t ∧ t { nx := fun _ H' => Q .non H', rt := Q } (start N vs) H) :
    Cal P w K mg base x (k + 1) ps sp := ⟨f, fd, F.fn.ok S len hbody, F.mg, F.fn.kp, F.bd⟩
theorem Cal.mono {j : Nat} (C : Cal P w K mg base x j ps sp) (h : j ≤ k) : Cal P w K mg base x k ps sp := by
  obtain ⟨f, fd, F, r⟩ := C.ex
  exact ⟨f, fd, F.mono h, r⟩
theorem Cal.imp {sp' : Sp} (C : Cal P w K mg base x k ps sp) (h : ∀ vs H Q E, sp' vs H Q E → sp vs H Q E) : Cal P w K mg base x k ps sp' := by
  obtain ⟨f, fd, F, r⟩ := C.ex
  exact ⟨f, fd, F.imp h, r⟩
end
section
variable {X : Cx} {x : Str} {k : Nat} {ps : List Str} {sp : Sp} {p pos : Pos} {e : Expr} {es : List Expr} {t : TA}
theorem pe_cal (C : Cal X.prog X.w X.K X.mg X.base x k ps sp) (hr : Room k X.A) (hg : Gl X x) (ha : PA X (e :: es) t) (hdb : (x == ("__debug__" : Str)) = false := by decide)
    (he : starEach (e :: es) X.env = (false, eval e X.env) :: starEach es X.env := by rfl) (hpl : (backTo pos (starEach es X.env)).any (·.1) = false := by rfl) :
    PE X (.Call (.Name x p) (e :: es) [] pos) (tCall sp [] E0 t) := by
  obtain ⟨f, fd, F, g, kp, b⟩ := C.ex
  exact pe_call F hr hg g kp b .nil pass0 ha hdb he hpl
theorem pe_gS {v : Str} (hg : Gl X x) (h : ∃ t, X.mg x = some (.str v t)) (hd : (x == ("__debug__" : Str)) = false := by decide) : PE X (.Name x pos) (tC (.str v)) := by
  obtain ⟨t, h⟩ := h
  exact pe_glob hg h ⟨t, rfl⟩ hd
theorem pe_gI {v : Int} (hg : Gl X x) (h : ∃ t, X.mg x = some (.int v t)) (hd : (x == ("__debug__" : Str)) = false := by decide) : PE X (.Name x pos) (tC (.int v)) := by
  obtain ⟨t, h⟩ := h
  exact pe_glob hg h ⟨t, rfl⟩ hd
theorem pe_ty {T : String} (hg : Gl X x) (hm : X.mg x = none) (hv : bootBuiltins x = some (.type T)) (hn : x ≠ "__name__" := by decide) (hd : (x == ("__debug__" : Str)) = false := by decide) : PE X (.Name x pos) (tC (.ty T)) := pe_bltn hg hm hv rfl hn hd
end

/-! more of what evaluates to what -/
section
variable {K : PySem.W.Frag} {σ : L2.St} {H H' : Hp} {ta tb te tc : TE} {t u : TT} {x y z v : V} {r r' : R2}
/-- the first operand a new tuple -/
theorem ev_opV' {xs : List V} (ha : EvU ta σ H xs) (hb : Ev tb σ H y) (hr : ∀ p H1, H1 p = some (.tup xs) → Ex H H1 → RV r (.ref p) y H1 z) : Ev (tOp r ta tb) σ H z := fun H1 e Q q =>
  ha H1 e _ fun p H2 _ e2 hp => hb H2 (e.trans e2) _ fun H3 e3 => hr p H3 (e3 p _ hp) ((e.trans e2).trans e3) H3 (Ex.refl H3) Q fun H4 e4 => q H4 ((e2.trans e3).trans e4)
theorem rv_addS {i j : Str} (h : i.length + j.length ≤ 100000) : RV (fun x y H Q => ∃ i j, x = V.str i ∧ y = V.str j ∧ i.length + j.length ≤ sizeLine ∧ Q (.str (i ++ j)) H) (.str i) (.str j) H (.str (i ++ j)) :=
  fun H1 _ _ q => ⟨i, j, rfl, rfl, sz_of h, q H1 (Ex.refl H1)⟩
theorem ev_chain {b : Bool} (ha : Ev ta σ H x) (hb : Ev tb σ H y) (hr : RV r x y H (.bl b)) (hc : b = true → Ev tc σ H z) (hr' : b = true → RV r' y z H v) (hv : b = false → v = .bl false) : Ev (tChain r r' ta tb tc) σ H v := by
  intro H1 e Q q
  refine ha H1 e _ fun H2 e2 => hb H2 (e.trans e2) _ fun H3 e3 => hr H3 ((e.trans e2).trans e3) _ fun H4 e4 => ⟨b, rfl, ?_⟩
  have e1 := e.trans (e2.trans (e3.trans e4))
  cases b with
  | true => exact iteT (hc rfl H4 e1 _ fun H5 e5 => hr' rfl H5 (e1.trans e5) Q fun H6 e6 => q H6 ((((e2.trans e3).trans e4).trans e5).trans e6))
  | false =>
    refine iteF ?_
    have := q H4 ((e2.trans e3).trans e4)
    rw [hv rfl] at this
    exact this
theorem ev_chainB {b c : Bool} (ha : Ev ta σ H x) (hb : Ev tb σ H y) (hr : RV r x y H (.bl b)) (hc : Ev tc σ H z) (hr' : RV r' y z H (.bl c)) : Ev (tChain r r' ta tb tc) σ H (.bl (b && c)) := by
  cases b with
  | true => exact ev_chain ha hb hr (fun _ => hc) (fun _ => hr') (fun q => nomatch q)
  | false => exact ev_chain (z := z) ha hb hr (fun q => nomatch q) (fun q => nomatch q) (fun _ => rfl)
theorem rc_len {p : Addr} {xs : List V} (h : SqL K H p xs) : RC (fun xs H Q => ∃ p ys, xs = [.ref p] ∧ (SqL K H p ys ∨ SqT K H p ys) ∧ Q (.int ys.length) H) [.ref p] H (.int (xs.length : Nat)) :=
  fun H1 e _ q => ⟨p, xs, rfl, Or.inl (ex_l e h), q H1 (Ex.refl H1)⟩
theorem rc_lenT {p : Addr} {xs : List V} (h : SqT K H p xs) : RC (fun xs H Q => ∃ p ys, xs = [.ref p] ∧ (SqL K H p ys ∨ SqT K H p ys) ∧ Q (.int ys.length) H) [.ref p] H (.int (xs.length : Nat)) :=
  fun H1 e _ q => ⟨p, xs, rfl, Or.inr (ex_t e h), q H1 (Ex.refl H1)⟩
theorem rc_lenS {a : Str} (h : a.length ≤ 100000) : RC (fun xs H Q => ∃ z : Str, xs = [.str z] ∧ z.length ≤ sizeLine ∧ Q (.int z.length) H) [.str a] H (.int (a.length : Nat)) :=
  fun H1 e _ q => ⟨a, rfl, sz_of h, q H1 (Ex.refl H1)⟩
theorem rc_int1 {i : Int} : RC (fun xs H Q => (∃ i, xs = [.int i] ∧ Q (.int i) H) ∨ ∃ k, xs = [.bl k] ∧ Q (.int (if k then 1 else 0)) H) [.int i] H (.int i) :=
  fun H1 e _ q => .inl ⟨i, rfl, q H1 (Ex.refl H1)⟩
theorem rc_intB {k : Bool} : RC (fun xs H Q => (∃ i, xs = [.int i] ∧ Q (.int i) H) ∨ ∃ k, xs = [.bl k] ∧ Q (.int (if k then 1 else 0)) H) [.bl k] H (.int (if k then 1 else 0)) :=
  fun H1 e _ q => .inr ⟨k, rfl, q H1 (Ex.refl H1)⟩
theorem rc_max2 {i j : Int} : RC (fun xs H Q => ∃ i j, xs = [.int i, .int j] ∧ Q (.int (if j > i then j else i)) H) [.int i, .int j] H (.int (if j > i then j else i)) :=
  fun H1 e _ q => ⟨i, j, rfl, q H1 (Ex.refl H1)⟩
theorem rc_min2 {i j : Int} : RC (fun xs H Q => ∃ i j, xs = [.int i, .int j] ∧ Q (.int (if j < i then j else i)) H) [.int i, .int j] H (.int (if j < i then j else i)) :=
  fun H1 e _ q => ⟨i, j, rfl, q H1 (Ex.refl H1)⟩
theorem rc_min4 {i j k l : Int} : RC (fun xs H Q => ∃ i j k l, xs = [.int i, .int j, .int k, .int l] ∧ Q (.int (min4 i j k l)) H) [.int i, .int j, .int k, .int l] H (.int (min4 i j k l)) :=
  fun H1 e _ q => ⟨i, j, k, l, rfl, q H1 (Ex.refl H1)⟩
/-- the kind of a value, kept while the heap grows -/
def TyE (K : PySem.W.Frag) (H : Hp) (x : V) (t : Value) : Prop := ∀ H1, Ex H H1 → TyX K H1 x t
theorem tye_lst {a : Addr} {xs : List V} (h : H a = some (.lst xs)) : TyE K H (.ref a) (.type "list") := fun _ e => .base (.lst (e _ _ h))
theorem tye_tup {a : Addr} {xs : List V} (h : H a = some (.tup xs)) : TyE K H (.ref a) (.type "tuple") := fun _ e => .base (.tup (e _ _ h))
theorem tye_str {z : Str} : TyE K H (.str z) (.type "str") := fun _ _ => .base (.str z)
theorem tye_int {z : Int} : TyE K H (.int z) (.type "int") := fun _ _ => .base (.int z)
theorem tye_bl {z : Bool} : TyE K H (.bl z) (.type "bool") := fun _ _ => .base (.bl z)
theorem rc_isi {c : String} {ty : Value} {b : Bool} (h : TyE K H x ty) (hb : PySem.W.kitOne K ty (.type c) = some b) : RC (rIsi K) [x, .ty c] H (.bl b) :=
  fun H1 e _ q => ⟨x, .ty c, ty, .type c, b, rfl, .ty c, h H1 e, hb, q H1 (Ex.refl H1)⟩
def big : Int := 1000000000000000000
theorem rv_big : RV (rI CPow fun i j => .int (i ^ j.toNat)) (.int 10) (.int 18) H (.int big) :=
  fun H1 _ _ q => ⟨10, 18, rfl, rfl, ⟨by decide, by decide, by decide⟩, q H1 (Ex.refl H1)⟩
theorem rv_mod {i j : Int} (h : 0 < j) : RV (rI (fun _ j => 0 < j) fun i j => .int (i % j)) (.int i) (.int j) H (.int (i % j)) := rv_I h
theorem rv_fdiv {i j : Int} (h : 0 < j) (h2 : j < 1073741824) : RV (rI CDiv fun i j => .int (i / j)) (.int i) (.int j) H (.int (i / j)) := rv_I ⟨h, h2⟩
theorem rv_mulR {i j : Int} (h : -(2 ^ 64) < j) (h2 : j < 2 ^ 64) : RV (rI CMul fun i j => .int (i * j)) (.int i) (.int j) H (.int (i * j)) := rv_I (.inr ⟨h, h2⟩)
theorem rv_mulL {i j : Int} (h : -(2 ^ 64) < i) (h2 : i < 2 ^ 64) : RV (rI CMul fun i j => .int (i * j)) (.int i) (.int j) H (.int (i * j)) := rv_I (.inl ⟨h, h2⟩)
theorem rv_shl {j : Int} (h : 0 ≤ j) (h2 : j ≤ 1000000) : RV (rI CPow fun i j => .int (i * 2 ^ j.toNat)) (.int 1) (.int j) H (.int (1 * 2 ^ j.toNat)) := rv_I ⟨h, h2, by decide⟩
theorem rv_shr {i j : Int} (h : 0 ≤ j) : RV (rI (fun _ j => 0 ≤ j) fun i j => .int (i / 2 ^ j.toNat)) (.int i) (.int j) H (.int (i / 2 ^ j.toNat)) := rv_I h
theorem deq {α β : Type} {f : α → β} (hf : ∀ a b, f a = f b → a = b) {a b : α} [DecidableEq α] [Decidable (f a = f b)] : decide (f a = f b) = decide (a = b) := by
  by_cases h : a = b
  · rw [decide_eq_true h, decide_eq_true (congrArg f h)]
  · rw [decide_eq_false h, decide_eq_false fun z => h (hf _ _ z)]
theorem rv_eqI {i j : Int} : RV rEq (.int i) (.int j) H (.bl (decide (i = j))) := by
  rw [← deq (f := V.int) fun _ _ z => V.int.inj z]
  exact rv_eq rfl
theorem rv_neI {i j : Int} : RV rNe (.int i) (.int j) H (.bl (!decide (i = j))) := by
  rw [← deq (f := V.int) fun _ _ z => V.int.inj z]
  exact rv_ne rfl
theorem rv_eqS {i j : Str} : RV rEq (.str i) (.str j) H (.bl (decide (i = j))) := by
  rw [← deq (f := V.str) fun _ _ z => V.str.inj z]
  exact rv_eq rfl
theorem rv_neS {i j : Str} : RV rNe (.str i) (.str j) H (.bl (!decide (i = j))) := by
  rw [← deq (f := V.str) fun _ _ z => V.str.inj z]
  exact rv_ne rfl
theorem two_pow (n : Nat) : (2 : Int) ^ n = ((2 ^ n : Nat) : Int) := by
  rw [Int.natCast_pow]
  rfl
theorem shl_pos (n : Nat) : (0 : Int) < 1 * 2 ^ n := by
  have h : 0 < 2 ^ n := Nat.pow_pos (by decide)
  rw [two_pow]
  omega
theorem shl_lt {n m : Nat} (h : n ≤ m) : (1 : Int) * 2 ^ n ≤ 1 * 2 ^ m := by
  have h : 2 ^ n ≤ 2 ^ m := Nat.pow_le_pow_right (by decide) h
  rw [two_pow, two_pow]
  omega
theorem rv_ixStr {w : Str} {i : Int} {c : Nat} (h : w.length ≤ 100000) (ha : atI w.cps.toList i = some c) : RV rIxS (.str w) (.int i) H (.str ⟨#[c]⟩) := rv_ixS h ha
end

theorem q_par {K : PySem.W.Frag} {σ : L2.St} {H : Hp} {D : Ends} {tz : TS} {i j : Nat} {ta : TA} {x y : V} (h : EvA ta σ H [x, y]) (k : ∀ H1, Ex H H1 → tz D ((σ.set i (some x)).set j (some y)) H1) : tSeq (tPar i j ta) tz D σ H :=
  h H (Ex.refl H) _ fun H1 e => ⟨x, y, rfl, k H1 e⟩
/-! grids as texts -/
def signN (b : Bool) : Nat := if b then 35 else 46
def signS (b : Bool) : Str := ⟨#[signN b]⟩
def rowS (f : Nat → Bool) (n : Nat) : Str := ⟨((List.range n).map fun i => signN (f i)).toArray⟩
def gridS (h w : Nat) (f : Nat → Nat → Bool) : List Str := (List.range h).map fun r => rowS (f r) w
theorem hash_S : ("#" : Str) = signS true := rfl
theorem dot_S : ("." : Str) = signS false := rfl
theorem rowS_len (f : Nat → Bool) (n : Nat) : (rowS f n).length = n := by
  unfold rowS Str.length
  simp
theorem rowS_succ (f : Nat → Bool) (n : Nat) : rowS f n ++ signS (f n) = rowS f (n + 1) := by
  unfold rowS signS
  show Str.mk (_ ++ _) = _
  rw [List.range_succ, List.map_append]
  congr 1
  apply Array.ext'
  simp
theorem gridS_len (h w : Nat) (f : Nat → Nat → Bool) : (gridS h w f).length = h := by
  unfold gridS
  simp
theorem gridS_succ (h w : Nat) (f : Nat → Nat → Bool) : gridS (h + 1) w f = gridS h w f ++ [rowS (f h) w] := by
  unfold gridS
  rw [List.range_succ, List.map_append]
  rfl
theorem gridS_get {h w r : Nat} (f : Nat → Nat → Bool) (hr : r < h) : (gridS h w f)[r]? = some (rowS (f r) w) := by
  unfold gridS
  rw [List.getElem?_map, List.getElem?_range hr]
  rfl
theorem rowS_get {n i : Nat} (f : Nat → Bool) (hi : i < n) : (rowS f n).cps[i]? = some (signN (f i)) := by
  unfold rowS
  rw [List.getElem?_toArray, List.getElem?_map, List.getElem?_range hi]
  rfl
theorem rowS_size (f : Nat → Bool) (n : Nat) : (rowS f n).cps.size = n := rowS_len f n
end MW

namespace MW
open PySem PySem.Spec PyProof.Rows L2 Evl

/-! tuples stay -/
def ExT (H H' : Hp) : Prop := ∀ a xs, H a = some (.tup xs) → H' a = some (.tup xs)
theorem ExT.refl (H : Hp) : ExT H H := fun _ _ h => h
theorem ExT.trans {H H1 H2 : Hp} (a : ExT H H1) (b : ExT H1 H2) : ExT H H2 := fun x o h => b x o (a x o h)
theorem ext_of {H H' : Hp} (e : Ex H H') : ExT H H' := fun a xs h => e a _ h
theorem ext_upd {H : Hp} {p : Addr} {xs ys : List V} (h : H p = some (.lst xs)) : ExT H (upd H p (.lst ys)) := fun a zs q => by
  rw [upd_ne (ne_of q h (by intro z; cases z))]
  exact q
theorem ext_new {H : Hp} {p : Addr} {o : HO} (h : H p = none) : ExT H (upd H p o) := ext_of (Ex.new h)

/-! what an expression gives, by what is true of it -/
def EvP (te : TE) (σ : L2.St) (H : Hp) (P : V → Hp → Prop) : Prop := ∀ H1, Ex H H1 → ∀ Q : VK, (∀ v H2, Ex H1 H2 → P v H2 → Q v H2) → te σ H1 Q
/-- a new list -/
def EvLP (te : TE) (σ : L2.St) (H : Hp) (P : List V → Hp → Prop) : Prop :=
  ∀ H1, Ex H H1 → ∀ Q : VK, (∀ p vs H2, H1 p = none → Ex H1 H2 → H2 p = some (.lst vs) → P vs H2 → Q (.ref p) H2) → te σ H1 Q
section
variable {K : PySem.W.Frag} {σ : L2.St} {H : Hp} {ta tb te : TE} {t : TT} {v x y : V} {D : Ends} {tz tu : TS} {g : TG}
theorem Ev.toP {P : V → Hp → Prop} (h : Ev te σ H v) (hp : ∀ H', Ex H H' → P v H') : EvP te σ H P := fun H1 e Q q => h H1 e Q fun H2 e2 => q v H2 e2 (hp H2 (e.trans e2))
theorem EvU.toP {P : V → Hp → Prop} {xs : List V} (h : EvU te σ H xs) (hp : ∀ p H', H' p = some (.tup xs) → P (.ref p) H') : EvP te σ H P :=
  fun H1 e Q q => h H1 e Q fun p H2 np e2 hq => q _ H2 e2 (hp p H2 hq)
theorem s_asgP {i : Nat} {P : V → Hp → Prop} (h : EvP te σ H P) (k : ∀ v H1, Ex H H1 → P v H1 → D.nx (σ.set i (some v)) H1) : tAsg te (gName i) D σ H := h H (Ex.refl H) _ fun v H1 e p => k v H1 e p
theorem q_asgP {i : Nat} {P : V → Hp → Prop} (h : EvP te σ H P) (k : ∀ v H1, Ex H H1 → P v H1 → tz D (σ.set i (some v)) H1) : tSeq (tAsg te (gName i)) tz D σ H := s_asgP (D := { D with nx := tz D }) h k
theorem s_asgLP {i : Nat} {P : List V → Hp → Prop} (h : EvLP te σ H P) (k : ∀ p vs H1, H p = none → Ex H H1 → H1 p = some (.lst vs) → P vs H1 → D.nx (σ.set i (some (.ref p))) H1) : tAsg te (gName i) D σ H :=
  h H (Ex.refl H) _ fun p vs H1 np e hp q => k p vs H1 np e hp q
theorem q_asgLP {i : Nat} {P : List V → Hp → Prop} (h : EvLP te σ H P) (k : ∀ p vs H1, H p = none → Ex H H1 → H1 p = some (.lst vs) → P vs H1 → tz D (σ.set i (some (.ref p))) H1) : tSeq (tAsg te (gName i)) tz D σ H :=
  s_asgLP (D := { D with nx := tz D }) h k
theorem s_retP {P : V → Hp → Prop} (h : EvP te σ H P) (k : ∀ v H1, Ex H H1 → P v H1 → D.rt v H1) : tRet te D σ H := h H (Ex.refl H) _ fun v H1 e p => k v H1 e p
theorem s_retLP {P : List V → Hp → Prop} (h : EvLP te σ H P) (k : ∀ p vs H1, H p = none → Ex H H1 → H1 p = some (.lst vs) → P vs H1 → D.rt (.ref p) H1) : tRet te D σ H :=
  h H (Ex.refl H) _ fun p vs H1 np e hp q => k p vs H1 np e hp q
theorem s_dropP {P : V → Hp → Prop} (h : EvP te σ H P) (k : ∀ v H1, Ex H H1 → P v H1 → D.nx σ H1) : tDrop te D σ H := h H (Ex.refl H) _ fun v H1 e p => k v H1 e p
/-- xs.append(e), e by what is true of it -/
theorem s_appP {l : Addr} {xs : List V} {P : V → Hp → Prop} (hl : H l = some (.lst xs)) (ha : Ev ta σ H (.ref l)) (h : EvP te σ H P) (hz : xs.length < 100000)
    (k : ∀ v H1, Ex H H1 → P v H1 → D.nx σ (upd H1 l (.lst (xs ++ [v])))) : tDrop (tBM K "list" rAppend ta (tCons te tNil)) D σ H := by
  refine ha H (Ex.refl H) _ fun H1 e1 => ⟨Or.inl ⟨rfl, xs, sq_of (e1 l _ hl)⟩, ?_⟩
  exact h H1 e1 _ fun v H2 e2 p => ⟨l, xs, v, rfl, rfl, e2 l _ (e1 l _ hl), sz_lt hz, k v H2 (e1.trans e2) p⟩
theorem q_appP {l : Addr} {xs : List V} {P : V → Hp → Prop} (hl : H l = some (.lst xs)) (ha : Ev ta σ H (.ref l)) (h : EvP te σ H P) (hz : xs.length < 100000)
    (k : ∀ v H1, Ex H H1 → P v H1 → tz D σ (upd H1 l (.lst (xs ++ [v])))) : tSeq (tDrop (tBM K "list" rAppend ta (tCons te tNil))) tz D σ H := s_appP (D := { D with nx := tz D }) hl ha h hz k
/-- a call by its promise -/
theorem evp_call {sp : Sp} {dvs vs : List V} {E : XK} {ta : TA} {P : V → Hp → Prop} (h : EvA ta σ H vs) (hs : ∀ H1, Ex H H1 → ∀ Q : VK, (∀ v H2, Ex H1 H2 → P v H2 → Q v H2) → sp (vs ++ dvs) H1 Q E) : EvP (tCall sp dvs E ta) σ H P :=
  fun H1 e Q q => h H1 e _ fun H2 e2 => hs H2 (e.trans e2) Q fun v H3 e3 p => q v H3 (e2.trans e3) p
theorem evlp_call {sp : Sp} {dvs vs : List V} {E : XK} {ta : TA} {P : List V → Hp → Prop} (h : EvA ta σ H vs)
    (hs : ∀ H1, Ex H H1 → ∀ Q : VK, (∀ p vs H2, H1 p = none → Ex H1 H2 → H2 p = some (.lst vs) → P vs H2 → Q (.ref p) H2) → sp (vs ++ dvs) H1 Q E) : EvLP (tCall sp dvs E ta) σ H P :=
  fun H1 e Q q => h H1 e _ fun H2 e2 => hs H2 (e.trans e2) Q fun p vs H3 np e3 hp r => q p vs H3 (fresh_back e2 np) (e2.trans e3) hp r
theorem EvL.toLP {xs : List V} {P : List V → Hp → Prop} (h : EvL te σ H xs) (hp : ∀ H', Ex H H' → P xs H') : EvLP te σ H P := fun H1 e Q q =>
  h H1 e Q fun p H2 np e2 hq => q p xs H2 np e2 hq (hp H2 (e.trans e2))

/-! what a for walks -/
def Iter (wi : TI) (σ : L2.St) (H : Hp) (J : It) : Prop := ∀ H1, Ex H H1 → ∀ R : It → Hp → Prop, (∀ H2, Ex H1 H2 → R J H2) → wi σ H1 R
theorem it_list {a : Addr} {xs : List V} {tl : TE} (h : Ev tl σ H (.ref a)) (hx : SqL K H a xs) : Iter (iList K tl) σ H (Itl K a) := fun H1 e R q =>
  h H1 e _ fun H2 e2 => ⟨a, rfl, ⟨xs, ex_l (e.trans e2) hx⟩, q H2 e2⟩
theorem it_tup {a : Addr} {xs : List V} {tl : TE} (h : Ev tl σ H (.ref a)) (hx : SqT K H a xs) : Iter (iTup K tl) σ H (Itt K a) := fun H1 e R q =>
  h H1 e _ fun H2 e2 => ⟨a, rfl, ⟨xs, ex_t (e.trans e2) hx⟩, q H2 e2⟩
theorem it_enum {a : Addr} {xs : List V} {ta : TA} (h : EvA ta σ H [.ref a]) (hx : SqL K H a xs) : Iter (iEnum K ta) σ H (Ite K a) := fun H1 e R q =>
  h H1 e _ fun H2 e2 => ⟨a, xs, rfl, ex_l (e.trans e2) hx, q H2 e2⟩
theorem it_enS {z : Str} {ta : TA} (h : EvA ta σ H [.str z]) : Iter (iEnS ta) σ H (ItS z) := fun H1 e R q =>
  h H1 e _ fun H2 e2 => ⟨z, rfl, q H2 e2⟩
theorem it_str {z : Str} {tl : TE} (h : Ev tl σ H (.str z)) : Iter (iStr tl) σ H (Its z) := fun H1 e R q =>
  h H1 e _ fun H2 e2 => ⟨z, rfl, q H2 e2⟩
theorem it_rng1 {n : Int} {ta : TA} (h : EvA ta σ H [.int n]) (hn : -100000 ≤ n ∧ n ≤ 100000) : Iter (iRng1 ta) σ H (Itr 0 n.toNat) := fun H1 e R q =>
  h H1 e _ fun H2 e2 => ⟨n, rfl, by omega, by omega, q H2 e2⟩
theorem walk_enS {z : Str} : Walk (ItS z) z.cps.size (fun _ => True) (YPair (fun i => some (.int (i : Nat))) (fun i => z.cps[i]?.map fun c => .str ⟨#[c]⟩)) := by
  refine ⟨fun i _ hi _ => hi, fun _ _ => Nat.le_refl _, ?_⟩
  rintro i H v H' _ _ ⟨T, c, h1, h2, h3, h4⟩
  exact ⟨T, .int (i : Nat), .str ⟨#[c]⟩, h1, h2, h4, rfl, by show Option.map _ _ = _; rw [h3]; rfl⟩
theorem s_forW {J : It} {n : Nat} {G : Hp → Prop} {Y : Nat → Hp → V → Hp → Prop} {wi : TI} (w : Walk J n G Y) (hi : Iter wi σ H J) (Pv : Nat → L2.St → Hp → Prop) (h0 : ∀ H1, Ex H H1 → Pv 0 σ H1) (hG : ∀ i σ H, i ≤ n → Pv i σ H → G H)
    (hs : ∀ i x σ H H', i < n → Pv i σ H → Y i H x H' → g x σ H' fun σ2 H2 => tu { D with nx := Pv (i + 1), ct := Pv (i + 1), bk := D.nx } σ2 H2) (hd : ∀ σ H, Pv n σ H → D.nx σ H) : tFor wi g tu D σ H :=
  hi H (Ex.refl H) _ fun H2 e2 => for_it w Pv (h0 H2 e2) hG hs hd
theorem q_forW {J : It} {n : Nat} {G : Hp → Prop} {Y : Nat → Hp → V → Hp → Prop} {wi : TI} (w : Walk J n G Y) (hi : Iter wi σ H J) (Pv : Nat → L2.St → Hp → Prop) (h0 : ∀ H1, Ex H H1 → Pv 0 σ H1) (hG : ∀ i σ H, i ≤ n → Pv i σ H → G H)
    (hs : ∀ i x σ H H', i < n → Pv i σ H → Y i H x H' → g x σ H' fun σ2 H2 => tu { D with nx := Pv (i + 1), ct := Pv (i + 1), bk := tz D } σ2 H2) (hd : ∀ σ H, Pv n σ H → tz D σ H) : tSeq (tFor wi g tu) tz D σ H :=
  s_forW (D := { D with nx := tz D }) w hi Pv h0 hG hs hd
/-- a, b = a new pair -/
theorem g_pair {j1 j2 T : Nat} {v x y : V} {H H' : Hp} {Q : L2.St → Hp → Prop} (e : v = .ref T) (eh : H' = upd H T (.tup [x, y])) (q : Q ((σ.set j1 (some x)).set j2 (some y)) H') :
    gTup K 2 (gCons (gName j1) (gCons (gName j2) gNil)) v σ H' Q := by
  refine ⟨T, [x, y], e, st_of (by rw [eh, upd_same]), rfl, x, [y], rfl, y, [], rfl, rfl, q⟩
/-- a, b = a pair -/
theorem g_pairT {j1 j2 : Nat} {T : Addr} {x y : V} {H : Hp} {Q : L2.St → Hp → Prop} (h : SqT K H T [x, y]) (q : Q ((σ.set j1 (some x)).set j2 (some y)) H) :
    gTup K 2 (gCons (gName j1) (gCons (gName j2) gNil)) (.ref T) σ H Q :=
  ⟨T, [x, y], rfl, h, rfl, x, [y], rfl, y, [], rfl, rfl, q⟩
/-- a, b = a tuple that stands -/
theorem s_unpack {te : TE} {j1 j2 : Nat} {T : Addr} {x y : V} (h : Ev te σ H (.ref T)) (hT : SqT K H T [x, y]) (k : D.nx ((σ.set j1 (some x)).set j2 (some y)) H) (k' : ∀ H1, Ex H H1 → D.nx ((σ.set j1 (some x)).set j2 (some y)) H1) :
    tAsg te (gTup K 2 (gCons (gName j1) (gCons (gName j2) gNil))) D σ H := h H (Ex.refl H) _ fun H1 e => g_pairT (ex_t e hT) (k' H1 e)
/-- .. a name's -/
theorem q_unpack {i j1 j2 : Nat} {T : Addr} {x y : V} (h : σ[i]? = some (some (.ref T))) (hT : SqT K H T [x, y]) (k : tz D ((σ.set j1 (some x)).set j2 (some y)) H) :
    tSeq (tAsg (tVar i) (gTup K 2 (gCons (gName j1) (gCons (gName j2) gNil)))) tz D σ H := ⟨.ref T, h, g_pairT hT k⟩
/-- for i, x in enumerate(xs) -/
theorem s_forEn {a : Addr} {xs : List V} {ta : TA} {j1 j2 : Nat} (h : EvA ta σ H [.ref a]) (hx : SqL K H a xs) (Pv : Nat → L2.St → Hp → Prop) (h0 : ∀ H1, Ex H H1 → Pv 0 σ H1) (hG : ∀ i σ H, i ≤ xs.length → Pv i σ H → SqL K H a xs)
    (hs : ∀ i x σ H1 H', xs[i]? = some x → Pv i σ H1 → Ex H1 H' → tu { D with nx := Pv (i + 1), ct := Pv (i + 1), bk := D.nx } ((σ.set j1 (some (.int (i : Nat)))).set j2 (some x)) H') (hd : ∀ σ H, Pv xs.length σ H → D.nx σ H) :
    tFor (iEnum K ta) (gTup K 2 (gCons (gName j1) (gCons (gName j2) gNil))) tu D σ H := by
  refine s_forW walk_enum (it_enum h hx) Pv h0 hG ?_ hd
  rintro i v σ H H' hi p ⟨T, x, y, rfl, nT, eh, ex, ey⟩
  cases ex
  refine g_pair rfl eh ?_
  rw [eh]
  exact hs i y σ H _ ey p (Ex.new nT)
theorem q_forEn {a : Addr} {xs : List V} {ta : TA} {j1 j2 : Nat} (h : EvA ta σ H [.ref a]) (hx : SqL K H a xs) (Pv : Nat → L2.St → Hp → Prop) (h0 : ∀ H1, Ex H H1 → Pv 0 σ H1) (hG : ∀ i σ H, i ≤ xs.length → Pv i σ H → SqL K H a xs)
    (hs : ∀ i x σ H1 H', xs[i]? = some x → Pv i σ H1 → Ex H1 H' → tu { D with nx := Pv (i + 1), ct := Pv (i + 1), bk := tz D } ((σ.set j1 (some (.int (i : Nat)))).set j2 (some x)) H') (hd : ∀ σ H, Pv xs.length σ H → tz D σ H) :
    tSeq (tFor (iEnum K ta) (gTup K 2 (gCons (gName j1) (gCons (gName j2) gNil))) tu) tz D σ H := s_forEn (D := { D with nx := tz D }) h hx Pv h0 hG hs hd
/-- for i, c in enumerate(text) -/
theorem s_forEnS {z : Str} {ta : TA} {j1 j2 : Nat} (h : EvA ta σ H [.str z]) (Pv : Nat → L2.St → Hp → Prop) (h0 : ∀ H1, Ex H H1 → Pv 0 σ H1)
    (hs : ∀ i c σ H1 H', z.cps[i]? = some c → Pv i σ H1 → Ex H1 H' → tu { D with nx := Pv (i + 1), ct := Pv (i + 1), bk := D.nx } ((σ.set j1 (some (.int (i : Nat)))).set j2 (some (.str ⟨#[c]⟩))) H') (hd : ∀ σ H, Pv z.cps.size σ H → D.nx σ H) :
    tFor (iEnS ta) (gTup K 2 (gCons (gName j1) (gCons (gName j2) gNil))) tu D σ H := by
  refine s_forW walk_enS (it_enS h) Pv h0 (fun _ _ _ _ _ => trivial) ?_ hd
  rintro i v σ H H' hi p ⟨T, x, y, rfl, nT, eh, ex, ey⟩
  cases ex
  refine g_pair rfl eh ?_
  rw [Option.map_eq_some_iff] at ey
  obtain ⟨c, hc, rfl⟩ := ey
  rw [eh]
  exact hs i c σ H _ hc p (Ex.new nT)
theorem q_forEnS {z : Str} {ta : TA} {j1 j2 : Nat} (h : EvA ta σ H [.str z]) (Pv : Nat → L2.St → Hp → Prop) (h0 : ∀ H1, Ex H H1 → Pv 0 σ H1)
    (hs : ∀ i c σ H1 H', z.cps[i]? = some c → Pv i σ H1 → Ex H1 H' → tu { D with nx := Pv (i + 1), ct := Pv (i + 1), bk := tz D } ((σ.set j1 (some (.int (i : Nat)))).set j2 (some (.str ⟨#[c]⟩))) H') (hd : ∀ σ H, Pv z.cps.size σ H → tz D σ H) :
    tSeq (tFor (iEnS ta) (gTup K 2 (gCons (gName j1) (gCons (gName j2) gNil))) tu) tz D σ H := s_forEnS (D := { D with nx := tz D }) h Pv h0 hs hd
/-- for c in text -/
theorem s_forS {z : Str} {tl : TE} {j : Nat} (h : Ev tl σ H (.str z)) (Pv : Nat → L2.St → Hp → Prop) (h0 : ∀ H1, Ex H H1 → Pv 0 σ H1)
    (hs : ∀ i c σ H', z.cps[i]? = some c → Pv i σ H' → tu { D with nx := Pv (i + 1), ct := Pv (i + 1), bk := D.nx } (σ.set j (some (.str ⟨#[c]⟩))) H') (hd : ∀ σ H, Pv z.cps.size σ H → D.nx σ H) :
    tFor (iStr tl) (gName j) tu D σ H := by
  refine s_forW walk_str (it_str h) Pv h0 (fun _ _ _ _ _ => trivial) ?_ hd
  rintro i v σ H H' hi p ⟨rfl, c, hc, rfl⟩
  exact hs i c σ _ hc p

/-! comprehensions, by what is true of the list so far -/
theorem el_lcW {J : It} {n : Nat} {G : Hp → Prop} {Y : Nat → Hp → V → Hp → Prop} {wi : TI} {tt : TT} {vs : List Nat} (w : Walk J n G Y) (hn : n ≤ 40000) (hi : Iter wi σ H J) (hG : ∀ H', Ex H H' → G H')
    (R : Nat → List V → Hp → Prop) (r0 : ∀ H', R 0 [] H') (rm : ∀ i xs H' H'', ExT H' H'' → R i xs H' → R i xs H'')
    (hs : ∀ i x H0 H', i < n → Ex H H0 → Y i H0 x H' → ∃ σ2, (∀ Q : L2.St → Hp → Prop, Q σ2 H' → g x (wipe σ vs) H' Q) ∧ wipe σ2 vs = wipe σ vs ∧ Ex H0 H' ∧ ∃ b, EvT tt σ2 H' b ∧
      (b = false → ∀ xs H2, R i xs H2 → R (i + 1) xs H2) ∧ (b = true → EvP te σ2 H' fun v H2 => ∀ xs H3, ExT H2 H3 → R i xs H3 → R (i + 1) (xs ++ [v]) H3)) :
    EvLP (tLc wi g tt te vs) σ H (R n) := by
  intro H1 e Q q
  refine hi H1 e _ fun H2 e2 Dl hD => ?_
  refine lc_it w (fun i H' => Ex H2 H' ∧ ∃ xs, H' Dl = some (.lst xs) ∧ xs.length ≤ i ∧ R i xs H') ⟨Ex.new hD, [], upd_same, Nat.le_refl _, r0 _⟩ (fun i H' _ p => hG H' ((e.trans e2).trans p.1)) ?_ ?_
  · rintro i x H0 H' hin ⟨e3, xs, hx, hl, r⟩ hy
    obtain ⟨σ2, hg, hw, e4, b, hb, hno, hyes⟩ := hs i x H0 H' hin ((e.trans e2).trans e3) hy
    refine hg _ ⟨hw, ?_⟩
    refine hb H' (Ex.refl H') _ fun H5 e5 => ?_
    have e05 := e4.trans e5
    cases b with
    | false =>
      refine iteF ⟨e3.trans e05, xs, e05 _ _ hx, Nat.le_succ_of_le hl, hno rfl xs H5 (rm _ _ _ _ (ext_of e05) r)⟩
    | true =>
      refine iteT ?_
      refine hyes rfl H5 e5 _ fun v H6 e6 hv => ?_
      have e06 := e05.trans e6
      have hx6 := e06 _ _ hx
      refine ⟨xs, hx6, sz_lt (by omega), Ex.mut (e3.trans e06) hD, xs ++ [v], upd_same, ?_, ?_⟩
      · rw [List.length_append]
        exact Nat.succ_le_succ hl
      · exact hv xs _ (ext_upd hx6) (rm _ _ _ _ ((ext_of e06).trans (ext_upd hx6)) r)
  · rintro H' ⟨e3, xs, hx, hl, r⟩
    exact q Dl xs H' (fresh_back e2 hD) (e2.trans e3) hx r
end

/-- .. the number of turns said otherwise -/
theorem el_lcWn {σ : L2.St} {H : Hp} {te : TE} {g : TG} {J : It} {n m : Nat} {G : Hp → Prop} {Y : Nat → Hp → V → Hp → Prop} {wi : TI} {tt : TT} {vs : List Nat} (hm : n = m) (w : Walk J n G Y) (hn : n ≤ 40000) (hi : Iter wi σ H J) (hG : ∀ H', Ex H H' → G H')
    (R : Nat → List V → Hp → Prop) (r0 : ∀ H', R 0 [] H') (rm : ∀ i xs H' H'', ExT H' H'' → R i xs H' → R i xs H'')
    (hs : ∀ i x H0 H', i < n → Ex H H0 → Y i H0 x H' → ∃ σ2, (∀ Q : L2.St → Hp → Prop, Q σ2 H' → g x (wipe σ vs) H' Q) ∧ wipe σ2 vs = wipe σ vs ∧ Ex H0 H' ∧ ∃ b, EvT tt σ2 H' b ∧
      (b = false → ∀ xs H2, R i xs H2 → R (i + 1) xs H2) ∧ (b = true → EvP te σ2 H' fun v H2 => ∀ xs H3, ExT H2 H3 → R i xs H3 → R (i + 1) (xs ++ [v]) H3)) :
    EvLP (tLc wi g tt te vs) σ H (R m) := by
  subst hm
  exact el_lcW w hn hi hG R r0 rm hs
/-! cells -/
def CellV (H : Hp) (v : V) (c : Int × Int) : Prop := ∃ t, v = .ref t ∧ H t = some (.tup [.int c.1, .int c.2])
def Cells (H : Hp) (vs : List V) (cs : List (Int × Int)) : Prop := Paired (CellV H) vs cs
theorem CellV.keep {H H' : Hp} {v : V} {c : Int × Int} (h : CellV H v c) (e : ExT H H') : CellV H' v c := by
  obtain ⟨t, rfl, ht⟩ := h
  exact ⟨t, rfl, e _ _ ht⟩
theorem Cells.keep {H H' : Hp} (e : ExT H H') : ∀ {vs : List V} {cs : List (Int × Int)}, Cells H vs cs → Cells H' vs cs
  | _, _, .nil => .nil
  | _, _, .cons r t => .cons (r.keep e) (Cells.keep e t)
theorem Cells.snoc {H : Hp} {vs : List V} {cs : List (Int × Int)} {v : V} {c : Int × Int} (h : Cells H vs cs) (hv : CellV H v c) : Cells H (vs ++ [v]) (cs ++ [c]) := Paired.snoc h hv
theorem Cells.app {H : Hp} : ∀ {vs ws : List V} {cs ds : List (Int × Int)}, Cells H vs cs → Cells H ws ds → Cells H (vs ++ ws) (cs ++ ds)
  | _, _, _, _, .nil, s => s
  | _, _, _, _, .cons r t, s => .cons r (Cells.app t s)
theorem Cells.len {H : Hp} {vs : List V} {cs : List (Int × Int)} (h : Cells H vs cs) : vs.length = cs.length := Paired.length h
/-- cells as data -/
def cellD (c : Int × Int) : PyData := .tuple [.int c.1, .int c.2]
theorem CellV.dp {K : PySem.W.Frag} {H : Hp} {v : V} {c : Int × Int} (h : CellV H v c) : Dp K H v (cellD c) := by
  obtain ⟨t, rfl, ht⟩ := h
  exact .tup (st_of ht) (.cons (.int _) (.cons (.int _) .nil))
theorem Cells.dp {K : PySem.W.Frag} {H : Hp} : ∀ {vs : List V} {cs : List (Int × Int)}, Cells H vs cs → DpAll K H vs (cs.map cellD)
  | _, _, .nil => .nil
  | _, _, .cons r t => .cons r.dp (Cells.dp t)
theorem strs_dp {K : PySem.W.Frag} {H : Hp} : ∀ xs : List Str, DpAll K H (xs.map V.str) (xs.map PyData.str)
  | [] => .nil
  | x :: r => .cons (.str x) (strs_dp r)
/-- the cells of a row, of a grid -/
def rowCells (f : Nat → Bool) (b : Bool) (r : Nat) (n : Nat) : List (Int × Int) := ((List.range n).filter fun c => f c == b).map fun (c : Nat) => ((r : Int), (c : Int))
def cellsM (f : Nat → Nat → Bool) (b : Bool) (h w : Nat) : List (Int × Int) := (List.range h).flatMap fun r => rowCells (f r) b r w
theorem rowCells_yes {f : Nat → Bool} {b : Bool} {r n : Nat} (h : f n = b) : rowCells f b r (n + 1) = rowCells f b r n ++ [((r : Int), (n : Int))] := by
  unfold rowCells
  rw [List.range_succ, List.filter_append, List.map_append, List.filter_cons, if_pos (by rw [h]; exact beq_self_eq_true b)]
  rfl
theorem rowCells_no {f : Nat → Bool} {b : Bool} {r n : Nat} (h : f n ≠ b) : rowCells f b r (n + 1) = rowCells f b r n := by
  unfold rowCells
  rw [List.range_succ, List.filter_append, List.map_append, List.filter_cons, if_neg (by intro z; exact h (eq_of_beq z))]
  exact List.append_nil _
theorem rowCells_len (f : Nat → Bool) (b : Bool) (r n : Nat) : (rowCells f b r n).length ≤ n := by
  unfold rowCells
  rw [List.length_map]
  have h := List.length_filter_le (fun c => f c == b) (List.range n)
  rw [List.length_range] at h
  exact h
theorem cellsM_succ (f : Nat → Nat → Bool) (b : Bool) (h w : Nat) : cellsM f b (h + 1) w = cellsM f b h w ++ rowCells (f h) b h w := by
  unfold cellsM
  rw [List.range_succ, List.flatMap_append]
  congr 1
  exact List.flatMap_singleton _ _
theorem cellsM_len (f : Nat → Nat → Bool) (b : Bool) (h w : Nat) : (cellsM f b h w).length ≤ h * w := by
  induction h with
  | zero => exact Nat.zero_le _
  | succ h ih =>
    rw [cellsM_succ, List.length_append, Nat.succ_mul]
    have := rowCells_len (f h) b h w
    omega
theorem signN_inj {a b : Bool} : decide ((⟨#[signN a]⟩ : Str) = signS b) = (a == b) := by
  cases a <;> cases b <;> decide
theorem tye_sq {K : PySem.W.Frag} {H : Hp} {a : Addr} {xs : List V} (h : SqL K H a xs) : TyE K H (.ref a) (.type "list") := by
  intro H1 e
  rcases ex_l e h with (h | ⟨o, h⟩) | ⟨o, its, n, h, c, _⟩
  · exact .base (.lst h)
  · exact .base (.frz h)
  · exact .kList h c
theorem grid_at {h w : Nat} {f : Nat → Nat → Bool} {r : Int} (h0 : 0 ≤ r) (h1 : r < h) : atI ((gridS h w f).map V.str) r = some (.str (rowS (f r.toNat) w)) := by
  refine at_of (j := r.toNat) (by omega) ?_
  rw [List.getElem?_map, gridS_get f (by omega)]
  rfl
theorem walk_row {f : Nat → Bool} {n : Nat} : Walk (ItS (rowS f n)) n (fun _ => True) (fun i H v H' => ∃ T, v = .ref T ∧ H T = none ∧ H' = upd H T (.tup [.int (i : Nat), .str (signS (f i))])) := by
  have h := walk_enS (z := rowS f n)
  rw [rowS_size] at h
  refine h.mono (fun _ q => q) ?_
  rintro i H v H' hi _ ⟨T, x, y, e1, e2, e3, e4, e5⟩
  cases e4
  have e5 : Option.map (fun c => V.str ⟨#[c]⟩) (rowS f n).cps[i]? = some y := e5
  rw [rowS_get f hi] at e5
  cases e5
  exact ⟨T, e1, e2, e3⟩
end MW

namespace MW
open PySem PySem.Spec PyProof.Rows L2 Evl

/-! data: its shape, its comparison -/
structure Shp (d : PyData) (n : Nat) : Prop where
  lay : d.canLay0 = true
  dep : d.depth ≤ n
theorem Shp.ok {d : PyData} {n : Nat} (h : Shp d n) (hn : n ≤ 64) : SeqAt.shaped d = true := by
  unfold SeqAt.shaped
  rw [h.lay, Bool.true_and]
  exact decide_eq_true (Nat.le_trans h.dep hn)
theorem Shp.same {d : PyData} {n : Nat} (h : Shp d n) : PyData.eqv d d = true := SeqAt.eqv_refl d h.lay
theorem Shp.mono {d : PyData} {n m : Nat} (h : Shp d n) (l : n ≤ m) : Shp d m := ⟨h.lay, Nat.le_trans h.dep l⟩
theorem shp_none : Shp .none 0 := ⟨rfl, Nat.le_refl _⟩
theorem shp_int {i : Int} : Shp (.int i) 0 := ⟨rfl, Nat.le_refl _⟩
theorem shp_bool {i : Bool} : Shp (.bool i) 0 := ⟨rfl, Nat.le_refl _⟩
theorem shp_str {x : Str} (h : PyData.strOk x = true) : Shp (.str x) 0 := ⟨h, Nat.le_refl _⟩
theorem shp_all {n : Nat} : ∀ {ds : List PyData}, (∀ d ∈ ds, Shp d n) → PyData.canLayAll0 ds = true ∧ PyData.depthAll ds ≤ n
  | [], _ => ⟨rfl, Nat.zero_le _⟩
  | d :: r, h => by
    have h1 := h d List.mem_cons_self
    have h2 := shp_all fun x hx => h x (List.mem_cons_of_mem _ hx)
    refine ⟨?_, ?_⟩
    · unfold PyData.canLayAll0
      rw [h1.lay, h2.1]
      rfl
    · unfold PyData.depthAll
      exact Nat.max_le.mpr ⟨h1.dep, h2.2⟩
theorem shp_list {n : Nat} {ds : List PyData} (h : ∀ d ∈ ds, Shp d n) : Shp (.list ds) (n + 1) := by
  have k := shp_all h
  exact ⟨k.1, Nat.succ_le_succ k.2⟩
theorem shp_tuple {n : Nat} {ds : List PyData} (h : ∀ d ∈ ds, Shp d n) : Shp (.tuple ds) (n + 1) := by
  have k := shp_all h
  exact ⟨k.1, Nat.succ_le_succ k.2⟩
theorem rowS_ok (f : Nat → Bool) (n : Nat) : PyData.strOk (rowS f n) = true := by
  unfold PyData.strOk rowS
  rw [List.all_toArray, List.all_eq_true]
  intro c hc
  rw [List.mem_map] at hc
  obtain ⟨i, _, rfl⟩ := hc
  cases f i <;> decide
theorem shp_cell (c : Int × Int) : Shp (cellD c) 1 := shp_tuple (n := 0) (by
  intro d hd
  rcases List.mem_cons.mp hd with rfl | hd
  · exact shp_int
  · rcases List.mem_cons.mp hd with rfl | hd
    · exact shp_int
    · cases hd)
def gridD (h w : Nat) (f : Nat → Nat → Bool) : PyData := .list ((gridS h w f).map PyData.str)
def cellsD (cs : List (Int × Int)) : PyData := .list (cs.map cellD)
theorem shp_grid (h w : Nat) (f : Nat → Nat → Bool) : Shp (gridD h w f) 1 := shp_list (n := 0) (by
  intro d hd
  rw [List.mem_map] at hd
  obtain ⟨x, hx, rfl⟩ := hd
  unfold gridS at hx
  rw [List.mem_map] at hx
  obtain ⟨r, _, rfl⟩ := hx
  exact shp_str (rowS_ok _ _))
theorem shp_cells (cs : List (Int × Int)) : Shp (cellsD cs) 2 := shp_list (n := 1) (by
  intro d hd
  rw [List.mem_map] at hd
  obtain ⟨c, _, rfl⟩ := hd
  exact shp_cell c)
section
variable {K : PySem.W.Frag} {H H' : Hp}
mutual
theorem dp_ex (e : Ex H H') : ∀ (d : PyData) (v : V), Dp K H v d → Dp K H' v d
  | .none, _, h => by
    cases h
    exact .non
  | .bool b, _, h => by
    cases h
    exact .bl b
  | .int i, _, h => by
    cases h
    exact .int i
  | .str x, _, h => by
    cases h
    exact .str x
  | .list ds, _, h => by
    cases h with
    | lst hs ha => exact .lst (ex_l e hs) (dps_ex e ds _ ha)
  | .tuple ds, _, h => by
    cases h with
    | tup hs ha => exact .tup (ex_t e hs) (dps_ex e ds _ ha)
  | .dict _, _, h => by cases h
theorem dps_ex (e : Ex H H') : ∀ (ds : List PyData) (vs : List V), DpAll K H vs ds → DpAll K H' vs ds
  | [], _, h => by
    cases h
    exact .nil
  | d :: ds, _, h => by
    cases h with
    | cons h1 h2 => exact .cons (dp_ex e d _ h1) (dps_ex e ds _ h2)
end
theorem dp_grid {a : Addr} {h w : Nat} {f : Nat → Nat → Bool} (hS : SqL K H a ((gridS h w f).map V.str)) : Dp K H (.ref a) (gridD h w f) := .lst hS (strs_dp _)
theorem dp_cells {a : Addr} {xs : List V} {cs : List (Int × Int)} (hS : SqL K H a xs) (hc : Cells H xs cs) : Dp K H (.ref a) (cellsD cs) := .lst hS hc.dp
/-- what it gives, as data -/
def EvD (K : PySem.W.Frag) (te : TE) (σ : L2.St) (H : Hp) (d : PyData) : Prop := EvP te σ H fun v H' => Dp K H' v d
variable {σ : L2.St} {ta tb te : TE} {d d' : PyData} {v : V}
theorem evd_of (h : Ev te σ H v) (hd : Dp K H v d) : EvD K te σ H d := Ev.toP h fun H' e => dp_ex e d v hd
theorem evd_lp {P : List V → Hp → Prop} (h : EvLP te σ H P) (hd : ∀ p vs H', H' p = some (.lst vs) → P vs H' → Dp K H' (.ref p) d) : EvD K te σ H d :=
  fun H1 e Q q => h H1 e Q fun p vs H2 _ e2 hp r => q _ H2 e2 (hd p vs H2 hp r)
theorem evd_l {xs : List V} (h : EvL te σ H xs) (hd : ∀ H', Ex H H' → DpAll K H' xs [d']) : True := trivial
theorem ev_neD (ha : EvD K ta σ H d) (hb : EvD K tb σ H d') (s1 : SeqAt.shaped d = true) (s2 : SeqAt.shaped d' = true) : Ev (tOp (rNeD K) ta tb) σ H (.bl (!PyData.eqv d d')) := by
  intro H1 e Q q
  refine ha H1 e _ fun x H2 e2 hx => hb H2 (e.trans e2) _ fun y H3 e3 hy => ?_
  exact ⟨d, d', dp_ex e3 d x hx, hy, s1, s2, q H3 (e2.trans e3)⟩
theorem ev_eqD (ha : EvD K ta σ H d) (hb : EvD K tb σ H d') (s1 : SeqAt.shaped d = true) (s2 : SeqAt.shaped d' = true) : Ev (tOp (rEqD K) ta tb) σ H (.bl (PyData.eqv d d')) := by
  intro H1 e Q q
  refine ha H1 e _ fun x H2 e2 hx => hb H2 (e.trans e2) _ fun y H3 e3 hy => ?_
  exact ⟨d, d', dp_ex e3 d x hx, hy, s1, s2, q H3 (e2.trans e3)⟩
theorem ev_neSame {n : Nat} (ha : EvD K ta σ H d) (hb : EvD K tb σ H d) (s : Shp d n) (hn : n ≤ 64) : Ev (tOp (rNeD K) ta tb) σ H (.bl false) := by
  have h := ev_neD ha hb (s.ok hn) (s.ok hn)
  rw [s.same] at h
  exact h
theorem ev_eqSame {n : Nat} (ha : EvD K ta σ H d) (hb : EvD K tb σ H d) (s : Shp d n) (hn : n ≤ 64) : Ev (tOp (rEqD K) ta tb) σ H (.bl true) := by
  have h := ev_eqD ha hb (s.ok hn) (s.ok hn)
  rw [s.same] at h
  exact h
/-- a display as data -/
inductive EvDs (K : PySem.W.Frag) (σ : L2.St) (H : Hp) : TA → List PyData → Prop where
  | nil : EvDs K σ H tNil []
  | cons {te : TE} {ta : TA} {d : PyData} {ds : List PyData} : EvD K te σ H d → EvDs K σ H ta ds → EvDs K σ H (tCons te ta) (d :: ds)
theorem EvDs.go : ∀ {ta : TA} {ds : List PyData}, EvDs K σ H ta ds → ∀ H1, Ex H H1 → ∀ Q : List V → Hp → Prop, (∀ vs H2, Ex H1 H2 → DpAll K H2 vs ds → Q vs H2) → ta σ H1 Q
  | _, _, .nil, H1, e, Q, q => q [] H1 (Ex.refl H1) .nil
  | _, _, .cons h t, H1, e, Q, q => h H1 e _ fun v H2 e2 hv => t.go H2 (e.trans e2) _ fun vs H3 e3 hvs => q (v :: vs) H3 (e2.trans e3) (.cons (dp_ex e3 _ v hv) hvs)
theorem dps_len : ∀ {ds : List PyData} {vs : List V}, DpAll K H vs ds → vs.length = ds.length
  | [], _, h => by
    cases h
    rfl
  | _ :: ds, _, h => by
    cases h with
    | cons h1 h2 => exact congrArg (· + 1) (dps_len h2)
theorem evd_lst {ta : TA} {ds : List PyData} (h : EvDs K σ H ta ds) (hl : ds.length ≤ 100000) : EvD K (tLst ta) σ H (.list ds) := by
  intro H1 e Q q
  refine h.go H1 e _ fun vs H2 e2 hvs => ⟨sz_of (by rw [dps_len hvs]; exact hl), fun p np => ?_⟩
  exact q _ _ (e2.trans (Ex.new np)) (.lst (sq_of upd_same) (dps_ex (Ex.new np) _ _ hvs))
theorem evd_tup {ta : TA} {ds : List PyData} (h : EvDs K σ H ta ds) (hl : ds.length ≤ 100000) : EvD K (tTup ta) σ H (.tuple ds) := by
  intro H1 e Q q
  refine h.go H1 e _ fun vs H2 e2 hvs => ⟨sz_of (by rw [dps_len hvs]; exact hl), fun p np => ?_⟩
  exact q _ _ (e2.trans (Ex.new np)) (.tup (st_of upd_same) (dps_ex (Ex.new np) _ _ hvs))
theorem evd_int {i : Int} (h : Ev te σ H (.int i)) : EvD K te σ H (.int i) := Ev.toP h fun _ _ => .int i
theorem evd_str {i : Str} (h : Ev te σ H (.str i)) : EvD K te σ H (.str i) := Ev.toP h fun _ _ => .str i
theorem evd_bl {i : Bool} (h : Ev te σ H (.bl i)) : EvD K te σ H (.bool i) := Ev.toP h fun _ _ => .bl i
/-- all([..]), any([..]) -/
theorem ev_all {bs : List Bool} (h : EvLP te σ H fun vs _ => vs = bs.map V.bl) : Ev (tCB (rAll K) (tCons te tNil)) σ H (.bl (bs.all id)) := fun H1 e Q q =>
  h H1 e _ fun p vs H2 _ e2 hp hv => ⟨p, bs, rfl, by rw [← hv]; exact sq_of hp, q H2 e2⟩
theorem ev_any {bs : List Bool} (h : EvLP te σ H fun vs _ => vs = bs.map V.bl) : Ev (tCB (rAny K) (tCons te tNil)) σ H (.bl (bs.any id)) := fun H1 e Q q =>
  h H1 e _ fun p vs H2 _ e2 hp hv => ⟨p, bs, rfl, by rw [← hv]; exact sq_of hp, q H2 e2⟩
/-- xs + [..] -/
theorem evlp_cat {l : Addr} {xs : List V} {P : List V → Hp → Prop} (ha : Ev ta σ H (.ref l)) (hl : H l = some (.lst xs)) (hb : EvLP tb σ H P) (hz : ∀ ys H', P ys H' → xs.length + ys.length ≤ 100000) (hm : ∀ ys H' H'', Ex H' H'' → P ys H' → P ys H'') :
    EvLP (tOp rCat ta tb) σ H (fun zs H' => ∃ ys, zs = xs ++ ys ∧ P ys H') := by
  intro H1 e Q q
  refine ha H1 e _ fun H2 e2 => hb H2 (e.trans e2) _ fun b ys H3 nb e3 hys p => ?_
  refine ⟨l, b, xs, ys, rfl, rfl, e3 _ _ (e2 _ _ (e _ _ hl)), hys, sz_of (hz ys H3 p), fun r nr => ?_⟩
  exact q r _ _ (fresh_back (e2.trans e3) nr) ((e2.trans e3).trans (Ex.new nr)) upd_same ⟨ys, rfl, hm ys _ _ (Ex.new nr) p⟩
/-- list(xs) -/
theorem el_listOf {a : Addr} {xs : List V} (ha : Ev ta σ H (.ref a)) (hx : SqL K H a xs) : EvL (tCB (fun xs H Q => ∃ p ys, xs = [.ref p] ∧ (SqL K H p ys ∨ SqT K H p ys) ∧ ∀ l, H l = none → Q (.ref l) (upd H l (.lst ys))) (tCons ta tNil)) σ H xs :=
  fun H1 e Q q => ha H1 e _ fun H2 e2 => ⟨a, xs, rfl, .inl (ex_l (e.trans e2) hx), fun l nl => q l _ (fresh_back e2 nl) (e2.trans (Ex.new nl)) upd_same⟩

/-- a call upon one new list -/
theorem evlp_call1L {sp : Sp} {E : XK} {xs : List V} {P : List V → Hp → Prop} (h : EvL te σ H xs)
    (hs : ∀ a H1, Ex H H1 → H1 a = some (.lst xs) → ∀ Q : VK, (∀ p vs H2, H1 p = none → Ex H1 H2 → H2 p = some (.lst vs) → P vs H2 → Q (.ref p) H2) → sp [.ref a] H1 Q E) : EvLP (tCall sp [] E (tCons te tNil)) σ H P :=
  fun H1 e Q q => h H1 e _ fun a H2 _ e2 ha => hs a H2 (e.trans e2) ha Q fun p vs H3 np e3 hp r => q p vs H3 (fresh_back e2 np) (e2.trans e3) hp r
variable {D : Ends} {tz tu : TS}
/-- for x in (a, b, ..): a new tuple -/
theorem s_forNT {xs : List V} {tl : TE} {j : Nat} (h : EvU tl σ H xs) (Pv : Addr → Nat → L2.St → Hp → Prop) (h0 : ∀ p H1, H p = none → Ex H H1 → H1 p = some (.tup xs) → Pv p 0 σ H1)
    (hl : ∀ p i σ' H', i ≤ xs.length → Pv p i σ' H' → SqT K H' p xs)
    (hs : ∀ p i x σ' H', xs[i]? = some x → Pv p i σ' H' → tu { D with nx := Pv p (i + 1), ct := Pv p (i + 1), bk := D.nx } (σ'.set j (some x)) H') (hd : ∀ p σ' H', Pv p xs.length σ' H' → D.nx σ' H') : tFor (iTup K tl) (gName j) tu D σ H :=
  h H (Ex.refl H) _ fun p H1 hp e h1 => ⟨p, rfl, ⟨xs, st_of h1⟩, for_tup (Pv p) (h0 p H1 hp e h1) (hl p) (hs p) (hd p)⟩
theorem q_forNT {xs : List V} {tl : TE} {j : Nat} (h : EvU tl σ H xs) (Pv : Addr → Nat → L2.St → Hp → Prop) (h0 : ∀ p H1, H p = none → Ex H H1 → H1 p = some (.tup xs) → Pv p 0 σ H1)
    (hl : ∀ p i σ' H', i ≤ xs.length → Pv p i σ' H' → SqT K H' p xs)
    (hs : ∀ p i x σ' H', xs[i]? = some x → Pv p i σ' H' → tu { D with nx := Pv p (i + 1), ct := Pv p (i + 1), bk := tz D } (σ'.set j (some x)) H') (hd : ∀ p σ' H', Pv p xs.length σ' H' → tz D σ' H') : tSeq (tFor (iTup K tl) (gName j) tu) tz D σ H :=
  s_forNT (D := { D with nx := tz D }) h Pv h0 hl hs hd
/-- xs[:63] -/
theorem cut63 (ns : List Int) : cutV (ns.map V.int) none (some 63) = (ns.take 63).map V.int := by
  unfold cutV
  rw [HT.sIx_none, show HT.sIx (ns.map V.int).length (ns.map V.int).length (some 63) = min 63 (ns.map V.int).length from HT.sIx_nat _ _ 63, List.drop_zero, Nat.sub_zero, List.map_take]
  rcases Nat.le_total (ns.map V.int).length 63 with h | h
  · rw [Nat.min_eq_right h, List.take_of_length_le (Nat.le_refl _), List.take_of_length_le h]
  · rw [Nat.min_eq_left h]

/-- a call upon a new list and a new tuple -/
theorem evlp_call2LU {sp : Sp} {E : XK} {xs ys : List V} {P : List V → Hp → Prop} {te2 : TE} (h : EvL te σ H xs) (h2 : EvU te2 σ H ys)
    (hs : ∀ a t H1, Ex H H1 → H1 a = some (.lst xs) → H1 t = some (.tup ys) → ∀ Q : VK, (∀ p vs H2, H1 p = none → Ex H1 H2 → H2 p = some (.lst vs) → P vs H2 → Q (.ref p) H2) → sp [.ref a, .ref t] H1 Q E) : EvLP (tCall sp [] E (tCons te (tCons te2 tNil))) σ H P :=
  fun H1 e Q q => h H1 e _ fun a H2 _ e2 ha => h2 H2 (e.trans e2) _ fun t H3 _ e3 ht => hs a t H3 ((e.trans e2).trans e3) (e3 _ _ ha) ht Q fun p vs H4 np e4 hp r => q p vs H4 (fresh_back (e2.trans e3) np) ((e2.trans e3).trans e4) hp r
/-- a display of cells -/
def EvCs (ta : TA) (σ : L2.St) (H : Hp) (cs : List (Int × Int)) : Prop := ∀ H1, Ex H H1 → ∀ Q : List V → Hp → Prop, (∀ vs H2, Ex H1 H2 → Cells H2 vs cs → Q vs H2) → ta σ H1 Q
theorem evcs_nil : EvCs tNil σ H [] := fun H1 _ Q q => q [] H1 (Ex.refl H1) .nil
theorem evcs_cons {ta : TA} {a b : Int} {cs : List (Int × Int)} (h : EvU te σ H [.int a, .int b]) (t : EvCs ta σ H cs) : EvCs (tCons te ta) σ H ((a, b) :: cs) := fun H1 e Q q =>
  h H1 e _ fun p H2 _ e2 hp => t H2 (e.trans e2) _ fun vs H3 e3 hc => q _ H3 (e2.trans e3) (.cons ⟨p, rfl, e3 _ _ hp⟩ hc)
theorem evlp_cells {ta : TA} {cs : List (Int × Int)} (h : EvCs ta σ H cs) (hl : cs.length ≤ 100000) : EvLP (tLst ta) σ H fun xs H' => Cells H' xs cs := fun H1 e Q q =>
  h H1 e _ fun vs H2 e2 hc => ⟨sz_of (by rw [hc.len]; exact hl), fun p np => q p vs _ (fresh_back e2 np) (e2.trans (Ex.new np)) upd_same (hc.keep (ext_new np))⟩
theorem cell_at {H : Hp} : ∀ {vs : List V} {cs : List (Int × Int)} {i : Nat} {v : V}, Cells H vs cs → vs[i]? = some v → ∃ c, cs[i]? = some c ∧ CellV H v c
  | _, _, _, _, .nil, e => by simp at e
  | _, _, 0, _, .cons (a := _) (b := _) r _, e => by
    simp only [List.getElem?_cons_zero, Option.some.injEq] at e
    subst e
    exact ⟨_, rfl, r⟩
  | _ :: xs, _ :: ys, i + 1, v, .cons r t, e => by
    simp only [List.getElem?_cons_succ] at e
    exact cell_at (vs := xs) (cs := ys) t e

/-- a call upon one new list, by what is true of it -/
theorem evlp_callLP {sp : Sp} {E : XK} {P0 P : List V → Hp → Prop} (h : EvLP te σ H P0)
    (hs : ∀ a xs H1, Ex H H1 → H1 a = some (.lst xs) → P0 xs H1 → ∀ Q : VK, (∀ p vs H2, H1 p = none → Ex H1 H2 → H2 p = some (.lst vs) → P vs H2 → Q (.ref p) H2) → sp [.ref a] H1 Q E) : EvLP (tCall sp [] E (tCons te tNil)) σ H P :=
  fun H1 e Q q => h H1 e _ fun a xs H2 _ e2 ha p0 => hs a xs H2 (e.trans e2) ha p0 Q fun p vs H3 np e3 hp r => q p vs H3 (fresh_back e2 np) (e2.trans e3) hp r
/-- a, b = two new lists -/
theorem q_asg2 {te1 te2 : TE} {i j : Nat} {P1 P2 : List V → Hp → Prop} (h1 : EvLP te1 σ H P1) (h2 : EvLP te2 σ H P2) (m1 : ∀ xs H' H'', Ex H' H'' → P1 xs H' → P1 xs H'') (m2 : ∀ xs H' H'', Ex H' H'' → P2 xs H' → P2 xs H'')
    (k : ∀ p xs r ys H1, H p = none → H r = none → p ≠ r → Ex H H1 → H1 p = some (.lst xs) → P1 xs H1 → H1 r = some (.lst ys) → P2 ys H1 → tz D ((σ.set i (some (.ref p))).set j (some (.ref r))) H1) :
    tSeq (tAsg (tTup (tCons te1 (tCons te2 tNil))) (gTup K 2 (gCons (gName i) (gCons (gName j) gNil)))) tz D σ H := by
  refine h1 H (Ex.refl H) _ fun p xs H2 np e2 hp p1 => h2 H2 e2 _ fun r ys H3 nr e3 hr p2 => ?_
  refine ⟨Nat.le_of_ble_eq_true rfl, fun t nt => ?_⟩
  have en : Ex H3 (upd H3 t (.tup [.ref p, .ref r])) := Ex.new nt
  exact g_pairT (st_of upd_same) (k p xs r ys _ np (fresh_back e2 nr) (ne_of_none hp nr) ((e2.trans e3).trans en) (en _ _ (e3 _ _ hp)) (m1 _ _ _ (e3.trans en) p1) (en _ _ hr) (m2 _ _ _ en p2))
/-- a, b, c = a new list and two values -/
theorem q_asg3 {te1 te2 te3 : TE} {i j l : Nat} {P1 : List V → Hp → Prop} {x y : V} (h1 : EvLP te1 σ H P1) (h2 : Ev te2 σ H x) (h3 : Ev te3 σ H y) (m1 : ∀ xs H' H'', Ex H' H'' → P1 xs H' → P1 xs H'')
    (k : ∀ p xs H1, H p = none → Ex H H1 → H1 p = some (.lst xs) → P1 xs H1 → tz D (((σ.set i (some (.ref p))).set j (some x)).set l (some y)) H1) :
    tSeq (tAsg (tTup (tCons te1 (tCons te2 (tCons te3 tNil)))) (gTup K 3 (gCons (gName i) (gCons (gName j) (gCons (gName l) gNil))))) tz D σ H := by
  refine h1 H (Ex.refl H) _ fun p xs H2 np e2 hp p1 => h2 H2 e2 _ fun H3 e3 => h3 H3 (e2.trans e3) _ fun H4 e4 => ?_
  refine ⟨Nat.le_of_ble_eq_true rfl, fun t nt => ?_⟩
  have en : Ex H4 (upd H4 t (.tup [.ref p, x, y])) := Ex.new nt
  refine ⟨t, [.ref p, x, y], rfl, st_of upd_same, rfl, _, _, rfl, _, _, rfl, _, _, rfl, rfl, ?_⟩
  have e24 := (e3.trans e4).trans en
  exact k p xs _ np (e2.trans e24) (e24 _ _ hp) (m1 _ _ _ e24 p1)

/-- sep.join([..]) -/
theorem ev_join1 {to : TE} {a : Str} {ys : List Str} (ho : Ev to σ H (.str a)) (h : EvLP te σ H fun vs _ => vs = ys.map V.str) (hz : (ys.map (·.length)).sum + ys.length * a.length ≤ 16777216) :
    Ev (tM1 (fun x xs H Q => ∃ a p, ∃ ys : List Str, x = .str a ∧ xs = [.ref p] ∧ (SqL K H p (ys.map V.str) ∨ SqT K H p (ys.map V.str)) ∧ (ys.map (·.length)).sum + ys.length * a.length ≤ 16777216 ∧ Q (.str (Txt.join a ys)) H) to te) σ H (.str (Txt.join a ys)) := by
  intro H1 e Q q
  refine ho H1 e _ fun H2 e2 => ⟨⟨a, rfl⟩, h H2 (e.trans e2) _ fun p vs H3 np e3 hp hv => ?_⟩
  exact ⟨a, p, ys, rfl, rfl, .inl (sq_of (hv ▸ hp)), hz, q H3 (e2.trans e3)⟩
theorem it_rev {a : Addr} {xs : List V} {ta : TA} (h : EvA ta σ H [.ref a]) (hx : SqL K H a xs) : Iter (iRev K ta) σ H (Itv K a xs.length) := fun H1 e R q =>
  h H1 e _ fun H2 e2 => ⟨a, xs, rfl, ex_l (e.trans e2) hx, q H2 e2⟩

/-- a call upon two new lists -/
theorem evlp_call2LP {te2 : TE} {sp : Sp} {E : XK} {P1 P2 P : List V → Hp → Prop} (h1 : EvLP te σ H P1) (h2 : EvLP te2 σ H P2) (m1 : ∀ xs H' H'', Ex H' H'' → P1 xs H' → P1 xs H'')
    (hs : ∀ a xs b ys H1, Ex H H1 → H1 a = some (.lst xs) → P1 xs H1 → H1 b = some (.lst ys) → P2 ys H1 → ∀ Q : VK, (∀ p vs H2, H1 p = none → Ex H1 H2 → H2 p = some (.lst vs) → P vs H2 → Q (.ref p) H2) → sp [.ref a, .ref b] H1 Q E) :
    EvLP (tCall sp [] E (tCons te (tCons te2 tNil))) σ H P :=
  fun H1 e Q q => h1 H1 e _ fun a xs H2 _ e2 ha p1 => h2 H2 (e.trans e2) _ fun b ys H3 _ e3 hb p2 =>
    hs a xs b ys H3 ((e.trans e2).trans e3) (e3 _ _ ha) (m1 _ _ _ e3 p1) hb p2 Q fun p vs H4 np e4 hp r => q p vs H4 (fresh_back (e2.trans e3) np) ((e2.trans e3).trans e4) hp r
/-- [..][i] -/
theorem ev_ixLP {i : Int} {P : List V → Hp → Prop} (h : EvLP te σ H P) (hi : Ev tb σ H (.int i)) (hat : ∀ vs H', P vs H' → atI vs i = some v) : Ev (tOp (rIxL K) te tb) σ H v := fun H1 e Q q =>
  h H1 e _ fun p vs H2 _ e2 hp r => hi H2 (e.trans e2) _ fun H3 e3 => ⟨p, vs, i, v, rfl, rfl, sq_of (e3 _ _ hp), hat vs H2 r, q H3 (e2.trans e3)⟩
/-- a = [two new lists] -/
theorem q_asgL2 {te1 te2 : TE} {i : Nat} {P1 P2 : List V → Hp → Prop} (h1 : EvLP te1 σ H P1) (h2 : EvLP te2 σ H P2) (m1 : ∀ xs H' H'', Ex H' H'' → P1 xs H' → P1 xs H'') (m2 : ∀ xs H' H'', Ex H' H'' → P2 xs H' → P2 xs H'')
    (k : ∀ t p xs r ys H1, H t = none → H p = none → H r = none → p ≠ r → Ex H H1 → H1 t = some (.lst [.ref p, .ref r]) → H1 p = some (.lst xs) → P1 xs H1 → H1 r = some (.lst ys) → P2 ys H1 → tz D (σ.set i (some (.ref t))) H1) :
    tSeq (tAsg (tLst (tCons te1 (tCons te2 tNil))) (gName i)) tz D σ H := by
  refine h1 H (Ex.refl H) _ fun p xs H2 np e2 hp p1 => h2 H2 e2 _ fun r ys H3 nr e3 hr p2 => ?_
  refine ⟨Nat.le_of_ble_eq_true rfl, fun t nt => ?_⟩
  have en : Ex H3 (upd H3 t (.lst [.ref p, .ref r])) := Ex.new nt
  exact k t p xs r ys _ (fresh_back (e2.trans e3) nt) np (fresh_back e2 nr) (ne_of_none hp nr) ((e2.trans e3).trans en) upd_same (en _ _ (e3 _ _ hp)) (m1 _ _ _ (e3.trans en) p1) (en _ _ hr) (m2 _ _ _ en p2)
/-- xs * n -/
theorem el_rep {l : Addr} {xs : List V} {n : Int} (ha : Ev ta σ H (.ref l)) (hl : H l = some (.lst xs)) (hb : Ev tb σ H (.int n)) (h0 : 0 ≤ n) (h1 : n ≤ 1000) (hz : xs.length * n.toNat ≤ 100000) : EvL (tOp rRep ta tb) σ H (List.replicate n.toNat xs).flatten := by
  intro H1 e Q q
  refine ha H1 e _ fun H2 e2 => hb H2 (e.trans e2) _ fun H3 e3 => ?_
  exact ⟨l, n, xs, rfl, rfl, (e2.trans e3) _ _ (e _ _ hl), by omega, by omega, sz_of hz, fun p np => q p _ (fresh_back (e2.trans e3) np) ((e2.trans e3).trans (Ex.new np)) upd_same⟩
/-- [..][lo:hi] of a new list -/
theorem el_slL {tl th : TO} {xs : List V} {lo hi : Option Int} (h : EvL te σ H xs) (h1 : EvO tl σ H lo) (h2 : EvO th σ H hi) : EvL (tSl (rSlL K) te tl th) σ H (cutV xs lo hi) := fun H1 e Q q =>
  h H1 e _ fun a H2 na e2 ha => h1 H2 (e.trans e2) _ fun H3 e3 => h2 H3 ((e.trans e2).trans e3) _ fun H4 e4 =>
    ⟨a, xs, rfl, sq_of ((e3.trans e4) _ _ ha), fun p hp => q p _ (fresh_back ((e2.trans e3).trans e4) hp) (((e2.trans e3).trans e4).trans (Ex.new hp)) upd_same⟩
theorem it_zip {a b : Addr} {xs ys : List V} {ta : TA} (h : EvA ta σ H [.ref a, .ref b]) (hx : SqL K H a xs) (hy : SqL K H b ys) : Iter (iZip K ta) σ H (Itz K a b) := fun H1 e R q =>
  h H1 e _ fun H2 e2 => ⟨a, b, xs, ys, rfl, ex_l (e.trans e2) hx, ex_l (e.trans e2) hy, q H2 e2⟩
end
end MW

namespace MW
open PySem PySem.Spec PyProof.Rows L2 Evl
/-! comprehensions whose target is a pair of names -/
section
variable {X : Cx} {elt iter : Expr} {ifs : List Expr} {scope : Scope} {own : List (Str × Nat)} {pos p1 p2 tpos : Pos} {kk : Nat} {x y : Str} {i j : Nat} {wi : TI} {tt : TT} {te : TE}
theorem pg_pairB (hc : X.calm = true) (hN : X.N.Nodup) (hx : X.N[i]? = some x) (hy : X.N[j]? = some y) (lx : (relS scope X.env.scope).names.lookup x = some .local) (ly : (relS scope X.env.scope).names.lookup y = some .local)
    (s : Shared) (H : Hp) (C : Addr) (cl : List (Str × Addr)) (fp : List Addr) :
    PG (X.blk s H scope (compEnvC scope cl C X.env) fp) (.Tuple [.Name x p1, .Name y p2] kk tpos) (gTup X.K 2 (gCons (gName i) (gCons (gName j) gNil))) := by
  refine pg_tup (X := X.blk s H scope (compEnvC scope cl C X.env) fp) hc ?_
  refine pgs_cons (pg_name hN hx (Or.inl lx) (hf := Or.inr lx)) ?_
  exact pgs_cons (pg_name hN hy (Or.inl ly) (hf := Or.inr ly)) pgs_nil
theorem pe_lcP (hc : X.calm = true) (hN : X.N.Nodup) (hi : PI X (.Tuple [.Name x p1, .Name y p2] kk tpos) iter wi) (ok : BlkOk X.N X.env.scope scope own)
    (hx : X.N[i]? = some x) (hy : X.N[j]? = some y) (lx : (relS scope X.env.scope).names.lookup x = some .local) (ly : (relS scope X.env.scope).names.lookup y = some .local)
    (ht : ∀ (s : Shared) (H : Hp) (C : Addr) (cl : List (Str × Addr)) (fp : List Addr), PTs (X.blk s H scope (compEnvC scope cl C X.env) fp) ifs tt)
    (he : ∀ (s : Shared) (H : Hp) (C : Addr) (cl : List (Str × Addr)) (fp : List Addr), PE (X.blk s H scope (compEnvC scope cl C X.env) fp) elt te) (hs : ∀ x, foldedSetIterable iter X.env x = pure x := by intro _; rfl) :
    PE X (.ListComp elt [⟨.Tuple [.Name x p1, .Name y p2] kk tpos, iter, ifs, 0⟩] scope pos) (tLc wi (gTup X.K 2 (gCons (gName i) (gCons (gName j) gNil))) tt te (own.map (·.2))) :=
  pe_lc hc hN hi ok (pg_pairB hc hN hx hy lx ly) ht he hs
theorem ps_setLcP {k : Nat} {z : Str} {pz spos : Pos} (hc : X.calm = true) (hN : X.N.Nodup) (hz : X.N[k]? = some z) (hzl : X.env.scope.names.lookup z = some .local)
    (hsw : swapsWith (.ListComp elt [⟨.Tuple [.Name x p1, .Name y p2] kk tpos, iter, ifs, 0⟩] scope pos) (some (.Name z pz)) spos.line X.env = pure true)
    (hi : PI X (.Tuple [.Name x p1, .Name y p2] kk tpos) iter wi) (ok : BlkOk X.N X.env.scope scope own)
    (hx : X.N[i]? = some x) (hy : X.N[j]? = some y) (lx : (relS scope X.env.scope).names.lookup x = some .local) (ly : (relS scope X.env.scope).names.lookup y = some .local)
    (ht : ∀ (s : Shared) (H : Hp) (C : Addr) (cl : List (Str × Addr)) (fp : List Addr), PTs (X.blk s H scope (compEnvC scope cl C X.env) fp) ifs tt)
    (he : ∀ (s : Shared) (H : Hp) (C : Addr) (cl : List (Str × Addr)) (fp : List Addr), PE (X.blk s H scope (compEnvC scope cl C X.env) fp) elt te) (hs : ∀ x, foldedSetIterable iter X.env x = pure x := by intro _; rfl) :
    PS X (.Assign [.Name z pz] (.ListComp elt [⟨.Tuple [.Name x p1, .Name y p2] kk tpos, iter, ifs, 0⟩] scope pos) spos) (tAsg (tLc wi (gTup X.K 2 (gCons (gName i) (gCons (gName j) gNil))) tt te (own.map (·.2))) (gName k)) :=
  ps_setLc hc hN hz hzl hsw hi ok (pg_pairB hc hN hx hy lx ly) ht he hs
/-! rules whose readings name the written part, that part said by name -/
variable {K : PySem.W.Frag}
theorem ix_listK (h : X.K = K) : IxR X (rIxL K) := h ▸ ix_list
theorem ix_tupK (h : X.K = K) : IxR X (rIxT K) := h ▸ ix_tup
theorem sl_listK (h : X.K = K) : SlR X (rSlL K) := h ▸ sl_list
theorem sl_tupK (h : X.K = K) : SlR X (rSlT K) := h ▸ sl_tup
theorem call_isiK (h : X.K = K) : CallR X (.builtin "isinstance") (rIsi K) := h ▸ call_isi
def rLen (K : PySem.W.Frag) : List V → Hp → VK → Prop := fun xs H Q => ∃ p ys, xs = [.ref p] ∧ (SqL K H p ys ∨ SqT K H p ys) ∧ Q (.int ys.length) H
theorem call_lenK (h : X.K = K) : CallR X (.builtin "len") (rLen K) := h ▸ call_len_seq
def rListOf (K : PySem.W.Frag) : List V → Hp → VK → Prop := fun xs H Q => ∃ p ys, xs = [.ref p] ∧ (SqL K H p ys ∨ SqT K H p ys) ∧ ∀ l, H l = none → Q (.ref l) (upd H l (.lst ys))
theorem call_listK (h : X.K = K) : CallR X (.type "list") (rListOf K) := h ▸ call_list_of
theorem cr_allK (h : X.K = K) (hc : X.calm = true) : CallR X (.builtin "all") (rAll K) := h ▸ cr_all hc
theorem cr_anyK (h : X.K = K) (hc : X.calm = true) : CallR X (.builtin "any") (rAny K) := h ▸ cr_any hc
theorem op_inK (h : X.K = K) : OpR X (compareOp .In) (rIn K false) := h ▸ op_in_seq
theorem op_notInK (h : X.K = K) : OpR X (compareOp .NotIn) (rIn K true) := h ▸ op_notIn_seq
theorem op_eqDK (h : X.K = K) (hu : X.A.units + 64 < cLine) : OpR X (compareOp .Eq) (rEqD K) := h ▸ op_eqD hu
theorem op_neDK (h : X.K = K) (hu : X.A.units + 64 < cLine) : OpR X (compareOp .NotEq) (rNeD K) := h ▸ op_neD hu
theorem op_catTK (h : X.K = K) : OpR X (binaryOp .Add) (rCatT K) := h ▸ op_catT
theorem pi_listK {tg l : Expr} {tl : TE} (h : X.K = K) (hl : PE X l tl) : PI X tg l (iList K tl) := h ▸ pi_list hl
theorem pi_tupK {tg l : Expr} {tl : TE} (h : X.K = K) (hl : PE X l tl) : PI X tg l (iTup K tl) := h ▸ pi_tup hl
end
end MW

namespace MW
open PySem PySem.Spec PyProof.Rows L2 Evl
/-! parts of texts and lists -/
theorem cutV_to {xs : List V} {r : Nat} : cutV xs none (some (r : Int)) = xs.take r := by
  unfold cutV
  rw [HT.sIx_none, HT.sIx_nat, List.drop_zero, Nat.sub_zero]
  rcases Nat.le_total xs.length r with h | h
  · rw [Nat.min_eq_right h, List.take_of_length_le (Nat.le_refl _), List.take_of_length_le h]
  · rw [Nat.min_eq_left h]
theorem cutV_from {xs : List V} {r : Nat} : cutV xs (some (r : Int)) none = xs.drop r := by
  unfold cutV
  rw [HT.sIx_none, HT.sIx_nat]
  rcases Nat.le_total xs.length r with h | h
  · rw [Nat.min_eq_right h, List.drop_of_length_le (Nat.le_refl _), List.drop_of_length_le h]
    exact List.take_nil
  · rw [Nat.min_eq_left h]
    exact List.take_of_length_le (by rw [List.length_drop]; exact Nat.le_refl _)
theorem cutS_to {z : Str} {r : Nat} : cutS z none (some (r : Int)) = ⟨(z.cps.toList.take r).toArray⟩ := by
  unfold cutS
  rw [HT.sIx_none, HT.sIx_nat, List.drop_zero, Nat.sub_zero]
  congr 2
  have hl : z.length = z.cps.toList.length := rfl
  rw [hl]
  rcases Nat.le_total z.cps.toList.length r with h | h
  · rw [Nat.min_eq_right h, List.take_of_length_le (Nat.le_refl _), List.take_of_length_le h]
  · rw [Nat.min_eq_left h]
theorem cutS_from {z : Str} {r : Nat} : cutS z (some (r : Int)) none = ⟨(z.cps.toList.drop r).toArray⟩ := by
  unfold cutS
  rw [HT.sIx_none, HT.sIx_nat]
  congr 2
  have hl : z.length = z.cps.toList.length := rfl
  rw [hl]
  rcases Nat.le_total z.cps.toList.length r with h | h
  · rw [Nat.min_eq_right h, List.drop_of_length_le (Nat.le_refl _), List.drop_of_length_le h]
    exact List.take_nil
  · rw [Nat.min_eq_left h]
    exact List.take_of_length_le (by rw [List.length_drop]; exact Nat.le_refl _)
theorem set_cut {α : Type} {xs : List α} {r : Nat} {y : α} (h : r < xs.length) : xs.take r ++ [y] ++ xs.drop (r + 1) = xs.set r y := by
  rw [List.set_eq_take_append_cons_drop, if_pos h, List.append_assoc]
  rfl
/-- one sign the other one -/
def flipR (f : Nat → Bool) (c : Nat) : Nat → Bool := fun j => if j = c then !f j else f j
def flipF (f : Nat → Nat → Bool) (r c : Nat) : Nat → Nat → Bool := fun i => if i = r then flipR (f i) c else f i
theorem range_set {α : Type} {n c : Nat} (g g' : Nat → α) (hc : ∀ j, j ≠ c → g' j = g j) : ((List.range n).map g).set c (g' c) = (List.range n).map g' := by
  apply List.ext_getElem?
  intro i
  by_cases hi : i < n
  · by_cases e : c = i
    · subst e
      rw [List.getElem?_set_self (by rw [List.length_map, List.length_range]; exact hi), List.getElem?_map, List.getElem?_range hi]
      rfl
    · rw [List.getElem?_set_ne e, List.getElem?_map, List.getElem?_map, List.getElem?_range hi]
      show some (g i) = some (g' i)
      rw [hc i (fun z => e z.symm)]
  · rw [List.getElem?_eq_none (by rw [List.length_set, List.length_map, List.length_range]; omega), List.getElem?_eq_none (by rw [List.length_map, List.length_range]; omega)]
theorem app_mk (a b : List Nat) : (⟨a.toArray⟩ : Str) ++ ⟨b.toArray⟩ = ⟨(a ++ b).toArray⟩ := by
  show Str.mk (_ ++ _) = _
  rw [List.append_toArray]
theorem flip_row {f : Nat → Bool} {n c : Nat} (h : c < n) : cutS (rowS f n) none (some (c : Int)) ++ signS (!f c) ++ cutS (rowS f n) (some ((c : Int) + 1)) none = rowS (flipR f c) n := by
  have e1 : ((c : Int) + 1) = ((c + 1 : Nat) : Int) := rfl
  rw [e1, cutS_to, cutS_from]
  show (⟨_⟩ ++ (⟨[signN (!f c)].toArray⟩ : Str)) ++ ⟨_⟩ = _
  rw [app_mk, app_mk]
  unfold rowS
  congr 2
  rw [List.toList_toArray, set_cut (by rw [List.length_map, List.length_range]; exact h)]
  have e2 : signN (!f c) = (fun i => signN (flipR f c i)) c := by
    show _ = signN (flipR f c c)
    unfold flipR
    rw [if_pos rfl]
  rw [e2]
  refine range_set (fun i => signN (f i)) (fun i => signN (flipR f c i)) ?_
  intro j hj
  show signN (flipR f c j) = _
  unfold flipR
  rw [if_neg hj]
theorem flip_set {f : Nat → Nat → Bool} {h w r c : Nat} : (gridS h w f).set r (rowS (flipR (f r) c) w) = gridS h w (flipF f r c) := by
  unfold gridS
  have e2 : rowS (flipR (f r) c) w = (fun i => rowS (flipF f r c i) w) r := by
    show _ = rowS (flipF f r c r) w
    unfold flipF
    rw [if_pos rfl]
  rw [e2]
  refine range_set (fun i => rowS (f i) w) (fun i => rowS (flipF f r c i) w) ?_
  intro j hj
  show rowS (flipF f r c j) w = _
  unfold flipF
  rw [if_neg hj]
theorem flip_flip {f : Nat → Nat → Bool} {r c : Nat} : flipF (flipF f r c) r c = f := by
  funext i j
  unfold flipF
  by_cases hi : i = r
  · rw [if_pos hi, if_pos hi]
    unfold flipR
    by_cases hj : j = c
    · rw [if_pos hj, if_pos hj]
      exact Bool.not_not _
    · rw [if_neg hj, if_neg hj]
  · rw [if_neg hi, if_neg hi]
theorem sign_ix {f : Nat → Bool} {n : Nat} {c : Int} (h0 : 0 ≤ c) (h1 : c < n) : atI (rowS f n).cps.toList c = some (signN (f c.toNat)) := by
  have hc : ((c.toNat : Nat) : Int) = c := by omega
  have e : (rowS f n).cps.toList[c.toNat]? = some (signN (f c.toNat)) := by
    unfold rowS
    rw [List.toList_toArray, List.getElem?_map, List.getElem?_range (by omega)]
    rfl
  have k := atI_nat e
  rw [hc] at k
  exact k
section
variable {K : PySem.W.Frag} {σ : L2.St} {H : Hp} {ta tb te : TE} {tl th : TO}
theorem ev_slS {z : Str} {lo hi : Option Int} (h : Ev te σ H (.str z)) (h1 : EvO tl σ H lo) (h2 : EvO th σ H hi) (hz : z.length ≤ 100000) : Ev (tSl rSlS te tl th) σ H (.str (cutS z lo hi)) := fun H1 e Q q =>
  h H1 e _ fun H2 e2 => h1 H2 (e.trans e2) _ fun H3 e3 => h2 H3 ((e.trans e2).trans e3) _ fun H4 e4 => ⟨z, rfl, sz_of hz, q H4 ((e2.trans e3).trans e4)⟩
theorem el_cat {xs ys : List V} (ha : EvL ta σ H xs) (hb : EvL tb σ H ys) (hz : xs.length + ys.length ≤ 100000) : EvL (tOp rCat ta tb) σ H (xs ++ ys) := by
  intro H1 e Q q
  refine ha H1 e _ fun l H2 nl e2 hl => hb H2 (e.trans e2) _ fun b H3 nb e3 hb => ?_
  exact ⟨l, b, xs, ys, rfl, rfl, e3 _ _ hl, hb, sz_of hz, fun r nr => q r _ (fresh_back (e2.trans e3) nr) ((e2.trans e3).trans (Ex.new nr)) upd_same⟩
end

/-! a text from behind -/
def revS (z : Str) : Str := ⟨z.cps.toList.reverse.toArray⟩
def tRevS (te : TE) : TE := fun σ H Q => te σ H fun x H1 => ∃ z, x = .str z ∧ z.length ≤ sizeLine ∧ Q (.str (revS z)) H1
theorem pick_back (z : Str) (st : Option (Int × Tok)) (h : st.map (·.1) = some (-1)) : (slicePicked z none none st).filterMap (z.cps[·]?) = z.cps.toList.reverse := by
  have e : slicePicked z none none st = (List.range z.cps.size).reverse := by
    unfold slicePicked
    rw [h]
    show sliceRange ((z.length : Int) - 1) (-1) (-1) = _
    rw [PySem.W.krv_sliceRange, PySem.W.krv_range]
    rfl
  rw [e, List.filterMap_reverse, PySem.W.krv_all]
theorem pe_backS {X : Cx} {e : Expr} {te : TE} {k : Nat} {p1 p2 p3 pos : Pos} (he : PE X e te) : PE X (.Subscript e (.Slice none none (some (.UnaryOp .USub (.Constant (.int 1) k p1) p2)) p3) pos) (tRevS te) := by
  constructor
  intro pins s σ H Q I h
  refine Subscript_ (thn (he.run pins s σ H _ I h) ?_)
  rintro v s1 ⟨x, H1, I1, r1, z, rfl, hz, q⟩
  obtain ⟨t, rfl⟩ := r1
  have step : PO X (some (.UnaryOp .USub (.Constant (.int 1) k p1) p2)) (tPart (tUn (rU fun i => .int (-i)) (tC (.int 1)))) := po_some (pe_un un_neg pe_int)
  refine wpAny_Slice (thn (po_none.run pins s1 σ H1 (fun o H2 => o = none ∧ H2 = H1) I1 ⟨rfl, rfl⟩) ?_)
  rintro vl s2 ⟨l, H2, I2, pl, rfl, rfl⟩
  refine thn (po_none.run pins s2 σ H2 (fun o H3 => o = none ∧ H3 = H2) I2 ⟨rfl, rfl⟩) ?_
  rintro vu s3 ⟨u, H3, I3, pu, rfl, rfl⟩
  refine thn (step.run pins s3 σ H3 (fun o H4 => o = some (-1) ∧ H4 = H3) I3 ⟨1, rfl, -1, rfl, rfl, rfl⟩) ?_
  rintro vs s4 ⟨o, H4, I4, ps, rfl, rfl⟩
  have I5 : Inv X pins σ H4 { s4 with heap := s4.heap.push { cls := .type "slice", data := .fields #[vl, vu, vs] } } := I4.kept (t' := s4.toks) fun b ob q => Heap.get?_push_of_some _ q
  refine tail_any (ops := [.str z t, .ref s4.heap.objs.size]) (typeIs_str _ _ _) PySem.F.slot_str_getitem.lookup ?_ (by with_unfolding_all rfl)
  obtain ⟨l, rfl, el⟩ := IsPart.raw pl
  obtain ⟨u, rfl, eu⟩ := IsPart.raw pu
  obtain ⟨st, rfl, es⟩ := IsPart.raw ps
  cases l with
  | some l => cases el
  | none =>
    cases u with
    | some u => cases eu
    | none =>
      have es' : st.map (·.1) = some (-1) := es
      refine wpAny_getItem_str_slice (l := none) (u := none) (st := st) ⟨_, Heap.get?_push_size _ rfl, rfl, rfl⟩ (by rw [es']; rfl) ?_
      unfold sliceMade
      rw [if_neg (by
        rw [es']
        show ¬ ((false && _) = true)
        rw [Bool.false_and]
        exact Bool.false_ne_true), pick_back z st es']
      refine ⟨?_, .str (revS z), H4, I5.tok _, ⟨_, rfl⟩, q⟩
      show (z.cps.toList.reverse.toArray).size ≤ sizeLine
      rw [List.size_toArray, List.length_reverse]
      exact hz
theorem ev_revS {σ : L2.St} {H : Hp} {te : TE} {z : Str} (h : Ev te σ H (.str z)) (hz : z.length ≤ 100000) : Ev (tRevS te) σ H (.str (revS z)) := fun H1 e Q q => h H1 e _ fun H2 e2 => ⟨z, rfl, sz_of hz, q H2 e2⟩
/-- a grid mirrored, turned -/
def mirF (w : Nat) (f : Nat → Nat → Bool) : Nat → Nat → Bool := fun i j => f i (w - 1 - j)
def turnF (h : Nat) (f : Nat → Nat → Bool) : Nat → Nat → Bool := fun i j => f (h - 1 - j) i
theorem rev_range {α : Type} (g : Nat → α) (n : Nat) : ((List.range n).map g).reverse = (List.range n).map fun j => g (n - 1 - j) := by
  rw [← List.map_reverse, ← PySem.W.krv_range, List.map_map]
  rfl
theorem rev_row (f : Nat → Bool) (n : Nat) : revS (rowS f n) = rowS (fun j => f (n - 1 - j)) n := by
  unfold revS rowS
  rw [List.toList_toArray, rev_range]
theorem gridS_congr {h w : Nat} {f g : Nat → Nat → Bool} (e : ∀ i j, i < h → j < w → f i j = g i j) : gridS h w f = gridS h w g := by
  unfold gridS rowS
  refine List.map_congr_left fun i hi => ?_
  congr 2
  refine List.map_congr_left fun j hj => ?_
  rw [e i j (List.mem_range.mp hi) (List.mem_range.mp hj)]
theorem mir_mir {h w : Nat} {f : Nat → Nat → Bool} : gridS h w (mirF w (mirF w f)) = gridS h w f := gridS_congr fun i j hi hj => by
  unfold mirF
  rw [show w - 1 - (w - 1 - j) = j by omega]
/-! a sign again and again -/
theorem fold_rep (c : Nat) : ∀ (n : Nat) (acc : Array Nat), (List.replicate n #[c]).foldl (· ++ ·) acc = acc ++ (List.replicate n c).toArray
  | 0, acc => (Array.append_empty).symm
  | n + 1, acc => by
    show (List.replicate n #[c]).foldl (· ++ ·) (acc ++ #[c]) = _
    rw [fold_rep c n]
    apply Array.ext'
    simp [List.replicate_succ]
theorem rep_row (b : Bool) (n : Nat) : (⟨(List.replicate n (signS b).cps).foldl (· ++ ·) #[]⟩ : Str) = rowS (fun _ => b) n := by
  have h : (signS b).cps = #[signN b] := rfl
  rw [h, fold_rep]
  unfold rowS
  congr 1
  apply Array.ext'
  simp [List.map_const']
def rRepS : R2 := fun x y H Q => ∃ (b : Bool) (n : Nat), x = .str (signS b) ∧ y = .int (n : Int) ∧ n ≤ 1000 ∧ Q (.str (rowS (fun _ => b) n)) H
theorem op_repS {X : Cx} : OpR X (binaryOp .Mult) rRepS := by
  intro pins s σ H x y v u Q I rx ry h
  obtain ⟨b, n, rfl, rfl, hn, q⟩ := h
  obtain ⟨t, rfl⟩ := rx
  obtain ⟨t', rfl⟩ := ry
  have hl : (signS b).length = 1 := rfl
  refine P.mul_str ?_ ?_ ?_ ?_
  · rw [decide_eq_false (by omega), decide_eq_false (by omega)]
    rfl
  · intro h1 _
    rw [hl]
    intro hz
    have h2 : (1000 : Int) ≤ (2 ^ 63 - 1) / (n : Int) := by
      rw [Int.le_ediv_iff_mul_le (by omega)]
      omega
    omega
  · intro _ _
    rw [hl]
    unfold Builtin.Str.tooLong
    exact decide_eq_false (by
      have h3 : (1000 : Nat) < sizeLine := by decide
      intro hz
      omega)
  · match n, hn, q with
    | 0, _, q =>
      rw [if_pos (by decide)]
      exact ⟨by decide, .str (rowS (fun _ => b) 0), H, I.tok _, ⟨_, rfl⟩, q⟩
    | 1, _, q =>
      rw [if_neg (by decide), if_pos (by rw [hl]; decide)]
      exact ⟨.str (signS b), H, I, ⟨_, rfl⟩, q⟩
    | n + 2, hn, q =>
      rw [if_neg (by omega), if_neg (by
        rw [hl]
        simp only [Bool.or_eq_true, beq_iff_eq]
        omega)]
      have e : ((n + 2 : Nat) : Int).toNat = n + 2 := rfl
      rw [e, rep_row]
      refine ⟨?_, .str (rowS (fun _ => b) (n + 2)), H, I.tok _, ⟨_, rfl⟩, q⟩
      rw [rowS_len]
      exact sz_of (by omega)
theorem rv_repS {b : Bool} {n : Nat} {H : Hp} (h : n ≤ 1000) : RV rRepS (.str (signS b)) (.int (n : Int)) H (.str (rowS (fun _ => b) n)) := fun H1 _ _ q => ⟨b, n, rfl, rfl, h, q H1 (Ex.refl H1)⟩

/-! two grids beside one another; rows again and again -/
def catF (n : Nat) (f g : Nat → Nat → Bool) : Nat → Nat → Bool := fun i j => if j < n then f i j else g i (j - n)
theorem cat_row (f g : Nat → Bool) (n m : Nat) : rowS f n ++ rowS g m = rowS (fun j => if j < n then f j else g (j - n)) (n + m) := by
  unfold rowS
  rw [app_mk]
  congr 2
  apply List.ext_getElem?
  intro i
  by_cases hi : i < n
  · rw [List.getElem?_append_left (by rw [List.length_map, List.length_range]; exact hi), List.getElem?_map, List.getElem?_map, List.getElem?_range hi, List.getElem?_range (by omega)]
    show _ = some (signN (if i < n then f i else g (i - n)))
    rw [if_pos hi]
    rfl
  · rw [List.getElem?_append_right (by rw [List.length_map, List.length_range]; omega), List.length_map, List.length_range, List.getElem?_map, List.getElem?_map]
    by_cases hm : i < n + m
    · rw [List.getElem?_range (by omega), List.getElem?_range hm]
      show _ = some (signN (if i < n then f i else g (i - n)))
      rw [if_neg hi]
      rfl
    · rw [List.getElem?_eq_none (by rw [List.length_range]; omega), List.getElem?_eq_none (by rw [List.length_range]; omega)]
      rfl
theorem rep_get {α : Type} (xs : List α) (hk : 0 < xs.length) : ∀ (n i : Nat), i < n * xs.length → ((List.replicate n xs).flatten)[i]? = xs[i % xs.length]?
  | 0, i, h => by omega
  | n + 1, i, h => by
    rw [List.replicate_succ, List.flatten_cons]
    by_cases hi : i < xs.length
    · rw [List.getElem?_append_left hi, Nat.mod_eq_of_lt hi]
    · have hi' : xs.length ≤ i := Nat.le_of_not_lt hi
      rw [List.getElem?_append_right hi', rep_get xs hk n (i - xs.length) (by rw [Nat.succ_mul] at h; omega), Nat.mod_eq_sub_mod hi']
theorem rep_take {h k w : Nat} {g : Nat → Nat → Bool} (hk : 0 < k) : ((List.replicate h ((gridS k w g).map V.str)).flatten).take h = (gridS h w fun i => g (i % k)).map V.str := by
  have hl : ((gridS k w g).map V.str).length = k := by rw [List.length_map, gridS_len]
  apply List.ext_getElem?
  intro i
  rw [List.getElem?_take]
  by_cases hi : i < h
  · have h2 : h * 1 ≤ h * k := Nat.mul_le_mul_left h hk
    rw [if_pos hi, rep_get _ (by omega) h i (by rw [hl]; omega), hl, List.getElem?_map, List.getElem?_map, gridS_get g (Nat.mod_lt _ hk), gridS_get _ hi]
  · rw [if_neg hi, List.getElem?_eq_none (by rw [List.length_map, gridS_len]; omega)]
end MW

namespace MW
open PySem PySem.Spec PyProof.Rows L2 Evl
def topS (i : Nat) : Stmt := PySem.Challenge.pw_moorwalk_k04_beside.main.body.getD i (.Pass ⟨0, 0, 0, 0⟩)
local macro_rules | `(tactic| walk_at "rv") => `(tactic| first
  | exact rv_I0
  | exact rv_big
  | (apply rv_mod; first | omega | decide | assumption)
  | (apply rv_mulR <;> first | omega | decide)
  | (apply rv_mulL <;> first | omega | decide)
  | (apply rv_fdiv <;> first | omega | decide | assumption)
  | (apply rv_shl <;> first | omega | decide)
  | (apply rv_shr; first | omega | decide)
  | (apply rv_repS; first | omega | decide)
  | exact rv_eqI
  | exact rv_neI
  | exact rv_eqS
  | exact rv_neS
  | exact rv_eq rfl
  | exact rv_ne rfl
  | exact ru_neg
  | (apply rv_addS; first | assumption | omega | decide)
  | (apply rv_ixL (ex_l (by assumption) (by assumption)); assumption)
  | (apply rv_ixL (sq_of (by assumption)); assumption)
  | (apply rv_ixT (st_of (by assumption)); assumption)
  | (apply rv_ixT (ex_t (by assumption) (by assumption)); assumption))
local macro_rules | `(tactic| walk_at "rc") => `(tactic| first
  | exact rc_len (ex_l (by assumption) (by assumption))
  | exact rc_len (sq_of (by assumption))
  | (apply rc_lenS; first | assumption | omega)
  | exact rc_isi tye_str (kit_ty (by decide +kernel))
  | exact rc_isi tye_int (kit_ty (by decide +kernel))
  | exact rc_isi (tye_lst (by assumption)) (kit_ty (by decide +kernel))
  | exact rc_isi (tye_tup (by assumption)) (kit_ty (by decide +kernel))
  | exact rc_isi (tye_sq (ex_l (by assumption) (by assumption))) (kit_ty (by decide +kernel))
  | exact rc_lenT (st_of (by assumption))
  | exact rc_max2
  | exact rc_min2
  | exact rc_min4
  | exact rc_int1
  | exact rc_intB)
local macro_rules | `(tactic| walk_at "ea") => `(tactic| first
  | exact ea_nil
  | (apply ea_cons; (walk_at "ev"); (walk_at "ea")))
local macro_rules | `(tactic| walk_at "ev") => `(tactic| first
  | exact ev_c
  | exact ev_var rfl
  | (apply ev_op; (walk_at "ev"); (walk_at "ev"); (walk_at "rv"))
  | (apply ev_un; (walk_at "ev"); (walk_at "rv"))
  | (apply ev_cb; (walk_at "ea"); (walk_at "rc"))
  | (apply ev_call; (walk_at "ea"); (walk_at "sp"))
  | (apply ev_notV; (walk_at "ev"))
  | (apply ev_andV; (walk_at "ev"); (intro _; (walk_at "ev")))
  | (apply ev_orV; (walk_at "ev"); (intro _; (walk_at "ev")))
  | (apply ev_chainB; (walk_at "ev"); (walk_at "ev"); (walk_at "rv"); (walk_at "ev"); (walk_at "rv")))
local macro_rules | `(tactic| walk_at "et") => `(tactic| first
  | (apply et_test; (walk_at "ev"))
  | (apply et_B; (walk_at "ev"))
  | (apply et_not; (walk_at "et"))
  | (apply et_and; (walk_at "et"); (intro _; (walk_at "et")))
  | (apply et_or; (walk_at "et"); (intro _; (walk_at "et"))))
local macro_rules | `(tactic| walk_at "eu") => `(tactic| (apply eu_tup; (walk_at "ea"); (exact Nat.le_of_ble_eq_true rfl)))
section
variable {P : Program} {w : World} {K : PySem.W.Frag} {mg : Str → Option Value} {base : Heap}
abbrev st__law_cell_at : Stmt := topS 14
theorem sc__law_cell_at : FnScope ["_law_script", "_law_k"] ["_law_script", "_law_k"] (defScope st__law_cell_at) :=
  ⟨rfl, rfl, rfl, by decide +kernel, rfl, by decide +kernel, by decide +kernel⟩
def cellM (ns : List Int) (k : Int) : Int := if k < (ns.length : Int) then (if ns.getD k.toNat 0 > -big then ns.getD k.toNat 0 else ns.getD k.toNat 0 % big) else 0
def spCellAt (K : PySem.W.Frag) : Sp := fun vs H Q _ => ∃ (a : Addr) (ns : List Int) (k : Int), vs = [.ref a, .int k] ∧ SqL K H a (ns.map V.int) ∧ 0 ≤ k ∧
  ∀ H', Ex H H' → Q (.int (cellM ns k)) H'
theorem at_script {ns : List Int} {k : Int} (h0 : 0 ≤ k) (h : k < (ns.length : Int)) : atI (ns.map V.int) k = some (.int (ns.getD k.toNat 0)) := by
  refine at_of (j := k.toNat) (by omega) ?_
  have hk : k.toNat < ns.length := by omega
  rw [List.getElem?_map, List.getElem?_eq_getElem hk, List.getD_eq_getElem?_getD, List.getElem?_eq_getElem hk]
  rfl
theorem ok_cellAt {f : Addr} {fd : FuncData} (B : Bl mg) (F : At K mg "_law_cell_at" ["_law_script", "_law_k"] st__law_cell_at f fd) :
    Cal P w K mg base "_law_cell_at" 1 ["_law_script", "_law_k"] (spCellAt K) := by
  refine F.ok sc__law_cell_at (fun vs H Q E h => ?_) (fun cdv A outer s H vs Q E hr h => ?_)
  · obtain ⟨a, ns, k, rfl, _⟩ := h
    rfl
  · obtain ⟨a, ns, k, rfl, hS, hk, q⟩ := h
    have e : Ex H H := Ex.refl H
    refine ⟨_, (pss_cons (ps_if (pt_cmpR op_lt (pv 1) (pe_callB (call_lenK (K := K) rfl) (by rfl) B.len (by decide +kernel) (pa_cons (pv 0) pa_nil)) (nomark _))
  (pss_one (ps_ret (pe_ifExp (pt_cmpR op_gt (pe_ix (ix_listK (K := K) rfl) (pv 0) (pv 1) (fun _ _ => rfl)) (pe_un un_neg (pe_op op_pow pe_int pe_int)) (nomark _)) (pe_ix (ix_listK (K := K) rfl) (pv 0) (pv 1) (fun _ _ => rfl)) (pe_op op_mod (pe_ix (ix_listK (K := K) rfl) (pv 0) (pv 1) (fun _ _ => rfl)) (pe_op op_pow pe_int pe_int)))))
  pss_nil)
  (pss_one (ps_ret pe_int))), ?_⟩
    refine q_when (b := decide (k < ((ns.map V.int).length : Int))) (by walk_at "et") (fun hb H1 e1 => ?_) (fun hb H1 e1 => ?_)
    · have e := e.trans e1
      rw [List.length_map] at hb
      have hb := of_decide_eq_true hb
      have hat := at_script hk hb
      refine s_ret (v := .int (cellM ns k)) ?_ (fun H2 e2 => q H2 (e.trans e2))
      refine ev_if (b := decide (ns.getD k.toNat 0 > -big)) (by walk_at "et") (fun hc => ?_) (fun hc => ?_)
      · have hc := of_decide_eq_true hc
        unfold cellM
        rw [if_pos hb, if_pos hc]
        walk_at "ev"
      · have hc := of_decide_eq_false hc
        unfold cellM
        rw [if_pos hb, if_neg hc]
        walk_at "ev"
    · rw [List.length_map] at hb
      have hb := of_decide_eq_false hb
      refine s_ret (v := .int (cellM ns k)) ?_ (fun H2 e2 => q H2 (e1.trans e2))
      unfold cellM
      rw [if_neg hb]
      walk_at "ev"

/-! draws -/
abbrev st__law_draw : Stmt := topS 15
theorem sc__law_draw : FnScope ["_law_cell", "_law_k", "_law_many", "_law_primes"] ["_law_cell", "_law_k", "_law_many"] (defScope st__law_draw) :=
  ⟨rfl, rfl, rfl, by decide +kernel, rfl, by decide +kernel, by decide +kernel⟩
def primesL : List Int := [1000003, 1000033, 1000037, 1000039] ++ [1000081, 1000099, 1000117, 1000121] ++ [1000133, 1000151, 1000159, 1000171] ++ [1000183, 1000187, 1000193, 1000199]
def primeM (k : Int) : Int := primesL.getD (k % 16).toNat 0
def drawM (c k m : Int) : Int := (c * 48271 + k * 69621) % primeM k % m
theorem primes_pos : ∀ i, i < 16 → 0 < primesL.getD i 0 := by decide
theorem prime_pos (k : Int) : 0 < primeM k := primes_pos _ (by omega)
theorem drawM_lo {c k m : Int} (h : 0 < m) : 0 ≤ drawM c k m := Int.emod_nonneg _ (by omega)
theorem drawM_hi {c k m : Int} (h : 0 < m) : drawM c k m < m := Int.emod_lt_of_pos _ h
theorem prime_at (k : Int) : atI (primesL.map V.int) (k % 16) = some (.int (primeM k)) := by
  have h : (k % 16).toNat < 16 := by omega
  refine at_of (j := (k % 16).toNat) (by omega) ?_
  have hk : (k % 16).toNat < primesL.length := h
  unfold primeM
  rw [List.getElem?_map, List.getElem?_eq_getElem hk, List.getD_eq_getElem?_getD, List.getElem?_eq_getElem hk]
  rfl
def spDraw : Sp := fun vs H Q _ => ∃ c k m : Int, vs = [.int c, .int k, .int m] ∧ 0 < m ∧ ∀ H', Ex H H' → Q (.int (drawM c k m)) H'
theorem ok_draw {f : Addr} {fd : FuncData} (B : Bl mg) (F : At K mg "_law_draw" ["_law_cell", "_law_k", "_law_many"] st__law_draw f fd) :
    Cal P w K mg base "_law_draw" 1 ["_law_cell", "_law_k", "_law_many"] spDraw := by
  refine F.ok sc__law_draw (fun vs H Q E h => ?_) (fun cdv A outer s H vs Q E hr h => ?_)
  · obtain ⟨c, k, m, rfl, _⟩ := h
    rfl
  · obtain ⟨c, k, m, rfl, hm, q⟩ := h
    refine ⟨_, (pss_cons (ps_set (i := 3) sc__law_draw.nd rfl (Or.inl rfl) (pe_tup (pa_cons pe_int (pa_cons pe_int (pa_cons pe_int (pa_cons pe_int (pa_cons pe_int (pa_cons pe_int (pa_cons pe_int (pa_cons pe_int (pa_cons pe_int (pa_cons pe_int (pa_cons pe_int (pa_cons pe_int (pa_cons pe_int (pa_cons pe_int (pa_cons pe_int (pa_cons pe_int pa_nil))))))))))))))))))
  (pss_one (ps_ret (pe_op op_mod (pe_op op_mod (pe_op op_add (pe_op op_mul (pv 0) pe_int) (pe_op op_mul (pv 1) pe_int)) (pe_ix (ix_tupK (K := K) rfl) (pv 3) (pe_op op_mod (pv 1) pe_int) (fun _ _ => rfl))) (pv 2))))), ?_⟩
    refine q_asgU (xs := primesL.map V.int) (by walk_at "eu") (fun p H1 np e hp => ?_)
    have hat := prime_at k
    have hpos := prime_pos k
    exact s_ret (v := .int (drawM c k m)) (by walk_at "ev") (fun H2 e2 => q H2 (e.trans e2))
theorem sv_draw {c k m : Int} {H : Hp} (h : 0 < m) : SpV spDraw [.int c, .int k, .int m] H (.int (drawM c k m)) :=
  fun _ _ _ q _ => ⟨c, k, m, rfl, h, q⟩

local macro_rules | `(tactic| walk_at "sp") => `(tactic| (apply sv_draw; first | omega | decide | assumption))
/-! a sign -/
abbrev st__law_sign : Stmt := topS 16
theorem sc__law_sign : FnScope ["_law_cell", "_law_row", "_law_column", "_law_kind", "_law_rim", "_law_drawn", "_law_spots", "_law_wet"] ["_law_cell", "_law_row", "_law_column", "_law_kind", "_law_rim"] (defScope st__law_sign) :=
  ⟨rfl, rfl, rfl, by decide +kernel, rfl, by decide +kernel, by decide +kernel⟩
def b2 (b : Bool) : Int := if b then 1 else 0
def wetM (drawn row col kind rim : Int) : Int := ([drawn % 2, b2 (decide (drawn % 5 = 0)), row % 2 * (col % 2) * b2 (decide (drawn % 4 > 0)), rim % 2, b2 (decide (drawn % 3 > 0))] : List Int).getD kind.toNat 0
def drawnM (cell row col : Int) : Int := drawM ((cell + 977 * col) * (cell + 31 * row + 5)) ((row + col) % 9 + 1) 999983
def landM (cell row col kind rim : Int) : Bool :=
  if cell ≥ big then decide ((cell - big) / (1 * 2 ^ col.toNat) % 2 = 0)
  else !(decide (wetM (drawnM cell row col) row col kind rim > 0) && (!decide (kind = 3) || decide (drawnM cell row col % 9 > 0)))
def signM (cell row col kind rim : Int) : Str := signS (landM cell row col kind rim)
def spSign : Sp := fun vs H Q _ => ∃ cell row col kind rim : Int, vs = [.int cell, .int row, .int col, .int kind, .int rim] ∧ -big < cell ∧ 0 ≤ col ∧ col < 30 ∧ 0 ≤ kind ∧ kind < 5 ∧
  ∀ H', Ex H H' → Q (.str (signM cell row col kind rim)) H'
theorem ok_sign {f : Addr} {fd : FuncData} (B : Bl mg) (C__law_draw : Cal P w K mg base "_law_draw" 1 ["_law_cell", "_law_k", "_law_many"] spDraw)
    (F : At K mg "_law_sign" ["_law_cell", "_law_row", "_law_column", "_law_kind", "_law_rim"] st__law_sign f fd) :
    Cal P w K mg base "_law_sign" 2 ["_law_cell", "_law_row", "_law_column", "_law_kind", "_law_rim"] spSign := by
  refine F.ok sc__law_sign (fun vs H Q E h => ?_) (fun cdv A outer s H vs Q E hr h => ?_)
  · obtain ⟨cell, row, col, kind, rim, rfl, _⟩ := h
    rfl
  · obtain ⟨cell, row, col, kind, rim, rfl, hc, hl0, hl1, hk0, hk1, q⟩ := h
    refine ⟨_, (pss_cons (ps_if (pt_cmpR op_ge (pv 0) (pe_op op_pow pe_int pe_int) (nomark _))
  (pss_one (ps_ret (pe_ifExp (pt_cmpR op_eq (pe_op op_mod (pe_op op_fdiv (pe_op op_sub (pv 0) (pe_op op_pow pe_int pe_int)) (pe_op op_shl pe_int (pv 2))) pe_int) pe_int (nomark _)) pe_str pe_str)))
  pss_nil)
  (pss_cons (ps_set (i := 5) sc__law_sign.nd rfl (Or.inl rfl) (pe_cal C__law_draw (hr.mono (by decide)) (by rfl) (pa_cons (pe_op op_mul (pe_op op_add (pv 0) (pe_op op_mul pe_int (pv 2))) (pe_op op_add (pe_op op_add (pv 0) (pe_op op_mul pe_int (pv 1))) pe_int)) (pa_cons (pe_op op_add (pe_op op_mod (pe_op op_add (pv 1) (pv 2)) pe_int) pe_int) (pa_cons pe_int pa_nil)))))
  (pss_cons (ps_set (i := 6) sc__law_sign.nd rfl (Or.inl rfl) (pe_op op_mul (pe_op op_mul (pe_op op_mod (pv 1) pe_int) (pe_op op_mod (pv 2) pe_int)) (pe_callTy call_int1 (by rfl) B.int (by decide +kernel) (pa_cons (pe_cmpR op_gt (pe_op op_mod (pv 5) pe_int) pe_int (nomark _)) pa_nil))))
  (pss_cons (ps_set (i := 7) sc__law_sign.nd rfl (Or.inl rfl) (pe_ix (ix_tupK (K := K) rfl) (pe_tup (pa_cons (pe_op op_mod (pv 5) pe_int) (pa_cons (pe_callTy call_int1 (by rfl) B.int (by decide +kernel) (pa_cons (pe_cmpR op_eq (pe_op op_mod (pv 5) pe_int) pe_int (nomark _)) pa_nil)) (pa_cons (pv 6) (pa_cons (pe_op op_mod (pv 4) pe_int) (pa_cons (pe_callTy call_int1 (by rfl) B.int (by decide +kernel) (pa_cons (pe_cmpR op_gt (pe_op op_mod (pv 5) pe_int) pe_int (nomark _)) pa_nil)) pa_nil)))))) (pv 3) (fun _ _ => rfl)))
  (pss_one (ps_ret (pe_ifExp (PW.pt (pw_and (pt_cmpR op_gt (pv 7) pe_int (nomark _)) (pw_and1 (PW.pt (pw_or (pt_cmpR op_ne (pv 3) pe_int (nomark _)) (pw_or1 (pt_cmpR op_gt (pe_op op_mod (pv 5) pe_int) pe_int (nomark _)))))))) pe_str pe_str))))))), ?_⟩
    refine q_when (b := decide (cell ≥ big)) (by walk_at "et") (fun hb H1 e1 => ?_) (fun hb H1 e1 => ?_)
    · have hb := of_decide_eq_true hb
      have hp := shl_pos col.toNat
      have hp2 := shl_lt (n := col.toNat) (m := 29) (by omega)
      have hp3 : (1 : Int) * 2 ^ 29 = 536870912 := by decide
      refine s_ret (v := .str (signM cell row col kind rim)) ?_ (fun H2 e2 => q H2 (e1.trans e2))
      refine ev_if (b := decide ((cell - big) / (1 * 2 ^ col.toNat) % 2 = 0)) ?_ (fun hd => ?_) (fun hd => ?_)
      · walk_at "et"
      · unfold signM landM
        rw [if_pos hb, hd]
        exact ev_c
      · unfold signM landM
        rw [if_pos hb, hd]
        exact ev_c
    · have hb := of_decide_eq_false hb
      have hb2 : cell < big := by omega
      have hbig : big = 1000000000000000000 := rfl
      have e := e1
      refine q_asg (v := .int (drawnM cell row col)) (by walk_at "ev") (fun H2 e2 => ?_)
      refine q_asg (v := .int (row % 2 * (col % 2) * b2 (decide (drawnM cell row col % 4 > 0)))) (by walk_at "ev") (fun H3 e3 => ?_)
      have hat : atI (([drawnM cell row col % 2, b2 (decide (drawnM cell row col % 5 = 0)), row % 2 * (col % 2) * b2 (decide (drawnM cell row col % 4 > 0)), rim % 2, b2 (decide (drawnM cell row col % 3 > 0))] : List Int).map V.int) kind = some (.int (wetM (drawnM cell row col) row col kind rim)) := by
        refine at_of (j := kind.toNat) (by omega) ?_
        have hk : kind.toNat < 5 := by omega
        unfold wetM
        rw [List.getElem?_map, List.getD_eq_getElem?_getD, List.getElem?_eq_getElem (by exact hk)]
        rfl
      refine q_asg (v := .int (wetM (drawnM cell row col) row col kind rim)) ?_ (fun H4 e4 => ?_)
      · refine ev_opV' (by walk_at "eu") (by walk_at "ev") (fun p H' hp _ => ?_)
        exact rv_ixT (st_of hp) hat
      refine s_ret (v := .str (signM cell row col kind rim)) ?_ (fun H5 e5 => q H5 ((((e1.trans e2).trans e3).trans e4).trans e5))
      refine ev_if (b := decide (wetM (drawnM cell row col) row col kind rim > 0) && (!decide (kind = 3) || decide (drawnM cell row col % 9 > 0))) (by walk_at "et") (fun hd => ?_) (fun hd => ?_)
      · unfold signM landM
        rw [if_neg hb, hd]
        exact ev_c
      · unfold signM landM
        rw [if_neg hb, hd]
        exact ev_c

/-! a grid -/
abbrev st__law_grid : Stmt := topS 17
theorem sc__law_grid : FnScope ["_law_script", "_law_by", "_law_most", "_law_cell", "_law_high", "_law_wide", "_law_kind", "_law_found", "_law_row", "_law_source", "_law_signs", "_law_column", "_law_rim"] ["_law_script", "_law_by", "_law_most"] (defScope st__law_grid) :=
  ⟨rfl, rfl, rfl, by decide +kernel, rfl, by decide +kernel, by decide +kernel⟩
def gCell (ns : List Int) (b : Int) : Int := cellM ns b % big
def gHigh (ns : List Int) (b m : Int) : Nat := (1 + drawM (gCell ns b) 1 m).toNat
def gWide (ns : List Int) (b m : Int) : Nat := (1 + drawM (gCell ns b) 2 m).toNat
def gKind (ns : List Int) (b : Int) : Int := drawM (gCell ns b + 31 * b) 6 5
def gSrc (ns : List Int) (b : Int) (r : Nat) : Int := cellM ns ((b + (r : Int)) % (if (ns.length : Int) > 1 then (ns.length : Int) else 1))
def gLand (ns : List Int) (b m : Int) (r c : Nat) : Bool :=
  landM (gSrc ns b r) r c (gKind ns b) (min4 r c ((gHigh ns b m : Int) - 1 - r) ((gWide ns b m : Int) - 1 - c))
def gridM (ns : List Int) (b m : Int) : List Str := gridS (gHigh ns b m) (gWide ns b m) (gLand ns b m)
theorem cellM_lo {ns : List Int} {k : Int} : -big < cellM ns k := by
  have hb : big = 1000000000000000000 := rfl
  unfold cellM
  split
  · split
    · assumption
    · have := Int.emod_nonneg (ns.getD k.toNat 0) (b := big) (by decide)
      omega
  · decide
def spGrid (K : PySem.W.Frag) : Sp := fun vs H Q _ => ∃ (a : Addr) (ns : List Int) (b m : Int), vs = [.ref a, .int b, .int m] ∧ SqL K H a (ns.map V.int) ∧ 0 ≤ b ∧ 0 < m ∧ m ≤ 16 ∧
  ∀ p H', H p = none → Ex H H' → H' p = some (.lst ((gridM ns b m).map V.str)) → Q (.ref p) H'
theorem sv_cellAt {a : Addr} {ns : List Int} {k : Int} {H : Hp} (hS : SqL K H a (ns.map V.int)) (h : 0 ≤ k) : SpV (spCellAt K) [.ref a, .int k] H (.int (cellM ns k)) :=
  fun H1 e _ q _ => ⟨a, ns, k, rfl, ex_l e hS, h, q⟩
theorem sv_sign {cell row col kind rim : Int} {H : Hp} (h1 : -big < cell) (h2 : 0 ≤ col) (h3 : col < 30) (h4 : 0 ≤ kind) (h5 : kind < 5) : SpV spSign [.int cell, .int row, .int col, .int kind, .int rim] H (.str (signM cell row col kind rim)) :=
  fun H1 e _ q _ => ⟨cell, row, col, kind, rim, rfl, h1, h2, h3, h4, h5, q⟩
local macro_rules | `(tactic| walk_at "sp") => `(tactic| first
  | (apply sv_draw; first | omega | decide | assumption)
  | (apply sv_cellAt (ex_l (by assumption) (by assumption)); first | omega | decide | assumption)
  | (apply sv_sign <;> first | omega | decide | assumption))
theorem ok_grid {f : Addr} {fd : FuncData} (B : Bl mg) (C__law_cell_at : Cal P w K mg base "_law_cell_at" 1 ["_law_script", "_law_k"] (spCellAt K)) (C__law_draw : Cal P w K mg base "_law_draw" 1 ["_law_cell", "_law_k", "_law_many"] spDraw)
    (C__law_sign : Cal P w K mg base "_law_sign" 2 ["_law_cell", "_law_row", "_law_column", "_law_kind", "_law_rim"] spSign)
    (F : At K mg "_law_grid" ["_law_script", "_law_by", "_law_most"] st__law_grid f fd) :
    Cal P w K mg base "_law_grid" 3 ["_law_script", "_law_by", "_law_most"] (spGrid K) := by
  refine F.ok sc__law_grid (fun vs H Q E h => ?_) (fun cdv A outer s H vs Q E hr h => ?_)
  · obtain ⟨a, ns, b, m, rfl, _⟩ := h
    rfl
  · obtain ⟨a, ns, b, m, rfl, hS, hb, hm, hm2, q⟩ := h
    refine ⟨_, (pss_cons (ps_set (i := 3) sc__law_grid.nd rfl (Or.inl rfl) (pe_op op_mod (pe_cal C__law_cell_at (hr.mono (by decide)) (by rfl) (pa_cons (pv 0) (pa_cons (pv 1) pa_nil))) (pe_op op_pow pe_int pe_int)))
  (pss_cons (ps_par (i := 4) (j := 5) (by rfl) sc__law_grid.nd rfl rfl (by decide) rfl rfl (pa_cons (pe_op op_add pe_int (pe_cal C__law_draw (hr.mono (by decide)) (by rfl) (pa_cons (pv 3) (pa_cons pe_int (pa_cons (pv 2) pa_nil))))) (pa_cons (pe_op op_add pe_int (pe_cal C__law_draw (hr.mono (by decide)) (by rfl) (pa_cons (pv 3) (pa_cons pe_int (pa_cons (pv 2) pa_nil))))) pa_nil)) (by rfl))
  (pss_cons (ps_set (i := 6) sc__law_grid.nd rfl (Or.inl rfl) (pe_cal C__law_draw (hr.mono (by decide)) (by rfl) (pa_cons (pe_op op_add (pv 3) (pe_op op_mul pe_int (pv 1))) (pa_cons pe_int (pa_cons pe_int pa_nil)))))
  (pss_cons (ps_set (i := 7) sc__law_grid.nd rfl (Or.inl rfl) (pe_lst pa_nil))
  (pss_cons (ps_for PassesOwn.never rfl (pi_range1 (by rfl) B.range (pa_cons (pv 4) pa_nil)) (pg_name (i := 8) sc__law_grid.nd rfl (Or.inl rfl))
  (pss_cons (ps_set (i := 9) sc__law_grid.nd rfl (Or.inl rfl) (pe_cal C__law_cell_at (hr.mono (by decide)) (by rfl) (pa_cons (pv 0) (pa_cons (pe_op op_mod (pe_op op_add (pv 1) (pv 8)) (pe_callB (call_max2 rfl) (by rfl) B.max (by decide +kernel) (pa_cons pe_int (pa_cons (pe_callB (call_lenK (K := K) rfl) (by rfl) B.len (by decide +kernel) (pa_cons (pv 0) pa_nil)) pa_nil)))) pa_nil))))
  (pss_cons (ps_set (i := 10) sc__law_grid.nd rfl (Or.inl rfl) pe_str)
  (pss_cons (ps_for PassesOwn.never rfl (pi_range1 (by rfl) B.range (pa_cons (pv 5) pa_nil)) (pg_name (i := 11) sc__law_grid.nd rfl (Or.inl rfl))
  (pss_cons (ps_set (i := 12) sc__law_grid.nd rfl (Or.inl rfl) (pe_callB (call_min4 rfl) (by rfl) B.min (by decide +kernel) (pa_cons (pv 8) (pa_cons (pv 11) (pa_cons (pe_op op_sub (pe_op op_sub (pv 4) pe_int) (pv 8)) (pa_cons (pe_op op_sub (pe_op op_sub (pv 5) pe_int) (pv 11)) pa_nil))))))
  (pss_one (ps_set (i := 10) sc__law_grid.nd rfl (Or.inl rfl) (pe_op op_add_str (pv 10) (pe_cal C__law_sign (hr.mono (by decide)) (by rfl) (pa_cons (pv 9) (pa_cons (pv 8) (pa_cons (pv 11) (pa_cons (pv 6) (pa_cons (pv 12) pa_nil)))))))))))
  (pss_one (ps_expr (pe_bm PySem.F.plainAttrs_list PySem.F.slot_list_append PySem.F.type_list_append mt_append (pv 7) (pa_cons (pv 10) pa_nil))))))))
  (pss_one (ps_ret (pv 7)))))))), ?_⟩
    have e : Ex H H := Ex.refl H
    have d1 := drawM_lo (c := gCell ns b) (k := 1) hm
    have d1' := drawM_hi (c := gCell ns b) (k := 1) hm
    have d2 := drawM_lo (c := gCell ns b) (k := 2) hm
    have d2' := drawM_hi (c := gCell ns b) (k := 2) hm
    have k0 : 0 ≤ gKind ns b := drawM_lo (by decide)
    have k1 : gKind ns b < 5 := drawM_hi (by decide)
    have eh : (gHigh ns b m : Int) = 1 + drawM (gCell ns b) 1 m := by
      unfold gHigh
      omega
    have ew : (gWide ns b m : Int) = 1 + drawM (gCell ns b) 2 m := by
      unfold gWide
      omega
    refine q_asg (v := .int (gCell ns b)) (by walk_at "ev") (fun H1 e1 => ?_)
    have e := e.trans e1
    refine q_par (K := K) (x := .int (gHigh ns b m)) (y := .int (gWide ns b m)) (by rw [eh, ew]; walk_at "ea") (fun H2 e2 => ?_)
    have e := e.trans e2
    refine q_asg (v := .int (gKind ns b)) (by walk_at "ev") (fun H3 e3 => ?_)
    have e := e.trans e3
    refine q_asgL (xs := []) (el_lst ea_nil (Nat.zero_le _)) (fun p H4 np e4 hp => ?_)
    have np := fresh_back e np
    have e := e.trans e4
    refine q_forR1 (n := (gHigh ns b m : Int)) (by walk_at "ea") (by omega) (fun i σ' H' => ∃ y8 y9 y10 y11 y12, σ' = [some (.ref a), some (.int b), some (.int m), some (.int (gCell ns b)), some (.int (gHigh ns b m)), some (.int (gWide ns b m)), some (.int (gKind ns b)),
        some (.ref p), y8, y9, y10, y11, y12] ∧ Ex H H' ∧ H' p = some (.lst ((gridS i (gWide ns b m) (gLand ns b m)).map V.str))) ?_ ?_ ?_
    · intro H5 e5
      exact ⟨none, none, none, none, none, rfl, e.trans e5, e5 _ _ hp⟩
    · rintro i σ' H' hi ⟨y8, y9, y10, y11, y12, rfl, e, hp⟩
      refine q_asg (v := .int (gSrc ns b i)) ?_ (fun H1 e1 => ?_)
      · have hlen : ((ns.map V.int).length : Int) = ns.length := by rw [List.length_map]
        unfold gSrc
        rw [← hlen]
        have hpos : 0 < (if ((ns.map V.int).length : Int) > 1 then ((ns.map V.int).length : Int) else 1) := by split <;> omega
        have hpos2 := Int.emod_nonneg (b + (i : Int)) (Int.ne_of_gt hpos)
        walk_at "ev"
      have e := e.trans e1
      have hp := e1 _ _ hp
      refine q_asg (v := .str (rowS (gLand ns b m i) 0)) ev_c (fun H2 e2 => ?_)
      have e := e.trans e2
      have hp := e2 _ _ hp
      refine q_forR1 (n := (gWide ns b m : Int)) (by walk_at "ea") (by omega) (fun j σ' H' => ∃ y11 y12, σ' = [some (.ref a), some (.int b), some (.int m), some (.int (gCell ns b)), some (.int (gHigh ns b m)), some (.int (gWide ns b m)), some (.int (gKind ns b)),
        some (.ref p), some (.int (i : Nat)), some (.int (gSrc ns b i)), some (.str (rowS (gLand ns b m i) j)), y11, y12] ∧ Ex H H' ∧ H' p = some (.lst ((gridS i (gWide ns b m) (gLand ns b m)).map V.str))) ?_ ?_ ?_
      · intro H5 e5
        exact ⟨_, _, rfl, e.trans e5, e5 _ _ hp⟩
      · rintro j σ' H' hj ⟨y11, y12, rfl, e, hp⟩
        refine q_asg (v := .int (min4 i j ((gHigh ns b m : Int) - 1 - i) ((gWide ns b m : Int) - 1 - j))) (by walk_at "ev") (fun H1 e1 => ?_)
        have e := e.trans e1
        have hp := e1 _ _ hp
        have hlen : (rowS (gLand ns b m i) j).length + (signS (gLand ns b m i j)).length ≤ 100000 := by
          rw [rowS_len]
          show j + 1 ≤ 100000
          omega
        have hsrc : -big < gSrc ns b i := cellM_lo
        refine s_asg (v := .str (rowS (gLand ns b m i) (j + 1))) ?_ (fun H2 e2 => ?_)
        · rw [← rowS_succ]
          walk_at "ev"
        exact ⟨_, _, rfl, e.trans e2, e2 _ _ hp⟩
      · rintro σ' H' ⟨y11, y12, rfl, e, hp⟩
        refine s_app (xs := (gridS i (gWide ns b m) (gLand ns b m)).map V.str) (v := .str (rowS (gLand ns b m i) (gWide ns b m))) hp (ev_var rfl) (ev_var rfl) ?_ (fun H1 e1 => ?_)
        · rw [List.length_map, gridS_len]
          omega
        · refine ⟨_, _, _, _, _, rfl, Ex.mut (e.trans e1) np, ?_⟩
          rw [upd_same, gridS_succ, List.map_append]
          rfl
    · rintro σ' H' ⟨y8, y9, y10, y11, y12, rfl, e, hp⟩
      exact s_ret (v := .ref p) (ev_var rfl) (fun H1 e1 => q p H1 np (e.trans e1) (e1 _ _ hp))
end
end MW

namespace MW
open PySem PySem.Spec PyProof.Rows L2 Evl
local macro_rules | `(tactic| walk_at "rv") => `(tactic| first
  | exact rv_I0
  | exact rv_big
  | (apply rv_mod; first | omega | decide | assumption)
  | (apply rv_mulR <;> first | omega | decide)
  | (apply rv_mulL <;> first | omega | decide)
  | (apply rv_fdiv <;> first | omega | decide | assumption)
  | (apply rv_shl <;> first | omega | decide)
  | (apply rv_shr; first | omega | decide)
  | (apply rv_repS; first | omega | decide)
  | exact rv_eqI
  | exact rv_neI
  | exact rv_eqS
  | exact rv_neS
  | exact rv_eq rfl
  | exact rv_ne rfl
  | exact ru_neg
  | (apply rv_addS; first | assumption | omega | decide)
  | (apply rv_ixL (ex_l (by assumption) (by assumption)); assumption)
  | (apply rv_ixL (sq_of (by assumption)); assumption)
  | (apply rv_ixT (st_of (by assumption)); assumption)
  | (apply rv_ixT (ex_t (by assumption) (by assumption)); assumption))
local macro_rules | `(tactic| walk_at "rc") => `(tactic| first
  | exact rc_len (ex_l (by assumption) (by assumption))
  | exact rc_len (sq_of (by assumption))
  | (apply rc_lenS; first | assumption | omega)
  | exact rc_isi tye_str (kit_ty (by decide +kernel))
  | exact rc_isi tye_int (kit_ty (by decide +kernel))
  | exact rc_isi (tye_lst (by assumption)) (kit_ty (by decide +kernel))
  | exact rc_isi (tye_tup (by assumption)) (kit_ty (by decide +kernel))
  | exact rc_isi (tye_sq (ex_l (by assumption) (by assumption))) (kit_ty (by decide +kernel))
  | exact rc_lenT (st_of (by assumption))
  | exact rc_max2
  | exact rc_min2
  | exact rc_min4
  | exact rc_int1
  | exact rc_intB)
local macro_rules | `(tactic| walk_at "ea") => `(tactic| first
  | exact ea_nil
  | (apply ea_cons; (walk_at "ev"); (walk_at "ea")))
local macro_rules | `(tactic| walk_at "ev") => `(tactic| first
  | exact ev_c
  | exact ev_var rfl
  | (apply ev_op; (walk_at "ev"); (walk_at "ev"); (walk_at "rv"))
  | (apply ev_un; (walk_at "ev"); (walk_at "rv"))
  | (apply ev_cb; (walk_at "ea"); (walk_at "rc"))
  | (apply ev_call; (walk_at "ea"); (walk_at "sp"))
  | (apply ev_notV; (walk_at "ev"))
  | (apply ev_andV; (walk_at "ev"); (intro _; (walk_at "ev")))
  | (apply ev_orV; (walk_at "ev"); (intro _; (walk_at "ev")))
  | (apply ev_chainB; (walk_at "ev"); (walk_at "ev"); (walk_at "rv"); (walk_at "ev"); (walk_at "rv")))
local macro_rules | `(tactic| walk_at "et") => `(tactic| first
  | (apply et_test; (walk_at "ev"))
  | (apply et_B; (walk_at "ev"))
  | (apply et_not; (walk_at "et"))
  | (apply et_and; (walk_at "et"); (intro _; (walk_at "et")))
  | (apply et_or; (walk_at "et"); (intro _; (walk_at "et"))))
local macro_rules | `(tactic| walk_at "eu") => `(tactic| (apply eu_tup; (walk_at "ea"); (exact Nat.le_of_ble_eq_true rfl)))
section
variable {P : Program} {w : World} {K : PySem.W.Frag} {mg : Str → Option Value} {base : Heap}
theorem gHigh_ok {ns : List Int} {b m : Int} (h : 0 < m) (h2 : m ≤ 16) : 1 ≤ gHigh ns b m ∧ gHigh ns b m ≤ 16 := by
  have d1 := drawM_lo (c := gCell ns b) (k := 1) h
  have d2 := drawM_hi (c := gCell ns b) (k := 1) h
  unfold gHigh
  omega
theorem gWide_ok {ns : List Int} {b m : Int} (h : 0 < m) (h2 : m ≤ 16) : 1 ≤ gWide ns b m ∧ gWide ns b m ≤ 16 := by
  have d1 := drawM_lo (c := gCell ns b) (k := 2) h
  have d2 := drawM_hi (c := gCell ns b) (k := 2) h
  unfold gWide
  omega
theorem lp_grid {a : Addr} {ns : List Int} {b m : Int} {σ : L2.St} {H : Hp} {ta : TA} (ha : EvA ta σ H [.ref a, .int b, .int m]) (hS : SqL K H a (ns.map V.int)) (hb : 0 ≤ b) (hm : 0 < m) (hm2 : m ≤ 16) :
    EvLP (tCall (spGrid K) [] E0 ta) σ H fun xs _ => xs = (gridM ns b m).map V.str :=
  evlp_call ha fun H1 e Q q => ⟨a, ns, b, m, rfl, ex_l e hS, hb, hm, hm2, fun p H' np e' hp => q p _ H' np e' hp rfl⟩
end
end MW

namespace MW
open PySem PySem.Spec PyProof.Rows L2 Evl
local macro_rules | `(tactic| walk_at "rv") => `(tactic| first
  | exact rv_I0
  | exact rv_big
  | (apply rv_mod; first | omega | decide | assumption)
  | (apply rv_mulR <;> first | omega | decide)
  | (apply rv_mulL <;> first | omega | decide)
  | (apply rv_fdiv <;> first | omega | decide | assumption)
  | (apply rv_shl <;> first | omega | decide)
  | (apply rv_shr; first | omega | decide)
  | (apply rv_repS; first | omega | decide)
  | exact rv_eqI
  | exact rv_neI
  | exact rv_eqS
  | exact rv_neS
  | exact rv_eq rfl
  | exact rv_ne rfl
  | exact ru_neg
  | (apply rv_addS; first | assumption | omega | decide)
  | (apply rv_ixL (ex_l (by assumption) (by assumption)); assumption)
  | (apply rv_ixL (sq_of (by assumption)); assumption)
  | (apply rv_ixT (st_of (by assumption)); assumption)
  | (apply rv_ixT (ex_t (by assumption) (by assumption)); assumption))
local macro_rules | `(tactic| walk_at "rc") => `(tactic| first
  | exact rc_len (ex_l (by assumption) (by assumption))
  | exact rc_len (sq_of (by assumption))
  | (apply rc_lenS; first | assumption | omega)
  | exact rc_isi tye_str (kit_ty (by decide +kernel))
  | exact rc_isi tye_int (kit_ty (by decide +kernel))
  | exact rc_isi (tye_lst (by assumption)) (kit_ty (by decide +kernel))
  | exact rc_isi (tye_tup (by assumption)) (kit_ty (by decide +kernel))
  | exact rc_isi (tye_sq (ex_l (by assumption) (by assumption))) (kit_ty (by decide +kernel))
  | exact rc_lenT (st_of (by assumption))
  | exact rc_max2
  | exact rc_min2
  | exact rc_min4
  | exact rc_int1
  | exact rc_intB)
local macro_rules | `(tactic| walk_at "ea") => `(tactic| first
  | exact ea_nil
  | (apply ea_cons; (walk_at "ev"); (walk_at "ea")))
local macro_rules | `(tactic| walk_at "ev") => `(tactic| first
  | exact ev_c
  | exact ev_var rfl
  | (apply ev_op; (walk_at "ev"); (walk_at "ev"); (walk_at "rv"))
  | (apply ev_un; (walk_at "ev"); (walk_at "rv"))
  | (apply ev_cb; (walk_at "ea"); (walk_at "rc"))
  | (apply ev_call; (walk_at "ea"); (walk_at "sp"))
  | (apply ev_notV; (walk_at "ev"))
  | (apply ev_andV; (walk_at "ev"); (intro _; (walk_at "ev")))
  | (apply ev_orV; (walk_at "ev"); (intro _; (walk_at "ev")))
  | (apply ev_chainB; (walk_at "ev"); (walk_at "ev"); (walk_at "rv"); (walk_at "ev"); (walk_at "rv")))
local macro_rules | `(tactic| walk_at "et") => `(tactic| first
  | (apply et_test; (walk_at "ev"))
  | (apply et_B; (walk_at "ev"))
  | (apply et_not; (walk_at "et"))
  | (apply et_and; (walk_at "et"); (intro _; (walk_at "et")))
  | (apply et_or; (walk_at "et"); (intro _; (walk_at "et"))))
local macro_rules | `(tactic| walk_at "eu") => `(tactic| (apply eu_tup; (walk_at "ea"); (exact Nat.le_of_ble_eq_true rfl)))
section
variable {P : Program} {w : World} {K : PySem.W.Frag} {mg : Str → Option Value} {base : Heap}
/-! the module's own constants -/
structure Mc (mg : Str → Option Value) : Prop where
  LAND : ∃ t, mg "LAND" = some (.str (signS true) t)
  WATER : ∃ t, mg "WATER" = some (.str (signS false) t)
  MOST : ∃ t, mg "MOST" = some (.int 16 t)
abbrev st_check_row : Stmt := topS 9
theorem sc_check_row : FnScope ["row", "sign"] ["row"] (defScope st_check_row) :=
  ⟨rfl, rfl, rfl, by decide +kernel, rfl, by decide +kernel, by decide +kernel⟩
def spRow : Sp := fun vs H Q _ => ∃ (f : Nat → Bool) (n : Nat), vs = [.str (rowS f n)] ∧ 1 ≤ n ∧ n ≤ 16 ∧ ∀ H', Ex H H' → Q .non H'
theorem ok_row {f : Addr} {fd : FuncData} (B : Bl mg) (T : Mc mg) (F : At K mg "check_row" ["row"] st_check_row f fd) : Cal P w K mg base "check_row" 1 ["row"] spRow := by
  refine F.ok sc_check_row (fun vs H Q E h => ?_) (fun cdv A outer s H vs Q E hr h => ?_)
  · obtain ⟨f, n, rfl, _⟩ := h
    rfl
  · obtain ⟨f, n, rfl, h1, h2, q⟩ := h
    have hl := rowS_len f n
    refine ⟨_, (pss_cons (ps_if (PW.pt (pw_or (pt_not (pt_val (pe_callB (call_isiK (K := K) rfl) (by rfl) B.isinstance (by decide +kernel) (pa_cons (pv 0) (pa_cons (pe_ty (T := "str") (by rfl) B.str (by decide +kernel)) pa_nil))))) (pw_or1 (pt_not (pt_chain op_le op_le pe_int (pe_callB call_len_str (by rfl) B.len (by decide +kernel) (pa_cons (pv 0) pa_nil)) (pe_gI (by rfl) T.MOST))))))
  (pss_one ps_never)
  pss_nil)
  (pss_one (ps_for PassesOwn.never rfl (pi_str (pv 0)) (pg_name (i := 1) sc_check_row.nd rfl (Or.inl rfl))
  (pss_one (ps_if (pt_cmpR (op_notInK (K := K) rfl) (pv 1) (pe_tup (pa_cons (pe_gS (by rfl) T.LAND) (pa_cons (pe_gS (by rfl) T.WATER) pa_nil))) (by with_unfolding_all rfl))
  (pss_one ps_never)
  pss_nil))))), ?_⟩
    refine q_when (b := (!true || !(decide ((1 : Int) ≤ ((rowS f n).length : Nat)) && decide (((rowS f n).length : Int) ≤ 16)))) (by walk_at "et") (fun hb H1 e1 => ?_) (fun hb H1 e1 => ?_)
    · exfalso
      rw [decide_eq_true (by omega), decide_eq_true (by omega)] at hb
      cases hb
    · refine s_forS (z := rowS f n) (ev_var rfl) (fun i σ' H' => ∃ y, σ' = [some (.str (rowS f n)), y] ∧ Ex H H') ?_ ?_ ?_
      · intro H2 e2
        exact ⟨none, rfl, e1.trans e2⟩
      · rintro i c σ' H' hc ⟨y, rfl, e⟩
        have hi : i < n := by
          have := (Array.getElem?_eq_some_iff.mp hc).1
          rw [rowS_size] at this
          exact this
        rw [rowS_get f hi] at hc
        cases hc
        refine s_when (b := false) ?_ (fun hb => nomatch hb) (fun _ H2 e2 => ⟨_, rfl, e.trans e2⟩)
        refine et_test (ev_is (ev_niU (ev_var rfl) (by walk_at "eu") rfl rfl) ?_)
        cases f i <;> decide
      · rintro σ' H' ⟨y, rfl, e⟩
        exact q H' e

theorem sv_row {f : Nat → Bool} {n : Nat} {H : Hp} (h1 : 1 ≤ n) (h2 : n ≤ 16) : SpV spRow [.str (rowS f n)] H .non := fun H1 e _ q _ => ⟨f, n, rfl, h1, h2, q⟩
local macro_rules | `(tactic| walk_at "sp") => `(tactic| (apply sv_row <;> assumption))
abbrev st_check_grid : Stmt := topS 8
theorem sc_check_grid : FnScope ["grid", "row"] ["grid"] (defScope st_check_grid) :=
  ⟨rfl, rfl, rfl, by decide +kernel, rfl, by decide +kernel, by decide +kernel⟩
def spCheck (K : PySem.W.Frag) : Sp := fun vs H Q _ => ∃ (a : Addr) (h w : Nat) (f : Nat → Nat → Bool), vs = [.ref a] ∧ SqL K H a ((gridS h w f).map V.str) ∧ 1 ≤ h ∧ h ≤ 16 ∧ 1 ≤ w ∧ w ≤ 16 ∧ ∀ H', Ex H H' → Q .non H'
theorem ok_check {f : Addr} {fd : FuncData} (B : Bl mg) (T : Mc mg) (C_check_row : Cal P w K mg base "check_row" 1 ["row"] spRow) (F : At K mg "check_grid" ["grid"] st_check_grid f fd) :
    Cal P w K mg base "check_grid" 2 ["grid"] (spCheck K) := by
  refine F.ok sc_check_grid (fun vs H Q E h => ?_) (fun cdv A outer s H vs Q E hr h => ?_)
  · obtain ⟨a, h, w, f, rfl, _⟩ := h
    rfl
  · obtain ⟨a, h, w, f, rfl, hS, h1, h2, w1, w2, q⟩ := h
    have e : Ex H H := Ex.refl H
    have hl : ((gridS h w f).map V.str).length = h := by rw [List.length_map, gridS_len]
    refine ⟨_, (pss_cons (ps_if (PW.pt (pw_or (pt_not (pt_val (pe_callB (call_isiK (K := K) rfl) (by rfl) B.isinstance (by decide +kernel) (pa_cons (pv 0) (pa_cons (pe_ty (T := "list") (by rfl) B.list (by decide +kernel)) pa_nil))))) (pw_or1 (pt_not (pt_chain op_le op_le pe_int (pe_callB (call_lenK (K := K) rfl) (by rfl) B.len (by decide +kernel) (pa_cons (pv 0) pa_nil)) (pe_gI (by rfl) T.MOST))))))
  (pss_one ps_never)
  pss_nil)
  (pss_one (ps_for PassesOwn.never rfl (pi_listK (K := K) rfl (pv 0)) (pg_name (i := 1) sc_check_grid.nd rfl (Or.inl rfl))
  (pss_cons (ps_expr (pe_cal C_check_row (hr.mono (by decide)) (by rfl) (pa_cons (pv 1) pa_nil)))
  (pss_one (ps_if (pt_cmpR op_ne (pe_callB call_len_str (by rfl) B.len (by decide +kernel) (pa_cons (pv 1) pa_nil)) (pe_callB call_len_str (by rfl) B.len (by decide +kernel) (pa_cons (pe_ix (ix_listK (K := K) rfl) (pv 0) pe_int (fun _ _ => rfl)) pa_nil)) (nomark _))
  (pss_one ps_never)
  pss_nil)))))), ?_⟩
    refine q_when (b := (!true || !(decide ((1 : Int) ≤ (((gridS h w f).map V.str).length : Nat)) && decide ((((gridS h w f).map V.str).length : Int) ≤ 16)))) (by walk_at "et") (fun hb H1 e1 => ?_) (fun hb H1 e1 => ?_)
    · exfalso
      rw [decide_eq_true (by omega), decide_eq_true (by omega)] at hb
      cases hb
    · refine s_forL (ev_var rfl) (ex_l e1 hS) (fun i σ' H' => ∃ y, σ' = [some (.ref a), y] ∧ Ex H H') ?_ ?_ ?_ ?_
      · intro H2 e2
        exact ⟨none, rfl, e1.trans e2⟩
      · rintro i σ' H' _ ⟨y, rfl, e⟩
        exact ex_l e hS
      · rintro i x σ' H' hx ⟨y, rfl, e⟩
        have hi : i < h := by
          have := (List.getElem?_eq_some_iff.mp hx).1
          omega
        rw [List.getElem?_map, gridS_get f hi] at hx
        cases hx
        have hat := grid_at (h := h) (w := w) (f := f) (r := 0) (by omega) (by omega)
        have l1 := rowS_len (f i) w
        have l2 := rowS_len (f (0 : Int).toNat) w
        refine q_drop (v := .non) (by walk_at "ev") (fun H3 e3 => ?_)
        have e := e.trans e3
        refine s_when (b := !decide (((rowS (f i) w).length : Int) = ((rowS (f (0 : Int).toNat) w).length : Nat))) (by walk_at "et") (fun hb => ?_) (fun _ H2 e2 => ⟨_, rfl, e.trans e2⟩)
        exfalso
        rw [decide_eq_true (by omega)] at hb
        cases hb
      · rintro σ' H' ⟨y, rfl, e⟩
        exact q H' e

theorem sv_check {a : Addr} {h w : Nat} {f : Nat → Nat → Bool} {H : Hp} (hS : SqL K H a ((gridS h w f).map V.str)) (h1 : 1 ≤ h) (h2 : h ≤ 16) (w1 : 1 ≤ w) (w2 : w ≤ 16) : SpV (spCheck K) [.ref a] H .non :=
  fun H1 e _ q _ => ⟨a, h, w, f, rfl, ex_l e hS, h1, h2, w1, w2, q⟩
local macro_rules | `(tactic| walk_at "sp") => `(tactic| (apply sv_check (ex_l (by assumption) (by assumption)) <;> assumption))
end
end MW

namespace MW
open PySem PySem.Spec PyProof.Rows L2 Evl
local macro_rules | `(tactic| walk_at "rv") => `(tactic| first
  | exact rv_I0
  | exact rv_big
  | (apply rv_mod; first | omega | decide | assumption)
  | (apply rv_mulR <;> first | omega | decide)
  | (apply rv_mulL <;> first | omega | decide)
  | (apply rv_fdiv <;> first | omega | decide | assumption)
  | (apply rv_shl <;> first | omega | decide)
  | (apply rv_shr; first | omega | decide)
  | (apply rv_repS; first | omega | decide)
  | exact rv_eqI
  | exact rv_neI
  | exact rv_eqS
  | exact rv_neS
  | exact rv_eq rfl
  | exact rv_ne rfl
  | exact ru_neg
  | (apply rv_addS; first | assumption | omega | decide)
  | (apply rv_ixL (ex_l (by assumption) (by assumption)); assumption)
  | (apply rv_ixL (sq_of (by assumption)); assumption)
  | (apply rv_ixT (st_of (by assumption)); assumption)
  | (apply rv_ixT (ex_t (by assumption) (by assumption)); assumption))
local macro_rules | `(tactic| walk_at "rc") => `(tactic| first
  | exact rc_len (ex_l (by assumption) (by assumption))
  | exact rc_len (sq_of (by assumption))
  | (apply rc_lenS; first | assumption | omega)
  | exact rc_isi tye_str (kit_ty (by decide +kernel))
  | exact rc_isi tye_int (kit_ty (by decide +kernel))
  | exact rc_isi (tye_lst (by assumption)) (kit_ty (by decide +kernel))
  | exact rc_isi (tye_tup (by assumption)) (kit_ty (by decide +kernel))
  | exact rc_isi (tye_sq (ex_l (by assumption) (by assumption))) (kit_ty (by decide +kernel))
  | exact rc_lenT (st_of (by assumption))
  | exact rc_max2
  | exact rc_min2
  | exact rc_min4
  | exact rc_int1
  | exact rc_intB)
local macro_rules | `(tactic| walk_at "ea") => `(tactic| first
  | exact ea_nil
  | (apply ea_cons; (walk_at "ev"); (walk_at "ea")))
local macro_rules | `(tactic| walk_at "ev") => `(tactic| first
  | exact ev_c
  | exact ev_var rfl
  | (apply ev_op; (walk_at "ev"); (walk_at "ev"); (walk_at "rv"))
  | (apply ev_un; (walk_at "ev"); (walk_at "rv"))
  | (apply ev_cb; (walk_at "ea"); (walk_at "rc"))
  | (apply ev_call; (walk_at "ea"); (walk_at "sp"))
  | (apply ev_notV; (walk_at "ev"))
  | (apply ev_andV; (walk_at "ev"); (intro _; (walk_at "ev")))
  | (apply ev_orV; (walk_at "ev"); (intro _; (walk_at "ev")))
  | (apply ev_chainB; (walk_at "ev"); (walk_at "ev"); (walk_at "rv"); (walk_at "ev"); (walk_at "rv")))
local macro_rules | `(tactic| walk_at "et") => `(tactic| first
  | (apply et_test; (walk_at "ev"))
  | (apply et_B; (walk_at "ev"))
  | (apply et_not; (walk_at "et"))
  | (apply et_and; (walk_at "et"); (intro _; (walk_at "et")))
  | (apply et_or; (walk_at "et"); (intro _; (walk_at "et"))))
local macro_rules | `(tactic| walk_at "eu") => `(tactic| (apply eu_tup; (walk_at "ea"); (exact Nat.le_of_ble_eq_true rfl)))
section
variable {P : Program} {w : World} {K : PySem.W.Frag} {mg : Str → Option Value} {base : Heap}
abbrev st__law_is_grid : Stmt := topS 18
theorem sc__law_is_grid : FnScope ["_law_found", "_law_row"] ["_law_found"] (defScope st__law_is_grid) :=
  ⟨rfl, rfl, rfl, by decide +kernel, rfl, by decide +kernel, by decide +kernel⟩
def spIsGrid : Sp := fun vs H Q _ => ∃ (a : Addr) (xs : List Str), vs = [.ref a] ∧ H a = some (.lst (xs.map V.str)) ∧ xs.length ≤ 40000 ∧ ∀ H', Ex H H' → Q (.bl true) H'
theorem g_all_rep (n : Nat) : (List.replicate n true).all id = true := by
  induction n with
  | zero => rfl
  | succ n ih =>
    rw [List.replicate_succ, List.all_cons, ih]
    rfl
theorem g_rep_snoc (n : Nat) : (List.replicate (n + 1) true).map V.bl = (List.replicate n true).map V.bl ++ [V.bl true] := by
  rw [List.replicate_succ', List.map_append]
  rfl
theorem ok_isGrid {f : Addr} {fd : FuncData} (B : Bl mg) (F : At K mg "_law_is_grid" ["_law_found"] st__law_is_grid f fd) : Cal P w K mg base "_law_is_grid" 1 ["_law_found"] spIsGrid := by
  refine F.ok sc__law_is_grid (fun vs H Q E h => ?_) (fun cdv A outer s H vs Q E hr h => ?_)
  · obtain ⟨a, xs, rfl, _⟩ := h
    rfl
  · obtain ⟨a, xs, rfl, ha, hl, q⟩ := h
    refine ⟨_, (pss_one (ps_ret (pe_and (pe_callB (call_isiK (K := K) rfl) (by rfl) B.isinstance (by decide +kernel) (pa_cons (pv 0) (pa_cons (pe_ty (T := "list") (by rfl) B.list (by decide +kernel)) pa_nil))) (pe_one (pe_callB (cr_allK (K := K) rfl rfl) (by rfl) B.all (by decide +kernel) (pa_cons (pe_lc (own := [("_law_row", 1)]) rfl sc__law_is_grid.nd (pi_listK (K := K) rfl (pv 0)) (blkOk_by (own := [("_law_row", 1)]) (N := ["_law_found", "_law_row"]) (sc := defScope st__law_is_grid) (by decide +kernel)) (fun _ _ _ _ _ => (pg_name (i := 1) sc__law_is_grid.nd rfl (Or.inl rfl))) (fun _ _ _ _ _ => pts_nil) (fun _ _ _ _ _ => (pe_callB (call_isiK (K := K) rfl) (by rfl) B.isinstance (by decide +kernel) (pa_cons (pv 1) (pa_cons (pe_ty (T := "str") (by rfl) B.str (by decide +kernel)) pa_nil))))) pa_nil)))))), ?_⟩
    refine s_ret (v := .bl (true && (List.replicate xs.length true).all id)) (ev_andV (by walk_at "ev") (fun _ => ev_all ?_)) (fun H1 e1 => ?_)
    · have hn : (xs.map V.str).length = xs.length := List.length_map _
      rw [← hn]
      refine el_lcW (R := fun i ys _ => ys = (List.replicate i true).map V.bl) (walk_list (K := K) (a := a) (xs := xs.map V.str)) (by omega) (it_list (ev_var rfl) (sq_of ha)) (fun H' e => sq_of (e _ _ ha)) (fun _ => rfl) (fun _ _ _ _ _ r => r) ?_
      rintro i x H0 H' hi e0 ⟨rfl, hx⟩
      rw [List.getElem?_map, Option.map_eq_some_iff] at hx
      obtain ⟨z, _, rfl⟩ := hx
      refine ⟨_, fun Q k => k, rfl, Ex.refl _, true, fun H1 _ Q q => q H1 (Ex.refl H1), (fun z => nomatch z), fun _ => ?_⟩
      refine Ev.toP (v := .bl true) (by walk_at "ev") (fun H2 e2 ys H3 k r => ?_)
      rw [r, g_rep_snoc]
    · rw [g_all_rep]
      exact q H1 e1
theorem sv_isGrid {a : Addr} {xs : List Str} {H : Hp} (ha : H a = some (.lst (xs.map V.str))) (hl : xs.length ≤ 40000) : SpV spIsGrid [.ref a] H (.bl true) := fun H1 e _ q _ => ⟨a, xs, rfl, e _ _ ha, hl, q⟩
end
end MW

namespace MW
open PySem PySem.Spec PyProof.Rows L2 Evl
local macro_rules | `(tactic| walk_at "rv") => `(tactic| first
  | exact rv_I0
  | exact rv_big
  | (apply rv_mod; first | omega | decide | assumption)
  | (apply rv_mulR <;> first | omega | decide)
  | (apply rv_mulL <;> first | omega | decide)
  | (apply rv_fdiv <;> first | omega | decide | assumption)
  | (apply rv_shl <;> first | omega | decide)
  | (apply rv_shr; first | omega | decide)
  | (apply rv_repS; first | omega | decide)
  | exact rv_eqI
  | exact rv_neI
  | exact rv_eqS
  | exact rv_neS
  | exact rv_eq rfl
  | exact rv_ne rfl
  | exact ru_neg
  | (apply rv_addS; first | assumption | omega | decide)
  | (apply rv_ixL (ex_l (by assumption) (by assumption)); assumption)
  | (apply rv_ixL (sq_of (by assumption)); assumption)
  | (apply rv_ixT (st_of (by assumption)); assumption)
  | (apply rv_ixT (ex_t (by assumption) (by assumption)); assumption))
local macro_rules | `(tactic| walk_at "rc") => `(tactic| first
  | exact rc_len (ex_l (by assumption) (by assumption))
  | exact rc_len (sq_of (by assumption))
  | (apply rc_lenS; first | assumption | omega)
  | exact rc_isi tye_str (kit_ty (by decide +kernel))
  | exact rc_isi tye_int (kit_ty (by decide +kernel))
  | exact rc_isi (tye_lst (by assumption)) (kit_ty (by decide +kernel))
  | exact rc_isi (tye_tup (by assumption)) (kit_ty (by decide +kernel))
  | exact rc_isi (tye_sq (ex_l (by assumption) (by assumption))) (kit_ty (by decide +kernel))
  | exact rc_lenT (st_of (by assumption))
  | exact rc_max2
  | exact rc_min2
  | exact rc_min4
  | exact rc_int1
  | exact rc_intB)
local macro_rules | `(tactic| walk_at "ea") => `(tactic| first
  | exact ea_nil
  | (apply ea_cons; (walk_at "ev"); (walk_at "ea")))
local macro_rules | `(tactic| walk_at "ev") => `(tactic| first
  | exact ev_c
  | exact ev_var rfl
  | (apply ev_op; (walk_at "ev"); (walk_at "ev"); (walk_at "rv"))
  | (apply ev_un; (walk_at "ev"); (walk_at "rv"))
  | (apply ev_cb; (walk_at "ea"); (walk_at "rc"))
  | (apply ev_call; (walk_at "ea"); (walk_at "sp"))
  | (apply ev_notV; (walk_at "ev"))
  | (apply ev_andV; (walk_at "ev"); (intro _; (walk_at "ev")))
  | (apply ev_orV; (walk_at "ev"); (intro _; (walk_at "ev")))
  | (apply ev_chainB; (walk_at "ev"); (walk_at "ev"); (walk_at "rv"); (walk_at "ev"); (walk_at "rv")))
local macro_rules | `(tactic| walk_at "et") => `(tactic| first
  | (apply et_test; (walk_at "ev"))
  | (apply et_B; (walk_at "ev"))
  | (apply et_not; (walk_at "et"))
  | (apply et_and; (walk_at "et"); (intro _; (walk_at "et")))
  | (apply et_or; (walk_at "et"); (intro _; (walk_at "et"))))
local macro_rules | `(tactic| walk_at "eu") => `(tactic| (apply eu_tup; (walk_at "ea"); (exact Nat.le_of_ble_eq_true rfl)))
section
variable {P : Program} {w : World} {K : PySem.W.Frag} {mg : Str → Option Value} {base : Heap}
local macro_rules | `(tactic| walk_at "sp") => `(tactic| (apply sv_check (ex_l (by assumption) (by assumption)) <;> omega))
abbrev st_check_seam : Stmt := topS 12
theorem sc_check_seam : FnScope ["one", "other"] ["one", "other"] (defScope st_check_seam) :=
  ⟨rfl, rfl, rfl, by decide +kernel, rfl, by decide +kernel, by decide +kernel⟩
def spSeamC (K : PySem.W.Frag) : Sp := fun vs H Q _ => ∃ (a b : Addr) (h n m : Nat) (f g : Nat → Nat → Bool), vs = [.ref a, .ref b] ∧ SqL K H a ((gridS h n f).map V.str) ∧ SqL K H b ((gridS h m g).map V.str) ∧ 1 ≤ h ∧ h ≤ 16 ∧ 1 ≤ n ∧ 1 ≤ m ∧ n + m ≤ 16 ∧
  ∀ H', Ex H H' → Q .non H'
theorem ok_seamC {f : Addr} {fd : FuncData} (B : Bl mg) (T : Mc mg) (C_check_grid : Cal P w K mg base "check_grid" 2 ["grid"] (spCheck K)) (F : At K mg "check_seam" ["one", "other"] st_check_seam f fd) : Cal P w K mg base "check_seam" 3 ["one", "other"] (spSeamC K) := by
  refine F.ok sc_check_seam (fun vs H Q E h => ?_) (fun cdv A outer s H vs Q E hr h => ?_)
  · obtain ⟨a, b, h, n, m, f, g, rfl, _⟩ := h
    rfl
  · obtain ⟨a, b, h, n, m, f, g, rfl, hS, hS2, h1, h2, n1, m1, nm, q⟩ := h
    have e : Ex H H := Ex.refl H
    refine ⟨_, (pss_cons (ps_expr (pe_cal C_check_grid (hr.mono (by decide)) (by rfl) (pa_cons (pv 0) pa_nil)))
  (pss_cons (ps_expr (pe_cal C_check_grid (hr.mono (by decide)) (by rfl) (pa_cons (pv 1) pa_nil)))
  (pss_cons (ps_if (pt_cmpR op_ne (pe_callB (call_lenK (K := K) rfl) (by rfl) B.len (by decide +kernel) (pa_cons (pv 0) pa_nil)) (pe_callB (call_lenK (K := K) rfl) (by rfl) B.len (by decide +kernel) (pa_cons (pv 1) pa_nil)) (nomark _))
  (pss_one ps_never)
  pss_nil)
  (pss_one (ps_if (pt_cmpR op_gt (pe_op op_add (pe_callB call_len_str (by rfl) B.len (by decide +kernel) (pa_cons (pe_ix (ix_listK (K := K) rfl) (pv 0) pe_int (fun _ _ => rfl)) pa_nil)) (pe_callB call_len_str (by rfl) B.len (by decide +kernel) (pa_cons (pe_ix (ix_listK (K := K) rfl) (pv 1) pe_int (fun _ _ => rfl)) pa_nil))) (pe_gI (by rfl) T.MOST) (nomark _))
  (pss_one ps_never)
  pss_nil))))), ?_⟩
    refine q_drop (v := .non) (ev_call (by walk_at "ea") (sv_check (ex_l e hS) h1 h2 n1 (by omega))) (fun H1 e1 => ?_)
    have e := e.trans e1
    refine q_drop (v := .non) (ev_call (by walk_at "ea") (sv_check (ex_l e hS2) h1 h2 m1 (by omega))) (fun H2 e2 => ?_)
    have e := e.trans e2
    have l1 : (((gridS h n f).map V.str).length : Int) = h := by rw [List.length_map, gridS_len]
    have l2 : (((gridS h m g).map V.str).length : Int) = h := by rw [List.length_map, gridS_len]
    refine q_when (b := false) ?_ (fun hb => by cases hb) (fun _ H3 e3 => ?_)
    · refine et_is (a := !decide ((((gridS h n f).map V.str).length : Int) = (((gridS h m g).map V.str).length : Nat))) ?_ (by rw [l1, l2, decide_eq_true rfl]; rfl)
      exact et_test (ev_op (ev_cb (by walk_at "ea") (rc_len (ex_l e hS))) (ev_cb (by walk_at "ea") (rc_len (ex_l e hS2))) rv_neI)
    have e := e.trans e3
    have at1 := grid_at (h := h) (w := n) (f := f) (r := 0) (by omega) (by omega)
    have at2 := grid_at (h := h) (w := m) (f := g) (r := 0) (by omega) (by omega)
    have k1 := rowS_len (f (0 : Int).toNat) n
    have k2 := rowS_len (g (0 : Int).toNat) m
    refine s_when (b := false) ?_ (fun hb => by cases hb) (fun _ H4 e4 => q H4 (e.trans e4))
    refine et_is (a := decide (((rowS (f (0 : Int).toNat) n).length : Int) + ((rowS (g (0 : Int).toNat) m).length : Nat) > 16)) (et_test (ev_op (ev_op (ev_cb (ea_cons (ev_op (ev_var rfl) ev_c (rv_ixL (ex_l e hS) at1)) ea_nil) (rc_lenS (by omega))) (ev_cb (ea_cons (ev_op (ev_var rfl) ev_c (rv_ixL (ex_l e hS2) at2)) ea_nil) (rc_lenS (by omega))) rv_I0) ev_c rv_I0)) ?_
    rw [k1, k2]
    exact decide_eq_false (by omega)
theorem sv_seamC {a b : Addr} {h n m : Nat} {f g : Nat → Nat → Bool} {H : Hp} (hS : SqL K H a ((gridS h n f).map V.str)) (hS2 : SqL K H b ((gridS h m g).map V.str)) (h1 : 1 ≤ h) (h2 : h ≤ 16) (n1 : 1 ≤ n) (m1 : 1 ≤ m) (nm : n + m ≤ 16) :
    SpV (spSeamC K) [.ref a, .ref b] H .non := fun H1 e _ q _ => ⟨a, b, h, n, m, f, g, rfl, ex_l e hS, ex_l e hS2, h1, h2, n1, m1, nm, q⟩
abbrev st_beside : Stmt := topS 11
theorem sc_beside : FnScope ["one", "other", "left", "right"] ["one", "other"] (defScope st_beside) :=
  ⟨rfl, rfl, rfl, by decide +kernel, rfl, by decide +kernel, by decide +kernel⟩
def spBeside (K : PySem.W.Frag) : Sp := fun vs H Q _ => ∃ (a b : Addr) (h n m : Nat) (f g : Nat → Nat → Bool), vs = [.ref a, .ref b] ∧ SqL K H a ((gridS h n f).map V.str) ∧ SqL K H b ((gridS h m g).map V.str) ∧ 1 ≤ h ∧ h ≤ 16 ∧ 1 ≤ n ∧ 1 ≤ m ∧ n + m ≤ 16 ∧
  ∀ p H', H p = none → Ex H H' → H' p = some (.lst ((gridS h (n + m) (catF n f g)).map V.str)) → Q (.ref p) H'
theorem ok_beside {f : Addr} {fd : FuncData} (B : Bl mg) (C_check_seam : Cal P w K mg base "check_seam" 3 ["one", "other"] (spSeamC K)) (F : At K mg "beside" ["one", "other"] st_beside f fd) : Cal P w K mg base "beside" 4 ["one", "other"] (spBeside K) := by
  refine F.ok sc_beside (fun vs H Q E h => ?_) (fun cdv A outer s H vs Q E hr h => ?_)
  · obtain ⟨a, b, h, n, m, f, g, rfl, _⟩ := h
    rfl
  · obtain ⟨a, b, h, n, m, f, g, rfl, hS, hS2, h1, h2, n1, m1, nm, q⟩ := h
    have e : Ex H H := Ex.refl H
    refine ⟨_, (pss_cons (ps_expr (pe_cal C_check_seam (hr.mono (by decide)) (by rfl) (pa_cons (pv 0) (pa_cons (pv 1) pa_nil))))
  (pss_one (ps_ret (pe_lcP (i := 2) (j := 3) (own := [("left", 2), ("right", 3)]) rfl sc_beside.nd (pi_zip (by rfl) B.zip (pa_cons (pv 0) (pa_cons (pv 1) pa_nil))) (blkOk_by (own := [("left", 2), ("right", 3)]) (N := ["one", "other", "left", "right"]) (sc := defScope st_beside) (by decide +kernel)) rfl rfl rfl rfl (fun _ _ _ _ _ => pts_nil) (fun _ _ _ _ _ => (pe_op op_add_str (pv 2) (pv 3))))))), ?_⟩
    refine q_drop (v := .non) (ev_call (by walk_at "ea") (sv_seamC hS hS2 h1 h2 n1 m1 nm)) (fun H1 e1 => ?_)
    refine s_retLP (P := fun ys _ => ys = (gridS h (n + m) (catF n f g)).map V.str) ?_ (fun p xs H2 np e2 hp hx => q p H2 (fresh_back e1 np) (e1.trans e2) (hx ▸ hp))
    have l1 : ((gridS h n f).map V.str).length = h := by rw [List.length_map, gridS_len]
    have l2 : ((gridS h m g).map V.str).length = h := by rw [List.length_map, gridS_len]
    refine el_lcW (R := fun i ys _ => ys = (gridS i (n + m) (catF n f g)).map V.str) (walk_zip (K := K) (a := a) (b := b) (xs := (gridS h n f).map V.str) (ys := (gridS h m g).map V.str) (n := h) (by omega)) (by omega) (it_zip (by walk_at "ea") (ex_l e1 hS) (ex_l e1 hS2)) (fun H' e => ⟨ex_l (e1.trans e) hS, ex_l (e1.trans e) hS2⟩) (fun _ => rfl) (fun _ _ _ _ _ r => r) ?_
    rintro i v H3 H4 hi e3 ⟨t, x, y, rfl, nt, eh, hx, hy⟩
    have hx : ((gridS h n f).map V.str)[i]? = some x := hx
    have hy : ((gridS h m g).map V.str)[i]? = some y := hy
    rw [List.getElem?_map, gridS_get f hi] at hx
    rw [List.getElem?_map, gridS_get g hi] at hy
    cases hx
    cases hy
    have k1 := rowS_len (f i) n
    have k2 := rowS_len (g i) m
    refine ⟨_, fun Q k => g_pair rfl eh k, rfl, by rw [eh]; exact Ex.new nt, true, fun H1 _ Q q => q H1 (Ex.refl H1), (fun z => nomatch z), fun _ => ?_⟩
    refine Ev.toP (v := .str (rowS (f i) n ++ rowS (g i) m)) (by walk_at "ev") (fun H2 e2 ys H3 k r => ?_)
    rw [r, gridS_succ, List.map_append, cat_row]
    rfl
theorem lp_beside {a b : Addr} {h n m : Nat} {f g : Nat → Nat → Bool} {σ : L2.St} {H : Hp} {ta : TA} (ha : EvA ta σ H [.ref a, .ref b]) (hS : SqL K H a ((gridS h n f).map V.str)) (hS2 : SqL K H b ((gridS h m g).map V.str)) (h1 : 1 ≤ h) (h2 : h ≤ 16) (n1 : 1 ≤ n) (m1 : 1 ≤ m) (nm : n + m ≤ 16) :
    EvLP (tCall (spBeside K) [] E0 ta) σ H fun xs _ => xs = (gridS h (n + m) (catF n f g)).map V.str :=
  evlp_call ha fun H1 e Q q => ⟨a, b, h, n, m, f, g, rfl, ex_l e hS, ex_l e hS2, h1, h2, n1, m1, nm, fun p H' np e' hp => q p _ H' np e' hp rfl⟩
theorem lp_beside2 {h n m : Nat} {f g : Nat → Nat → Bool} {σ : L2.St} {H : Hp} {te te2 : TE} (he : EvLP te σ H fun xs _ => xs = (gridS h n f).map V.str) (he2 : EvLP te2 σ H fun xs _ => xs = (gridS h m g).map V.str) (h1 : 1 ≤ h) (h2 : h ≤ 16) (n1 : 1 ≤ n) (m1 : 1 ≤ m) (nm : n + m ≤ 16) :
    EvLP (tCall (spBeside K) [] E0 (tCons te (tCons te2 tNil))) σ H fun xs _ => xs = (gridS h (n + m) (catF n f g)).map V.str :=
  evlp_call2LP he he2 (fun _ _ _ _ r => r) fun a xs b ys H1 e ha ex hb ey Q q => ⟨a, b, h, n, m, f, g, rfl, sq_of (ex ▸ ha), sq_of (ey ▸ hb), h1, h2, n1, m1, nm, fun p H' np e' hp => q p _ H' np e' hp rfl⟩
end
end MW

namespace MW
open PySem PySem.Spec PyProof.Rows L2 Evl
local macro_rules | `(tactic| walk_at "rv") => `(tactic| first
  | exact rv_I0
  | exact rv_big
  | (apply rv_mod; first | omega | decide | assumption)
  | (apply rv_mulR <;> first | omega | decide)
  | (apply rv_mulL <;> first | omega | decide)
  | (apply rv_fdiv <;> first | omega | decide | assumption)
  | (apply rv_shl <;> first | omega | decide)
  | (apply rv_shr; first | omega | decide)
  | (apply rv_repS; first | omega | decide)
  | exact rv_eqI
  | exact rv_neI
  | exact rv_eqS
  | exact rv_neS
  | exact rv_eq rfl
  | exact rv_ne rfl
  | exact ru_neg
  | (apply rv_addS; first | assumption | omega | decide)
  | (apply rv_ixL (ex_l (by assumption) (by assumption)); assumption)
  | (apply rv_ixL (sq_of (by assumption)); assumption)
  | (apply rv_ixT (st_of (by assumption)); assumption)
  | (apply rv_ixT (ex_t (by assumption) (by assumption)); assumption))
local macro_rules | `(tactic| walk_at "rc") => `(tactic| first
  | exact rc_len (ex_l (by assumption) (by assumption))
  | exact rc_len (sq_of (by assumption))
  | (apply rc_lenS; first | assumption | omega)
  | exact rc_isi tye_str (kit_ty (by decide +kernel))
  | exact rc_isi tye_int (kit_ty (by decide +kernel))
  | exact rc_isi (tye_lst (by assumption)) (kit_ty (by decide +kernel))
  | exact rc_isi (tye_tup (by assumption)) (kit_ty (by decide +kernel))
  | exact rc_isi (tye_sq (ex_l (by assumption) (by assumption))) (kit_ty (by decide +kernel))
  | exact rc_lenT (st_of (by assumption))
  | exact rc_max2
  | exact rc_min2
  | exact rc_min4
  | exact rc_int1
  | exact rc_intB)
local macro_rules | `(tactic| walk_at "ea") => `(tactic| first
  | exact ea_nil
  | (apply ea_cons; (walk_at "ev"); (walk_at "ea")))
local macro_rules | `(tactic| walk_at "ev") => `(tactic| first
  | exact ev_c
  | exact ev_var rfl
  | (apply ev_op; (walk_at "ev"); (walk_at "ev"); (walk_at "rv"))
  | (apply ev_un; (walk_at "ev"); (walk_at "rv"))
  | (apply ev_cb; (walk_at "ea"); (walk_at "rc"))
  | (apply ev_call; (walk_at "ea"); (walk_at "sp"))
  | (apply ev_notV; (walk_at "ev"))
  | (apply ev_andV; (walk_at "ev"); (intro _; (walk_at "ev")))
  | (apply ev_orV; (walk_at "ev"); (intro _; (walk_at "ev")))
  | (apply ev_chainB; (walk_at "ev"); (walk_at "ev"); (walk_at "rv"); (walk_at "ev"); (walk_at "rv")))
local macro_rules | `(tactic| walk_at "et") => `(tactic| first
  | (apply et_test; (walk_at "ev"))
  | (apply et_B; (walk_at "ev"))
  | (apply et_not; (walk_at "et"))
  | (apply et_and; (walk_at "et"); (intro _; (walk_at "et")))
  | (apply et_or; (walk_at "et"); (intro _; (walk_at "et"))))
local macro_rules | `(tactic| walk_at "eu") => `(tactic| (apply eu_tup; (walk_at "ea"); (exact Nat.le_of_ble_eq_true rfl)))
section
variable {P : Program} {w : World} {K : PySem.W.Frag} {mg : Str → Option Value} {base : Heap}
local macro_rules | `(tactic| walk_at "sp") => `(tactic| (apply sv_isGrid (by assumption); rw [gridS_len]; omega))
def gD (h w : Nat) (f : Nat → Nat → Bool) : PyData := gridD h w f
theorem shp_two (h w1 w2 : Nat) (f g : Nat → Nat → Bool) : Shp (.list [gridD h w1 f, gridD h w2 g]) 2 := shp_list (n := 1) (by
  intro d hd
  rcases List.mem_cons.mp hd with rfl | hd
  · exact shp_grid _ _ _
  · rcases List.mem_cons.mp hd with rfl | hd
    · exact shp_grid _ _ _
    · cases hd)
abbrev st_law : Stmt := topS 19
theorem sc_law : FnScope ["_law_script", "_law_by", "_law_one", "_law_other", "_law_handed", "_law_again", "_law_found", "_law_at"] ["_law_script"] (defScope st_law) :=
  ⟨rfl, rfl, rfl, by decide +kernel, rfl, by decide +kernel, by decide +kernel⟩
def spLaw (K : PySem.W.Frag) : Sp := fun vs H Q _ => ∃ (a : Addr) (ns : List Int), vs = [.ref a] ∧ SqL K H a (ns.map V.int) ∧ ns.length ≤ 63 ∧ ∀ H', Q (.bl true) H'
theorem ok_law {f : Addr} {fd : FuncData} (B : Bl mg) (C__law_grid : Cal P w K mg base "_law_grid" 3 ["_law_script", "_law_by", "_law_most"] (spGrid K)) (C_beside : Cal P w K mg base "beside" 4 ["one", "other"] (spBeside K))
    (C__law_is_grid : Cal P w K mg base "_law_is_grid" 1 ["_law_found"] spIsGrid) (F : Fun K "law" "law" st_law f fd) : FnOk P w K mg base CX0 5 f fd ["_law_script"] (spLaw K) := by
  refine F.ok sc_law (fun vs H Q E h => ?_) (fun cdv A outer s H vs Q E hr h => ?_)
  · obtain ⟨a, ns, rfl, _⟩ := h
    rfl
  · obtain ⟨a, ns, rfl, hS, hlen, q⟩ := h
    refine ⟨_, (pss_cons (ps_set (i := 0) sc_law.nd rfl (Or.inl rfl) (pe_slice (sl_listK (K := K) rfl) (pv 0) po_none (po_some pe_int)))
  (pss_cons (ps_for PassesOwn.never rfl (pi_tupK (K := K) rfl (pe_tup (pa_cons pe_int (pa_cons pe_int (pa_cons pe_int pa_nil))))) (pg_name (i := 1) sc_law.nd rfl (Or.inl rfl))
  (pss_cons (ps_asg (pe_tup (pa_cons (pe_cal C__law_grid (hr.mono (by decide)) (by rfl) (pa_cons (pv 0) (pa_cons pe_int (pa_cons pe_int pa_nil)))) (pa_cons (pe_cal C__law_grid (hr.mono (by decide)) (by rfl) (pa_cons (pv 0) (pa_cons (pv 1) (pa_cons pe_int pa_nil)))) pa_nil))) (pg_tup rfl (pgs_cons (pg_name (i := 2) sc_law.nd rfl (Or.inr rfl)) (pgs_cons (pg_name (i := 3) sc_law.nd rfl (Or.inr rfl)) pgs_nil))))
  (pss_cons (ps_set (i := 3) sc_law.nd rfl (Or.inr rfl) (pe_slice (sl_listK (K := K) rfl) (pe_op op_rep (pv 3) (pe_callB (call_lenK (K := K) rfl) (by rfl) B.len (by decide +kernel) (pa_cons (pv 2) pa_nil))) po_none (po_some (pe_callB (call_lenK (K := K) rfl) (by rfl) B.len (by decide +kernel) (pa_cons (pv 2) pa_nil)))))
  (pss_cons (ps_set (i := 4) sc_law.nd rfl (Or.inl rfl) (pe_lst (pa_cons (pe_callTy (call_listK (K := K) rfl) (by rfl) B.list (by decide +kernel) (pa_cons (pv 2) pa_nil)) (pa_cons (pe_callTy (call_listK (K := K) rfl) (by rfl) B.list (by decide +kernel) (pa_cons (pv 3) pa_nil)) pa_nil))))
  (pss_one (ps_for PassesOwn.never rfl (pi_range1 (by rfl) B.range (pa_cons pe_int pa_nil)) (pg_name (i := 5) sc_law.nd rfl (Or.inl rfl))
  (pss_cons (ps_set (i := 6) sc_law.nd rfl (Or.inl rfl) (pe_cal C_beside (hr.mono (by decide)) (by rfl) (pa_cons (pe_ix (ix_listK (K := K) rfl) (pv 4) pe_int (fun _ _ => rfl)) (pa_cons (pe_ix (ix_listK (K := K) rfl) (pv 4) pe_int (fun _ _ => rfl)) pa_nil))))
  (pss_cons (ps_if (PW.pt (pw_or (pt_not (pt_val (pe_cal C__law_is_grid (hr.mono (by decide)) (by rfl) (pa_cons (pv 6) pa_nil)))) (pw_or1 (pt_cmpR (op_neDK (K := K) rfl hr.units) (pv 6) (pe_lc (own := [("_law_at", 7)]) rfl sc_law.nd (pi_range1 (by rfl) B.range (pa_cons (pe_callB (call_lenK (K := K) rfl) (by rfl) B.len (by decide +kernel) (pa_cons (pv 2) pa_nil)) pa_nil)) (blkOk_by (own := [("_law_at", 7)]) (N := ["_law_script", "_law_by", "_law_one", "_law_other", "_law_handed", "_law_again", "_law_found", "_law_at"]) (sc := defScope st_law) (by decide +kernel)) (fun _ _ _ _ _ => (pg_name (i := 7) sc_law.nd rfl (Or.inl rfl))) (fun _ _ _ _ _ => pts_nil) (fun _ _ _ _ _ => (pe_op op_add_str (pe_ix (ix_listK (K := K) rfl) (pv 2) (pv 7) (fun _ _ => rfl)) (pe_ix (ix_listK (K := K) rfl) (pv 3) (pv 7) (fun _ _ => rfl))))) (nomark _)))))
  (pss_one (ps_ret pe_bl))
  pss_nil)
  (pss_cons (ps_if (pt_cmpR (op_neDK (K := K) rfl hr.units) (pv 4) (pe_lst (pa_cons (pv 2) (pa_cons (pv 3) pa_nil))) (nomark _))
  (pss_one (ps_ret pe_bl))
  pss_nil)
  (pss_one (ps_expr (pe_bm PySem.F.plainAttrs_list PySem.F.slot_list_append PySem.F.type_list_append mt_append (pv 6) (pa_cons pe_str pa_nil)))))))))))))
  (pss_one (ps_ret (pe_and (pe_cmpR (op_eqDK (K := K) rfl hr.units) (pe_cal C_beside (hr.mono (by decide)) (by rfl) (pa_cons (pe_lst (pa_cons pe_str pa_nil)) (pa_cons (pe_lst (pa_cons pe_str pa_nil)) pa_nil))) (pe_lst (pa_cons pe_str pa_nil)) (nomark _)) (pe_one (pe_cmpR op_eq (pe_callB call_len_str (by rfl) B.len (by decide +kernel) (pa_cons (pe_ix (ix_listK (K := K) rfl) (pe_cal C_beside (hr.mono (by decide)) (by rfl) (pa_cons (pe_lst (pa_cons (pe_op op_repS pe_str pe_int) pa_nil)) (pa_cons (pe_lst (pa_cons (pe_op op_repS pe_str pe_int) pa_nil)) pa_nil))) pe_int (fun _ _ => rfl)) pa_nil)) pe_int (nomark _)))))))), ?_⟩
    refine q_asgL (xs := (ns.take 63).map V.int) ?_ (fun a2 H1 np e1 ha => ?_)
    · rw [← cut63]
      exact el_sl (ev_var rfl) eo_none (eo_some ev_c) hS
    generalize ns.take 63 = ns at ha
    refine q_forNT (xs := [.int 3, .int 7, .int 15]) (by walk_at "eu") (fun p i σ' H' => ∃ y1 y2 y3 y4 y5 y6 y7, σ' = [some (.ref a2), y1, y2, y3, y4, y5, y6, y7] ∧ H' a2 = some (.lst (ns.map V.int)) ∧ H' p = some (.tup [.int 3, .int 7, .int 15])) ?_ ?_ ?_ ?_
    · intro p H2 np2 e2 hp
      exact ⟨none, none, none, none, none, none, none, rfl, e2 _ _ ha, hp⟩
    · rintro p i σ' H' _ ⟨_, _, _, _, _, _, _, _, _, hp⟩
      exact st_of hp
    · rintro p i x σ' H' hx ⟨y1, y2, y3, y4, y5, y6, y7, rfl, ha, hp⟩
      obtain ⟨b, rfl, hb⟩ : ∃ b : Int, x = .int b ∧ 0 ≤ b := by
        match i, hx with
        | 0, hx => exact ⟨3, (Option.some.inj hx).symm, by decide⟩
        | 1, hx => exact ⟨7, (Option.some.inj hx).symm, by decide⟩
        | 2, hx => exact ⟨15, (Option.some.inj hx).symm, by decide⟩
      refine q_asg2 (lp_grid (ns := ns) (b := 0) (m := 8) (by walk_at "ea") (sq_of ha) (by decide) (by decide) (by decide)) (lp_grid (ns := ns) (b := b) (m := 8) (by walk_at "ea") (sq_of ha) hb (by decide) (by decide)) (fun _ _ _ _ r => r) (fun _ _ _ _ r => r) (fun o xs r ys H2 no nr nor e2 ho ex hr2 ey => ?_)
      subst ex
      subst ey
      have h8 : gHigh ns 0 8 ≤ 8 ∧ gWide ns 0 8 ≤ 8 ∧ gWide ns b 8 ≤ 8 := by
        have d1 := drawM_hi (c := gCell ns 0) (k := 1) (m := 8) (by decide)
        have d2 := drawM_hi (c := gCell ns 0) (k := 2) (m := 8) (by decide)
        have d3 := drawM_hi (c := gCell ns b) (k := 2) (m := 8) (by decide)
        unfold gHigh gWide
        omega
      obtain ⟨h1, h2⟩ := gHigh_ok (ns := ns) (b := 0) (m := 8) (by decide) (by decide)
      obtain ⟨w1, w2⟩ := gWide_ok (ns := ns) (b := 0) (m := 8) (by decide) (by decide)
      obtain ⟨k1, k2⟩ := gHigh_ok (ns := ns) (b := b) (m := 8) (by decide) (by decide)
      obtain ⟨v1, v2⟩ := gWide_ok (ns := ns) (b := b) (m := 8) (by decide) (by decide)
      unfold gridM at ho hr2
      generalize gHigh ns 0 8 = h at *
      generalize gWide ns 0 8 = n at *
      generalize gLand ns 0 8 = f at *
      generalize gHigh ns b 8 = k at *
      generalize gWide ns b 8 = m at *
      generalize gLand ns b 8 = g at *
      have ha := e2 _ _ ha
      have hp := e2 _ _ hp
      have lo : (((gridS h n f).map V.str).length : Int) = h := by rw [List.length_map, gridS_len]
      have lr : ((gridS k m g).map V.str).length = k := by rw [List.length_map, gridS_len]
      refine q_asgL (xs := (gridS h m fun i => g (i % k)).map V.str) ?_ (fun r H3 nr e3 hr2 => ?_)
      · rw [← rep_take (h := h) (by omega), ← cutV_to]
        have hev : Ev (tCB (rLen K) (tCons (tVar 2) tNil)) [some (V.ref a2), some (V.int b), some (V.ref o), some (V.ref r), y4, y5, y6, y7] H2 (V.int (h : Int)) := by
          rw [← lo]
          exact ev_cb (by walk_at "ea") (rc_len (sq_of ho))
        have e0 : ((h : Int)).toNat = h := Int.toNat_natCast h
        have el := el_rep (ta := tVar 3) (n := (h : Int)) (ev_var rfl) hr2 hev (by omega) (by omega) (by
          rw [e0, lr]
          have : k * h ≤ 16 * 16 := Nat.mul_le_mul k2 h2
          omega)
        rw [e0] at el
        exact el_slL el eo_none (eo_some hev)
      generalize hg' : (fun i => g (i % k)) = g' at hr2
      have ha := e3 _ _ ha
      have hp := e3 _ _ hp
      have ho := e3 _ _ ho
      refine q_asgL2 (P1 := fun xs _ => xs = (gridS h n f).map V.str) (P2 := fun xs _ => xs = (gridS h m g').map V.str) (EvL.toLP (el_listOf (ev_var rfl) (sq_of ho)) (fun _ _ => rfl)) (EvL.toLP (el_listOf (ev_var rfl) (sq_of hr2)) (fun _ _ => rfl)) (fun _ _ _ _ r => r) (fun _ _ _ _ r => r) (fun t c xs d ys H4 nt nc nd ncd e4 ht hc ex hd ey => ?_)
      subst ex
      subst ey
      have ha := e4 _ _ ha
      have hp := e4 _ _ hp
      have ho := e4 _ _ ho
      have hr2 := e4 _ _ hr2
      refine s_forR1 (n := 2) (by walk_at "ea") (by decide) (fun i σ' H' => ∃ y5 y6 y7, σ' = [some (.ref a2), some (.int b), some (.ref o), some (.ref r), some (.ref t), y5, y6, y7] ∧
          H' a2 = some (.lst (ns.map V.int)) ∧ H' p = some (.tup [.int 3, .int 7, .int 15]) ∧ H' o = some (.lst ((gridS h n f).map V.str)) ∧ H' r = some (.lst ((gridS h m g').map V.str)) ∧
          H' t = some (.lst [.ref c, .ref d]) ∧ H' c = some (.lst ((gridS h n f).map V.str)) ∧ H' d = some (.lst ((gridS h m g').map V.str))) ?_ ?_ ?_
      · intro H5 e5
        exact ⟨_, _, _, rfl, e5 _ _ ha, e5 _ _ hp, e5 _ _ ho, e5 _ _ hr2, e5 _ _ ht, e5 _ _ hc, e5 _ _ hd⟩
      · rintro i σ' H' hi ⟨y5, y6, y7, rfl, ha, hp, ho, hr2, ht, hc, hd⟩
        have i0 : atI [V.ref c, V.ref d] 0 = some (.ref c) := rfl
        have i1 : atI [V.ref c, V.ref d] 1 = some (.ref d) := rfl
        refine q_asgLP (lp_beside (ea_cons (ev_op (ev_var rfl) ev_c (rv_ixL (sq_of ht) i0)) (ea_cons (ev_op (ev_var rfl) ev_c (rv_ixL (sq_of ht) i1)) ea_nil)) (sq_of hc) (sq_of hd) h1 h2 w1 v1 (by omega)) (fun u xs H5 nu e5 hu ex => ?_)
        subst ex
        have n1 := ne_of_none ha nu
        have n2 := ne_of_none hp nu
        have n3 := ne_of_none ho nu
        have n4 := ne_of_none hr2 nu
        have n5 := ne_of_none ht nu
        have n6 := ne_of_none hc nu
        have n7 := ne_of_none hd nu
        have ho5 := e5 _ _ ho
        have hr5 := e5 _ _ hr2
        have ht5 := e5 _ _ ht
        have hc5 := e5 _ _ hc
        have hd5 := e5 _ _ hd
        refine q_when (b := (!true || false)) ?_ (fun hb => by cases hb) (fun _ H6 e6 => ?_)
        · refine et_or (et_not (et_B (ev_call (by walk_at "ea") (by walk_at "sp")))) (fun _ => et_test ?_)
          refine ev_neSame (d := gridD h (n + m) (catF n f g')) (evd_of (ev_var rfl) (dp_grid (sq_of hu))) (evd_lp (P := fun xs _ => xs = (gridS h (n + m) (catF n f g')).map V.str) ?_ fun p vs H' h' r => ?_) (shp_grid _ _ _) (by decide)
          · have hn : ((gridS h n f).map V.str).length = h := by rw [List.length_map, gridS_len]
            have it : Iter (iRng1 (tCons (tCB (rLen K) (tCons (tVar 2) tNil)) tNil)) [some (V.ref a2), some (V.int b), some (V.ref o), some (V.ref r), some (V.ref t), some (V.int (i : Nat)), some (V.ref u), y7] H5 (Itr 0 h) := by
              have it := it_rng1 (σ := [some (V.ref a2), some (V.int b), some (V.ref o), some (V.ref r), some (V.ref t), some (V.int (i : Nat)), some (V.ref u), y7]) (H := H5) (ta := tCons (tCB (rLen K) (tCons (tVar 2) tNil)) tNil) (n := (((gridS h n f).map V.str).length : Nat)) (by walk_at "ea") (by omega)
              rw [hn] at it
              exact it
            refine el_lcW (R := fun i ys _ => ys = (gridS i (n + m) (catF n f g')).map V.str) (walk_range (lo := 0) (n := h)) (by omega) it (fun _ _ => trivial) (fun _ => rfl) (fun _ _ _ _ _ r => r) ?_
            rintro j x H0 Ha hj e0 ⟨rfl, rfl⟩
            have j0 : (0 : Int) ≤ (0 : Int) + (j : Int) := by omega
            have j1 : (0 : Int) + (j : Int) < h := by omega
            have at1 := grid_at (h := h) (w := n) (f := f) j0 j1
            have at2 := grid_at (h := h) (w := m) (f := g') j0 j1
            have ej : ((0 : Int) + (j : Int)).toNat = j := by omega
            rw [ej] at at1 at2
            have l1 := rowS_len (f j) n
            have l2 := rowS_len (g' j) m
            refine ⟨_, fun Q k => k, rfl, Ex.refl _, true, fun H1 _ Q q => q H1 (Ex.refl H1), (fun z => nomatch z), fun _ => ?_⟩
            refine Ev.toP (v := .str (rowS (f j) n ++ rowS (g' j) m)) (ev_op (ev_op (ev_var rfl) (ev_var rfl) (rv_ixL (sq_of (e0 _ _ ho5)) at1)) (ev_op (ev_var rfl) (ev_var rfl) (rv_ixL (sq_of (e0 _ _ hr5)) at2)) (rv_addS (by omega))) (fun H2 e2 ys H3 k r => ?_)
            rw [r, gridS_succ, List.map_append, cat_row]
            rfl
          · subst r
            exact dp_grid (sq_of h')
        have ho6 := e6 _ _ ho5
        have hr6 := e6 _ _ hr5
        have ht6 := e6 _ _ ht5
        have hc6 := e6 _ _ hc5
        have hd6 := e6 _ _ hd5
        refine q_when (b := false) ?_ (fun hb => by cases hb) (fun _ H7 e7 => ?_)
        · refine et_test (ev_neSame (d := .list [gridD h n f, gridD h m g']) (evd_of (ev_var rfl) (.lst (sq_of ht6) (.cons (dp_grid (sq_of hc6)) (.cons (dp_grid (sq_of hd6)) .nil)))) ?_ (shp_two _ _ _ _ _) (by decide))
          exact evd_lst (.cons (evd_of (ev_var rfl) (dp_grid (sq_of ho6))) (.cons (evd_of (ev_var rfl) (dp_grid (sq_of hr6))) .nil)) (Nat.le_of_ble_eq_true rfl)
        have e57 := (e5.trans e6).trans e7
        refine s_app (v := .str "") ((e6.trans e7) _ _ hu) (ev_var rfl) ev_c (by rw [List.length_map, gridS_len]; omega) (fun Ha ea => ?_)
        have e5a := e57.trans ea
        refine ⟨_, _, _, rfl, ?_, ?_, ?_, ?_, ?_, ?_, ?_⟩
        · rw [upd_ne n1]
          exact e5a _ _ ha
        · rw [upd_ne n2]
          exact e5a _ _ hp
        · rw [upd_ne n3]
          exact e5a _ _ ho
        · rw [upd_ne n4]
          exact e5a _ _ hr2
        · rw [upd_ne n5]
          exact e5a _ _ ht
        · rw [upd_ne n6]
          exact e5a _ _ hc
        · rw [upd_ne n7]
          exact e5a _ _ hd
      · rintro σ' H' ⟨y5, y6, y7, rfl, ha, hp, _⟩
        exact ⟨_, _, _, _, _, _, _, rfl, ha, hp⟩
    · rintro p σ' H' ⟨y1, y2, y3, y4, y5, y6, y7, rfl, ha, hp⟩
      refine s_ret (v := .bl (true && true)) (ev_andV ?_ (fun _ => ?_)) (fun H2 e2 => q H2)
      · refine ev_eqSame (d := gridD 1 3 (fun r c => !(c == 1))) (evd_lp (lp_beside2 (h := 1) (n := 1) (m := 2) (f := fun r c => true) (g := fun r c => c == 1) (EvL.toLP (el_lst (vs := (gridS 1 1 fun r c => true).map V.str) (by walk_at "ea") (by decide)) (fun _ _ => rfl)) (EvL.toLP (el_lst (vs := (gridS 1 2 fun r c => c == 1).map V.str) (by walk_at "ea") (by decide)) (fun _ _ => rfl)) (by decide) (by decide) (by decide) (by decide) (by decide)) fun p vs H' h' r => ?_) ?_ (shp_grid _ _ _) (by decide)
        · subst r
          exact dp_grid (h := 1) (w := 3) (f := fun r c => !(c == 1)) (sq_of h')
        · exact evd_lst (ds := [.str (rowS (fun c => !(c == 1)) 3)]) (.cons (evd_str ev_c) .nil) (by decide)
      · refine ev_is (v := .bl (decide (((rowS (catF 8 (fun r c => true) (fun r c => false) 0) 16).length : Int) = 16))) (ev_op (ev_cb (ea_cons (ev_ixLP (lp_beside2 (h := 1) (n := 8) (m := 8) (f := fun r c => true) (g := fun r c => false) (EvL.toLP (el_lst (vs := (gridS 1 8 fun r c => true).map V.str) (by walk_at "ea") (by decide)) (fun _ _ => rfl)) (EvL.toLP (el_lst (vs := (gridS 1 8 fun r c => false).map V.str) (by walk_at "ea") (by decide)) (fun _ _ => rfl)) (by decide) (by decide) (by decide) (by decide) (by decide)) ev_c (fun vs H' r => ?_)) ea_nil) (rc_lenS (by rw [rowS_len]; decide))) ev_c rv_eqI) ?_
        · subst r
          rfl
        · rw [rowS_len]
          rfl
end
theorem all_mk {l : PySem.W.OpenLaw} {w : World} {K : PySem.W.Frag} {h : Heap} {mg : Str → Option Value} {fa : Addr} (X : K.In h) (G : h.Ns mainGlobals mg) (hfa : mg "law" = some (.ref fa))
    {f0 : Addr} {od0 an0 : Option Addr} {sl0 : Array (Option Value)} {oc0 kV0 dc0 pm0 cd0 ct0 : Value}
    {f1 : Addr} {od1 an1 : Option Addr} {sl1 : Array (Option Value)} {oc1 kV1 dc1 pm1 cd1 ct1 : Value}
    {f2 : Addr} {od2 an2 : Option Addr} {sl2 : Array (Option Value)} {oc2 kV2 dc2 pm2 cd2 ct2 : Value}
    {f3 : Addr} {od3 an3 : Option Addr} {sl3 : Array (Option Value)} {oc3 kV3 dc3 pm3 cd3 ct3 : Value}
    {f4 : Addr} {od4 an4 : Option Addr} {sl4 : Array (Option Value)} {oc4 kV4 dc4 pm4 cd4 ct4 : Value}
    {f5 : Addr} {od5 an5 : Option Addr} {sl5 : Array (Option Value)} {oc5 kV5 dc5 pm5 cd5 ct5 : Value}
    {f6 : Addr} {od6 an6 : Option Addr} {sl6 : Array (Option Value)} {oc6 kV6 dc6 pm6 cd6 ct6 : Value}
    {f7 : Addr} {od7 an7 : Option Addr} {sl7 : Array (Option Value)} {oc7 kV7 dc7 pm7 cd7 ct7 : Value}
    {f8 : Addr} {od8 an8 : Option Addr} {sl8 : Array (Option Value)} {oc8 kV8 dc8 pm8 cd8 ct8 : Value}
    {f9 : Addr} {od9 an9 : Option Addr} {sl9 : Array (Option Value)} {oc9 kV9 dc9 pm9 cd9 ct9 : Value}
    {t1 t2 t3 : Tok}
    (a0 : PySem.W.nsIn K mainGlobals "check_grid" = some (some (.ref f0)))
    (l0 : K.lookup f0 = some ⟨oc0, od0, .func (PySem.W.fnOf "check_grid" "check_grid" (defArgs st_check_grid) (defBody st_check_grid) (defScope st_check_grid) .none kV0 dc0 pm0 an0 cd0 ct0), sl0⟩)
    (c0 : PySem.W.codeIn K cd0 "check_grid" = true)
    (k0 : PySem.W.keepIn K (.ref f0) = true)
    (a1 : PySem.W.nsIn K mainGlobals "check_row" = some (some (.ref f1)))
    (l1 : K.lookup f1 = some ⟨oc1, od1, .func (PySem.W.fnOf "check_row" "check_row" (defArgs st_check_row) (defBody st_check_row) (defScope st_check_row) .none kV1 dc1 pm1 an1 cd1 ct1), sl1⟩)
    (c1 : PySem.W.codeIn K cd1 "check_row" = true)
    (k1 : PySem.W.keepIn K (.ref f1) = true)
    (a2 : PySem.W.nsIn K mainGlobals "beside" = some (some (.ref f2)))
    (l2 : K.lookup f2 = some ⟨oc2, od2, .func (PySem.W.fnOf "beside" "beside" (defArgs st_beside) (defBody st_beside) (defScope st_beside) .none kV2 dc2 pm2 an2 cd2 ct2), sl2⟩)
    (c2 : PySem.W.codeIn K cd2 "beside" = true)
    (k2 : PySem.W.keepIn K (.ref f2) = true)
    (a3 : PySem.W.nsIn K mainGlobals "check_seam" = some (some (.ref f3)))
    (l3 : K.lookup f3 = some ⟨oc3, od3, .func (PySem.W.fnOf "check_seam" "check_seam" (defArgs st_check_seam) (defBody st_check_seam) (defScope st_check_seam) .none kV3 dc3 pm3 an3 cd3 ct3), sl3⟩)
    (c3 : PySem.W.codeIn K cd3 "check_seam" = true)
    (k3 : PySem.W.keepIn K (.ref f3) = true)
    (a4 : PySem.W.nsIn K mainGlobals "_law_cell_at" = some (some (.ref f4)))
    (l4 : K.lookup f4 = some ⟨oc4, od4, .func (PySem.W.fnOf "_law_cell_at" "_law_cell_at" (defArgs st__law_cell_at) (defBody st__law_cell_at) (defScope st__law_cell_at) .none kV4 dc4 pm4 an4 cd4 ct4), sl4⟩)
    (c4 : PySem.W.codeIn K cd4 "_law_cell_at" = true)
    (k4 : PySem.W.keepIn K (.ref f4) = true)
    (a5 : PySem.W.nsIn K mainGlobals "_law_draw" = some (some (.ref f5)))
    (l5 : K.lookup f5 = some ⟨oc5, od5, .func (PySem.W.fnOf "_law_draw" "_law_draw" (defArgs st__law_draw) (defBody st__law_draw) (defScope st__law_draw) .none kV5 dc5 pm5 an5 cd5 ct5), sl5⟩)
    (c5 : PySem.W.codeIn K cd5 "_law_draw" = true)
    (k5 : PySem.W.keepIn K (.ref f5) = true)
    (a6 : PySem.W.nsIn K mainGlobals "_law_sign" = some (some (.ref f6)))
    (l6 : K.lookup f6 = some ⟨oc6, od6, .func (PySem.W.fnOf "_law_sign" "_law_sign" (defArgs st__law_sign) (defBody st__law_sign) (defScope st__law_sign) .none kV6 dc6 pm6 an6 cd6 ct6), sl6⟩)
    (c6 : PySem.W.codeIn K cd6 "_law_sign" = true)
    (k6 : PySem.W.keepIn K (.ref f6) = true)
    (a7 : PySem.W.nsIn K mainGlobals "_law_grid" = some (some (.ref f7)))
    (l7 : K.lookup f7 = some ⟨oc7, od7, .func (PySem.W.fnOf "_law_grid" "_law_grid" (defArgs st__law_grid) (defBody st__law_grid) (defScope st__law_grid) .none kV7 dc7 pm7 an7 cd7 ct7), sl7⟩)
    (c7 : PySem.W.codeIn K cd7 "_law_grid" = true)
    (k7 : PySem.W.keepIn K (.ref f7) = true)
    (a8 : PySem.W.nsIn K mainGlobals "_law_is_grid" = some (some (.ref f8)))
    (l8 : K.lookup f8 = some ⟨oc8, od8, .func (PySem.W.fnOf "_law_is_grid" "_law_is_grid" (defArgs st__law_is_grid) (defBody st__law_is_grid) (defScope st__law_is_grid) .none kV8 dc8 pm8 an8 cd8 ct8), sl8⟩)
    (c8 : PySem.W.codeIn K cd8 "_law_is_grid" = true)
    (k8 : PySem.W.keepIn K (.ref f8) = true)
    (a9 : PySem.W.nsIn K mainGlobals "law" = some (some (.ref f9)))
    (l9 : K.lookup f9 = some ⟨oc9, od9, .func (PySem.W.fnOf "law" "law" (defArgs st_law) (defBody st_law) (defScope st_law) .none kV9 dc9 pm9 an9 cd9 ct9), sl9⟩)
    (c9 : PySem.W.codeIn K cd9 "law" = true)
    (k9 : PySem.W.keepIn K (.ref f9) = true)
    (z_len : PySem.W.nsIn K mainGlobals "len" = some none)
    (z_list : PySem.W.nsIn K mainGlobals "list" = some none)
    (z_isinstance : PySem.W.nsIn K mainGlobals "isinstance" = some none)
    (z_str : PySem.W.nsIn K mainGlobals "str" = some none)
    (z_int : PySem.W.nsIn K mainGlobals "int" = some none)
    (z_bool : PySem.W.nsIn K mainGlobals "bool" = some none)
    (z_tuple : PySem.W.nsIn K mainGlobals "tuple" = some none)
    (z_enumerate : PySem.W.nsIn K mainGlobals "enumerate" = some none)
    (z_range : PySem.W.nsIn K mainGlobals "range" = some none)
    (z_min : PySem.W.nsIn K mainGlobals "min" = some none)
    (z_max : PySem.W.nsIn K mainGlobals "max" = some none)
    (z_all : PySem.W.nsIn K mainGlobals "all" = some none)
    (z_any : PySem.W.nsIn K mainGlobals "any" = some none)
    (z_zip : PySem.W.nsIn K mainGlobals "zip" = some none)
    (z_reversed : PySem.W.nsIn K mainGlobals "reversed" = some none)
    (z_sorted : PySem.W.nsIn K mainGlobals "sorted" = some none)
    (z_set : PySem.W.nsIn K mainGlobals "set" = some none)
    (z_sum : PySem.W.nsIn K mainGlobals "sum" = some none)
    (g0_mc : PySem.W.nsIn K mainGlobals "LAND" = some (some (.str "#" t1)))
    (g1_mc : PySem.W.nsIn K mainGlobals "WATER" = some (some (.str "." t2)))
    (g2_mc : PySem.W.nsIn K mainGlobals "MOST" = some (some (.int 16 t3))) :
    ∃ fd : FuncData, (∀ (s : Shared) (v : Value), BindsTo s fd ⟨[v], []⟩ [("_law_script", v)]) ∧ ∀ base : Heap, K.In base → base.Ns mainGlobals mg → FnOk l.prog w K mg base CX0 5 fa fd ["_law_script"] (spLaw K) := by
  have e := hfa.symm.trans (PySem.W.mg_of X G a9)
  cases e
  refine ⟨PySem.W.fnOf "law" "law" (defArgs st_law) (defBody st_law) (defScope st_law) .none kV9 dc9 pm9 an9 cd9 ct9, fun s v => .of_eq rfl, fun base _ _ => ?_⟩
  have B : Bl mg := ⟨PySem.W.mg_none_of X G z_len, PySem.W.mg_none_of X G z_list, PySem.W.mg_none_of X G z_isinstance, PySem.W.mg_none_of X G z_str, PySem.W.mg_none_of X G z_int, PySem.W.mg_none_of X G z_bool, PySem.W.mg_none_of X G z_tuple, PySem.W.mg_none_of X G z_enumerate, PySem.W.mg_none_of X G z_range, PySem.W.mg_none_of X G z_min, PySem.W.mg_none_of X G z_max, PySem.W.mg_none_of X G z_all, PySem.W.mg_none_of X G z_any, PySem.W.mg_none_of X G z_zip, PySem.W.mg_none_of X G z_reversed, PySem.W.mg_none_of X G z_sorted, PySem.W.mg_none_of X G z_set, PySem.W.mg_none_of X G z_sum⟩
  have F_check_grid := fun_mk (st := st_check_grid) l0 c0 k0
  have A_check_grid : At K mg "check_grid" ["grid"] st_check_grid f0 _ := ⟨F_check_grid, PySem.W.mg_of X G a0, F_check_grid.binds (ps := ["grid"]) fun _ _ _ _ _ _ us hl => match us, hl with | [_], _ => rfl⟩
  have F_check_row := fun_mk (st := st_check_row) l1 c1 k1
  have A_check_row : At K mg "check_row" ["row"] st_check_row f1 _ := ⟨F_check_row, PySem.W.mg_of X G a1, F_check_row.binds (ps := ["row"]) fun _ _ _ _ _ _ us hl => match us, hl with | [_], _ => rfl⟩
  have F_beside := fun_mk (st := st_beside) l2 c2 k2
  have A_beside : At K mg "beside" ["one", "other"] st_beside f2 _ := ⟨F_beside, PySem.W.mg_of X G a2, F_beside.binds (ps := ["one", "other"]) fun _ _ _ _ _ _ us hl => match us, hl with | [_, _], _ => rfl⟩
  have F_check_seam := fun_mk (st := st_check_seam) l3 c3 k3
  have A_check_seam : At K mg "check_seam" ["one", "other"] st_check_seam f3 _ := ⟨F_check_seam, PySem.W.mg_of X G a3, F_check_seam.binds (ps := ["one", "other"]) fun _ _ _ _ _ _ us hl => match us, hl with | [_, _], _ => rfl⟩
  have F__law_cell_at := fun_mk (st := st__law_cell_at) l4 c4 k4
  have A__law_cell_at : At K mg "_law_cell_at" ["_law_script", "_law_k"] st__law_cell_at f4 _ := ⟨F__law_cell_at, PySem.W.mg_of X G a4, F__law_cell_at.binds (ps := ["_law_script", "_law_k"]) fun _ _ _ _ _ _ us hl => match us, hl with | [_, _], _ => rfl⟩
  have F__law_draw := fun_mk (st := st__law_draw) l5 c5 k5
  have A__law_draw : At K mg "_law_draw" ["_law_cell", "_law_k", "_law_many"] st__law_draw f5 _ := ⟨F__law_draw, PySem.W.mg_of X G a5, F__law_draw.binds (ps := ["_law_cell", "_law_k", "_law_many"]) fun _ _ _ _ _ _ us hl => match us, hl with | [_, _, _], _ => rfl⟩
  have F__law_sign := fun_mk (st := st__law_sign) l6 c6 k6
  have A__law_sign : At K mg "_law_sign" ["_law_cell", "_law_row", "_law_column", "_law_kind", "_law_rim"] st__law_sign f6 _ := ⟨F__law_sign, PySem.W.mg_of X G a6, F__law_sign.binds (ps := ["_law_cell", "_law_row", "_law_column", "_law_kind", "_law_rim"]) fun _ _ _ _ _ _ us hl => match us, hl with | [_, _, _, _, _], _ => rfl⟩
  have F__law_grid := fun_mk (st := st__law_grid) l7 c7 k7
  have A__law_grid : At K mg "_law_grid" ["_law_script", "_law_by", "_law_most"] st__law_grid f7 _ := ⟨F__law_grid, PySem.W.mg_of X G a7, F__law_grid.binds (ps := ["_law_script", "_law_by", "_law_most"]) fun _ _ _ _ _ _ us hl => match us, hl with | [_, _, _], _ => rfl⟩
  have F__law_is_grid := fun_mk (st := st__law_is_grid) l8 c8 k8
  have A__law_is_grid : At K mg "_law_is_grid" ["_law_found"] st__law_is_grid f8 _ := ⟨F__law_is_grid, PySem.W.mg_of X G a8, F__law_is_grid.binds (ps := ["_law_found"]) fun _ _ _ _ _ _ us hl => match us, hl with | [_], _ => rfl⟩
  have A_law := fun_mk (st := st_law) l9 c9 k9
  have T : Mc mg := ⟨⟨t1, PySem.W.mg_of X G g0_mc⟩, ⟨t2, PySem.W.mg_of X G g1_mc⟩, ⟨t3, PySem.W.mg_of X G g2_mc⟩⟩
  have C__law_cell_at := ok_cellAt (P := l.prog) (w := w) (base := base) B A__law_cell_at
  have C__law_draw := ok_draw (P := l.prog) (w := w) (base := base) B A__law_draw
  have C__law_sign := ok_sign B C__law_draw A__law_sign
  have C__law_grid := ok_grid B C__law_cell_at C__law_draw C__law_sign A__law_grid
  have C_check_row := ok_row (P := l.prog) (w := w) (base := base) B T A_check_row
  have C_check_grid := ok_check B T C_check_row A_check_grid
  have C_check_seam := ok_seamC B T C_check_grid A_check_seam
  have C_beside := ok_beside B C_check_seam A_beside
  have C__law_is_grid := ok_isGrid (P := l.prog) (w := w) (base := base) B A__law_is_grid
  exact ok_law B C__law_grid C_beside C__law_is_grid A_law
end MW
open PySem PySem.W PyProof.Rows
set_option maxHeartbeats 0 in
theorem PySem.Challenge.cw_moorwalk_k04_beside_holds : PySem.Challenge.rw_moorwalk_k04_beside.Holds := by
  w_on; o_law; k_head; (case hw => w_witness2)
  k_fill
  refine L2.walk_of (l := PySem.Challenge.rw_moorwalk_k04_beside) (n := 63) (k := 5) (x := "_law_script") (CX := fun _ => L2.CX0) (sp := fun w => MW.spLaw _) rfl (by decide) rfl ⟨rfl, by decide, by decide⟩
    (fun w h Y => PySem.W.kIn_of Y) ?F (fun _ _ a ns hl _ hS => ⟨a, ns, rfl, hS, hl, fun _ => rfl⟩) (fun _ _ _ _ _ h => h)
  case F =>
    intro w mg fa h KX G hmg
    refine' MW.all_mk KX G hmg ?a0 ?l0 ?c0 ?k0 ?a1 ?l1 ?c1 ?k1 ?a2 ?l2 ?c2 ?k2 ?a3 ?l3 ?c3 ?k3 ?a4 ?l4 ?c4 ?k4 ?a5 ?l5 ?c5 ?k5 ?a6 ?l6 ?c6 ?k6 ?a7 ?l7 ?c7 ?k7 ?a8 ?l8 ?c8 ?k8 ?a9 ?l9 ?c9 ?k9 ?z_len ?z_list ?z_isinstance ?z_str ?z_int ?z_bool ?z_tuple ?z_enumerate ?z_range ?z_min ?z_max ?z_all ?z_any ?z_zip ?z_reversed ?z_sorted ?z_set ?z_sum ?g0_mc ?g1_mc ?g2_mc
    (case a0 => k_is); (case l0 => k_is); (case c0 => k_is); (case k0 => k_is); (case a1 => k_is); (case l1 => k_is); (case c1 => k_is); (case k1 => k_is); (case a2 => k_is); (case l2 => k_is); (case c2 => k_is); (case k2 => k_is); (case a3 => k_is); (case l3 => k_is); (case c3 => k_is); (case k3 => k_is); (case a4 => k_is); (case l4 => k_is); (case c4 => k_is); (case k4 => k_is); (case a5 => k_is); (case l5 => k_is); (case c5 => k_is); (case k5 => k_is); (case a6 => k_is); (case l6 => k_is); (case c6 => k_is); (case k6 => k_is); (case a7 => k_is); (case l7 => k_is); (case c7 => k_is); (case k7 => k_is); (case a8 => k_is); (case l8 => k_is); (case c8 => k_is); (case k8 => k_is); (case a9 => k_is); (case l9 => k_is); (case c9 => k_is); (case k9 => k_is); (case z_len => k_is); (case z_list => k_is); (case z_isinstance => k_is); (case z_str => k_is); (case z_int => k_is); (case z_bool => k_is); (case z_tuple => k_is); (case z_enumerate => k_is); (case z_range => k_is); (case z_min => k_is); (case z_max => k_is); (case z_all => k_is); (case z_any => k_is); (case z_zip => k_is); (case z_reversed => k_is); (case z_sorted => k_is); (case z_set => k_is); (case z_sum => k_is); (case g0_mc => k_is); (case g1_mc => k_is); (case g2_mc => k_is)
